import PyProof.Rows.All
import Wide.FinOn
import KE.KStrOpen
import KE.KFromBytes
import KE.KMinKey
import KE.KTryMore
import KE.KDictLaws
import KE.KRevSl
import KE.KRevIter
import KE.KIntText
import KE.KxWritten
import KE.KDictOf
import Lean
import PyProof.EqAt
import PyProof.EqKinds
import PyProof.TupleCall
import PyProof.ZipIter
import PyProof.EnumMake
import PyProof.Rows.SortRunsK
import KE.KSortTup
import PySem.Challenge.RW_twomakes_k23_late_worths
set_option compiler.extract_closed false
local macro_rules | `(tactic| omega) => `(tactic| first | decide +kernel | exact Nat.le_trans (by repeat (first | assumption | refine Nat.add_le_add_right ?_ _)) (by decide +kernel) | omega (config:={}))
set_option Elab.async false
set_option linter.all false
set_option maxRecDepth 100000
theorem rz0(h:True:=by rfl):True:=h
abbrev ra0:=@rz0._auto_1
theorem rz1(h:True:=by decide):True:=h
abbrev ra1:=@rz1._auto_1
theorem rz2(h:True:=by intro _;rfl):True:=h
abbrev ra2:=@rz2._auto_1
theorem rz3(h:True:=by with_unfolding_all rfl):True:=h
abbrev ra3:=@rz3._auto_1
theorem rz4(h:True:=by first | exact .inl rfl | exact .inr rfl | assumption):True:=h
abbrev ra4:=@rz4._auto_1
theorem rz5(h:True:=by intro _ _ _ _;rfl):True:=h
abbrev ra5:=@rz5._auto_1
theorem rz6(h:True:=by k_is):True:=h
abbrev ra6:=@rz6._auto_1
theorem rz7(h:True:=by first | exact aar _ | decide | omega):True:=h
abbrev ra7:=@rz7._auto_1
theorem rz8(h:True:=by exact fun _ _=>rfl):True:=h
abbrev ra8:=@rz8._auto_1
theorem rz9(h:True:=by decide +kernel):True:=h
abbrev ra9:=@rz9._auto_1
abbrev zn:=PySem.W.Frag
abbrev yp:=List (PySem.Addr×PySem.Obj)
abbrev xz:=PySem.Value->PySem.Shared->Prop
abbrev xL:=PySem.Str->Option PySem.Value
abbrev wf:=List PySem.Value
abbrev wn:=List Int
abbrev wv:=List PySem.Str
abbrev ww:=List PySem.Addr
abbrev wE:=List PySem.PyData
abbrev wP:=Option PySem.Value
abbrev wS:=Option PySem.Addr
abbrev wT:=PySem.FuncData
abbrev v0:=Option Int
abbrev ut:=List PySem.Expr
abbrev tx:=List PySem.Stmt
abbrev tz:=List (Int×Int)
abbrev sB:=PySem.Program
abbrev sK:=PySem.Around
abbrev aak:=@PySem.wpAny_bind
abbrev aal:=@List.length_map
abbrev aam:=@PySem.Heap.get?_push_of_some
abbrev aan:=@List.getElem?_eq_some_iff
abbrev aao:=@PySem.wpAny_pure
abbrev aap:=@List.getElem?_map
abbrev aaq:=@List.mem_singleton
abbrev aar:=@Nat.le_refl
abbrev aas:=@List.getElem?_eq_getElem
abbrev aat:=@List.mem_cons
abbrev aau:=@List.getD_eq_getElem?_getD
abbrev aav:=@List.mem_append
abbrev aaw:=@List.mem_cons_of_mem
abbrev aax:=@List.mem_cons_self
abbrev aay:=@PySem.Heap.lt_size
abbrev aaz:=@PySem.Heap.get?_push_size
abbrev aaA:=@Nat.le_trans
abbrev aaB:=@Int.toNat_natCast
abbrev aaC:=@Bool.false_ne_true
abbrev aaD:=@if_neg
abbrev aaE:=@List.size_toArray
abbrev aaF:=@decide_eq_false
abbrev aaG:=@PySem.F.plainAttrs_list
abbrev aaH:=@Option.map_eq_some_iff
abbrev aaI:=@PySem.W.Fast.te14364793385576792824
abbrev aaJ:=@Nat.le_of_lt
abbrev aaK:=@Bool.and_eq_true
abbrev aaL:=@Nat.lt_of_lt_of_le
abbrev aaM:=@decide_eq_true
abbrev aaN:=@if_pos
abbrev aaO:=@Array.length_toList
abbrev aaP:=@List.length_append
abbrev aaQ:=@PySem.F.slot_list_append
abbrev aaR:=@PySem.F.type_list_append
abbrev aaS:=@List.mem_append_right
abbrev aaT:=@List.take_add_one
abbrev aaU:=@List.map_append
abbrev aaV:=@List.length_cons
abbrev aaW:=@Nat.zero_le
abbrev aaX:=@PySem.W.Fast.te10110043849684766642
abbrev aaY:=@Nat.le_succ_of_le
abbrev aaZ:=@List.map_cons
abbrev aa0:=@List.mem_of_getElem?
abbrev aa1:=@Nat.ne_of_lt
abbrev aa2:=@of_decide_eq_true
abbrev aa3:=@PySem.boot_len
abbrev aa4:=@List.mem_filter
abbrev aa5:=@Option.some.inj
abbrev aa6:=@Nat.lt_irrefl
abbrev aa7:=@PySem.W.mg_none_of
abbrev aa8:=@List.length_take
abbrev aa9:=@PySem.Heap.SameBut.update
abbrev aba:=@List.all_cons
abbrev abb:=@Int.eq_ofNat_of_zero_le
abbrev abc:=@List.mem_map
abbrev abd:=@List.lookup_cons
abbrev abe:=@List.take_length
abbrev abf:=@PySem.Obj.data_mapFields
abbrev abg:=@Array.getElem?_eq_getElem
abbrev abh:=@PySem.Heap.get?_update_self
abbrev abi:=@Ne.symm
abbrev abj:=@PySem.wpAny_holding
abbrev abk:=@PyProof.Rows.wpS_bind
abbrev abl:=@List.not_mem_nil
abbrev abm:=@PySem.Heap.size_push
abbrev abn:=@PySem.wpAny_newObj_type
abbrev abo:=@List.pairwise_iff_getElem
abbrev abp:=@List.take_of_length_le
abbrev abq:=@PySem.wpAny_call_entry
abbrev abr:=@PySem.wpAny_callSpecial?_slot
abbrev abt:=@List.getElem?_append_right
abbrev abu:=@List.mem_of_mem_drop
abbrev abv:=@Int.emod_lt_of_pos
abbrev abw:=@PySem.Heap.get?_update_other
abbrev abx:=@PySem.W.kia_one
abbrev aby:=@List.getElem?_zip_eq_some
abbrev abz:=@List.all_eq_true
abbrev abA:=@List.getElem_mem
abbrev abB:=@PySem.wpAny_mono
abbrev abC:=@Option.isSome_iff_exists
abbrev abD:=@List.nodup_cons
abbrev abE:=@PySem.wpAny_field
abbrev abF:=@PySem.wpAny_ite_split
abbrev abG:=@List.pairwise_cons
abbrev abH:=@Array.getElem_toList
abbrev abI:=@Nat.lt_succ_self
abbrev abJ:=@congrArg
abbrev abK:=@PySem.wpAny_truthy_bool
abbrev abL:=@PySem.wpAny_pyIter_list
abbrev abM:=@Nat.le_succ
abbrev abN:=@PySem.W.mg_of
abbrev abO:=@Array.getElem?_toList
abbrev abP:=@Int.emod_nonneg
abbrev abQ:=@List.take_append_drop
abbrev abR:=@List.getElem?_take_of_lt
abbrev abS:=@PyProof.Rows.wpS_pure
abbrev abT:=@List.getElem?_of_mem
abbrev abU:=@List.length_eq_zero_iff
abbrev abV:=@PyProof.Rows.F.plain_set_update_loop
abbrev abW:=@List.append_assoc
abbrev abX:=@PyProof.Rows.callWith_type1
abbrev abY:=@PySem.F.slot_tuple_iterator_next
abbrev abZ:=@List.length_drop
abbrev ab0:=@Nat.ne_of_gt
abbrev ab1:=@PySem.wpAny_Call_Name_kw
abbrev ab2:=@PySem.Obj.isFreed_of_fields
abbrev ab3:=@PySem.wpAny_setField_rec
abbrev ab4:=@Bool.false_eq_true
abbrev ab5:=@Int.zero_add
abbrev ab6:=@List.getElem?_append_left
abbrev ab7:=@PySem.wpAny_seqItems
abbrev ab8:=@PySem.wpAny_setField
abbrev ab9:=@PySem.Around.under_plainId
abbrev aca:=@List.getLast?_append
abbrev acb:=@List.mem_of_mem_take
abbrev acd:=@PySem.wpAny_passesOwn
abbrev ace:=@List.append_nil
abbrev acf:=@PyProof.Rows.slot_tuple_getitem
abbrev acg:=@Nat.le_of_eq
abbrev ach:=@List.map_map
abbrev aci:=@PySem.mem_of_lookup
abbrev acj:=@List.any_cons
abbrev ack:=@List.map_take
abbrev acm:=@List.map_drop
abbrev acn:=@Int.le_refl
abbrev aco:=@PyProof.Rows.boot_tuple
abbrev acp:=@List.pairwise_singleton
abbrev acq:=@beq_iff_eq
abbrev acr:=@List.filter_append
abbrev acs:=@PySem.codeAny_mono
abbrev acu:=@List.find?_cons
abbrev acv:=@List.length_singleton
abbrev acw:=@PyProof.Rows.KeyOrd.kle_refl
abbrev acx:=@PySem.codeAny_builtin
abbrev acy:=@PySem.wpAny_rule
abbrev acz:=@PySem.W.looks_pair
abbrev acA:=@Array.perm_iff_toList_perm
abbrev acB:=@List.mem_append_left
abbrev acC:=@PySem.F.args_object_init_3
abbrev acD:=@List.mem_iff_getElem
abbrev acE:=@List.pairwise_append
abbrev acF:=@List.drop_eq_getElem_cons
abbrev acG:=@PyProof.Rows.F.entry_set_update_loop
abbrev acH:=@beq_eq_false_iff_ne
abbrev acI:=@List.filterMap_cons
abbrev acJ:=@List.filter_sublist
abbrev acK:=@PySem.F.args_tuple_add_2
abbrev acL:=@PySem.W.Fast.te5923862056798008813
abbrev acM:=@List.of_mem_zip
abbrev acN:=@PySem.F.entry_tuple_add
abbrev acO:=@Nat.lt_of_le_of_lt
abbrev acP:=@PySem.wpAny_pyIter_tuple
abbrev acQ:=@Bool.or_eq_true
abbrev acR:=@List.length_nil
abbrev acS:=@Nat.min_eq_left
abbrev acT:=@List.filter_cons_of_neg
abbrev acU:=@List.filter_cons_of_pos
abbrev acV:=@PySem.F.slot_tuple_add
abbrev acW:=@if_true
abbrev acX:=@PySem.Obj.cls_mapFields
abbrev acY:=@PyProof.Rows.KeyOrd.kle_of_klt
abbrev acZ:=@Nat.lt_trichotomy
abbrev ac0:=@List.Perm.refl
abbrev ac1:=@List.length_replicate
abbrev ac2:=@PyProof.Rows.callWith_builtin1
abbrev ac3:=@PyProof.Rows.wpS_forRange
abbrev ac4:=@Nat.sub_self
abbrev ac5:=@Int.le_trans
abbrev ac6:=@List.concat_eq_append
abbrev ac7:=@PySem.wpAny_eqBool_int
abbrev ac8:=@PySem.F.typeCall_zip_2
abbrev ac9:=@List.getElem_map
abbrev ada:=@PyProof.Rows.KeyOrd.kle_trans
abbrev adb:=@PyProof.Rows.reverseSlice'_eq
abbrev ade:=@decide_eq_decide
abbrev adf:=@List.any_eq_true
abbrev adg:=@List.cons_append
abbrev adh:=@List.getElem?_set_ne
abbrev adi:=@PySem.wpAny_updateSeq_pair
abbrev adj:=@Array.toArray_toList
abbrev adk:=@PySem.wpAny_attempt
abbrev adl:=@or_false
abbrev adm:=@PySem.plainId_quiet
abbrev adn:=@PyProof.Rows.wpS_modify
abbrev ado:=@PySem.wpAny_execs_nil
abbrev adp:=@Bool.eq_iff_iff
abbrev adq:=@PySem.W.plainGet_of
abbrev ads:=@PySem.F.slot_zip_next
abbrev adt:=@PySem.F.newCall_zip_2
abbrev adu:=@PySem.F.entry_zip_new
abbrev adv:=@List.mem_filterMap
abbrev adw:=@PySem.Calls.spliced_cons
abbrev adx:=@PySem.W.callWith_K
abbrev ady:=@if_false
abbrev adz:=@Nat.zero_add
abbrev adA:=@List.countP_append
abbrev adB:=@Nat.succ.inj
abbrev adC:=@List.mem_or_eq_of_mem_set
abbrev adD:=@PySem.F.plain_extend_loop
abbrev adE:=@PySem.Calls.spliced_nil
abbrev adF:=@Nat.lt_succ_of_lt
abbrev adG:=@List.getElem_take
abbrev adH:=@List.pairwise_map
abbrev adI:=@List.nodup_append
abbrev adJ:=@PyProof.Rows.boot_sorted
abbrev adK:=@PyProof.Rows.Reads.keeps
abbrev adL:=@List.find?_append
abbrev adM:=@Decidable.not_not
abbrev adN:=@PySem.W.piece_app
abbrev adO:=@PySem.W.segRun_of
abbrev adP:=@PySem.wpAny_standAt
abbrev adQ:=@PySem.wpAny_onRaise
abbrev adR:=@Nat.min_le_right
abbrev adS:=@beq_self_eq_true
abbrev adT:=@List.map_snd_zip
abbrev adU:=@List.getElem_set
abbrev adV:=@List.ext_getElem
abbrev adW:=@List.length_set
abbrev adX:=@List.forIn_cons
abbrev adY:=@PySem.callType_new
abbrev adZ:=@PySem.F.called_zip
abbrev ad0:=@List.length_zip
abbrev ad1:=@List.map_set
abbrev ad2:=@PySem.intKind_is
abbrev ad3:=@List.forIn_nil
namespace L2
open PySem
def defArgs(s:Stmt):Arguments:=match s with
 | .FunctionDef _ a _ _ _ _ _ _ _ _=>a
 | _=>{ posonlyargs:=[],args:=[],vararg:=none,kwonlyargs:=[],kw_defaults:=[],kwarg:=none,defaults:=[] }
def defBody(s:Stmt):List Stmt:=match s with
 | .FunctionDef _ _ b _ _ _ _ _ _ _=>b
 | _=>[]
def defScope(s:Stmt):Scope:=match s with
 | .FunctionDef _ _ _ _ _ _ sc _ _ _=>sc
 | _=>{ kind:=.function,names:=[],isGenerator:=false,isCoroutine:=false }
end L2
namespace T1
open PySem
def top(i:Nat):Stmt:=PySem.Challenge.pw_twomakes_k23_late_worths.main.body.getD i (.Pass ⟨0,0,0,0⟩)
def YS:tx->Nat->Stmt
 | x::_,0=>x
 | _::r,n+1=>YS r n
 | [],_=>.Pass ⟨0,0,0,0⟩
def met(j i:Nat):Stmt:=match top j with
 | .ClassDef _ _ _ b _ _ _ _ _ _ _=>YS b i
 | x=>x
end T1
section
open PySem PySem.W
namespace HD
open L2 T1 PySem.W.Fast
abbrev O:=Params->Obj
noncomputable def evn:List O->List O
 | a::_::r=>a::evn r
 | x=>x
noncomputable def bt(P:Params):Nat->List O->BT
 | k+1,f::r=>.node (f P) (bt P k (evn r)) (bt P k (evn (r.drop 1)))
 | _,_=>.nil
def i(n:Int):Value:=.int n 0
def r(n:Nat):Value:=.ref n
def e(P:Params)(x:Str)(t:Nat)(v:Value):DictEntry:=⟨PyData.keyHash P x,.str x t,v⟩
def fn(n q:Str)(s:Stmt)(g:Nat)(d m c:Value):FuncData:=⟨n,q,defArgs s,.stmts (defBody s),defScope s,g,[],d,.none,.none,m,none,c,.none,0⟩
def fo(n q:Str)(s:Stmt)(g:Nat)(d m c:Value):Obj:=⟨.type "function",none,.func (fn n q s g d m c),#[]⟩
def fz(n q:Str)(s:Stmt):Obj:=⟨.none,none,.func (fn n q s 0 .none .none .none),#[]⟩
def tu(l:Array Value):Obj:=⟨.type "tuple",none,.seq l 0,#[]⟩
noncomputable def co(n q:Str)(t u:Nat)(l:List Value):Obj:=⟨.type "code",none,.fields (.str n t::.str q (t+1)::.str "/claim/cut.py" (t+2)::(l++[.str "/claim/cut.py" u])).toArray,#[]⟩
def mo0:Value:=.str "__main__" 164
def mo1:Value:=.str "twomakes.mills" 262
def mo2:Value:=.str "twomakes.rules" 352
def mo3:Value:=.str "twomakes.plain" 422
def mo4:Value:=.str "twomakes.things" 466
def mo5:Value:=.str "twomakes.holder" 475
def mo6:Value:=.str "law_twomakes_k23_late_worths" 713
section
local macro_rules
 | `(#synth $n:num [$xs,*])=>do
  let w (k:Nat):Lean.Term:=Lean.quote k
  let mut ys:Array Lean.Term:=#[]
  for x in xs.getElems do
   match x with
   | `(($q:str,$s,[$as,*],$t:num,$l,$a,$f,$b:num,$m)) =>
    let n:Lean.Term:=Lean.quote ((q.getString.splitOn ".").getLast!)
    let T:=t.getNat
    let B:=b.getNat
    let z:=as.getElems
    let k:=z.size
    if k > 0 then
     let g <- z.mapIdxM fun j y=>`(.str $y $(w (T+3+j)))
     ys:=ys.push (<- `(tu #[$g,*]))
    ys:=ys.push (<- `(fz $n $q ($s)))
    let g <- if k > 0 then `([r $(w (B+2)),r $(w (B+3)),r $(w (B+4))])else `([.none,.none,r $(w (B+2))])
    ys:=ys.push (<- `(co $n $q $t $(w (T+4+k)) ([i $l,i $a,i 0,i 0,i $f,r $b,.bool true,i 181,r $(w (B+1)),.none]++$g++[i $(w (T+3+k)),i $l])))
    ys:=ys.push (<- `(fo $n $q ($s) 3 .none $m (r $(w (if k > 0 then B+5 else B+3)))))
   | _=>ys:=ys.push x
  let c <- ys.mapIdxM fun j x=>`(noncomputable def $(Lean.mkIdent (.mkSimple s!"a{n.getNat + j}")):ident:=((fun $(Lean.mkIdent `P)=>$x):O))
  return Lean.mkNullNode c
#synth 11 [tu #[],
⟨.none,none,.fields #[],#[]⟩,
co "<module>" "<module>" 182 186 [i 1,i 0,i 0,i 0,i 0,r 11,.bool false,i 181,r 12,.none,.none,.none,.none,i 185,i 1],
⟨.type "frame",none,.plain,#[some (r 13),some (r 3),some (r 3),none,some mo0,none,some (r 0)]⟩,
⟨.type "dict",none,.dict #[e P "__name__" 165 (.str "twomakes.errors" 194),e P "__doc__" 166 .none,e P "__package__" 167 .none,e P "__loader__" 168 (.builtin "__main__.__loader__#opaque"),e P "__spec__" 169 .none,e P "__annotations__" 170 (r 6),e P "__builtins__" 171 (r 4),e P "__file__" 173 (.str "/claim/cut.py" 172),e P "__cached__" 174 .none,e P "_wall" 193 (r 21),e P "MakeError" 213 (r 31),e P "Resting" 229 (r 44)] 12,#[]⟩,
⟨.none,none,.fields #[i 1,i 0,r 20,i 5,i 0,r 27,i 7,i 0,r 40],#[]⟩,
("_wall",top 0,["k"],187,1,1,3,15,mo0),
tu #[.type "ValueError"],
⟨.type "builtin_function_or_method",none,.fields #[.builtin "type.__prepare__",.type "type"],#[]⟩,
⟨.type "dict",none,.dict #[e P "__module__" 203 (.str "twomakes.errors" 194),e P "__qualname__" 205 (.str "MakeError" 204),e P "__firstlineno__" 207 (.int 5 206),e P "__static_attributes__" 208 (r 29)] 4,#[]⟩,
co "MakeError" "MakeError" 198 202 [i 5,i 0,i 0,i 0,i 0,r 25,.bool false,i 181,r 26,.none,.none,.none,.none,i 201,i 5],
⟨.type "frame",none,.plain,#[some (r 27),some (r 3),some (r 24),none,some (.str "twomakes.errors" 194),none,some (r 0)]⟩,
⟨.type "dict",none,.dict #[e P "__module__" 203 (.str "twomakes.errors" 194),e P "__firstlineno__" 207 (.int 5 206),e P "__static_attributes__" 208 (r 29),e P "__weakref__" 210 (r 32),e P "__doc__" 211 .none] 3,#[]⟩,
⟨.type "type",none,.cls ⟨"MakeError",[.type "ValueError"],[r 31,.type "ValueError",.type "Exception",.type "BaseException",.type "object"],30, "MakeError",true,[],[r 44],false,none,false⟩,#[some (r 22),none,some (.str "MakeError" 196),some (.str "MakeError" 204),some (.builtin "ValueError.__new__"),some (.bool true)]⟩,
⟨.type "getset_descriptor",none,.fields #[.str "__weakref__" 209,r 31,.builtin "ExceptionGroup.__weakref__",.none],#[]⟩,
⟨.type "super",none,.fields #[r 31,r 31,r 31],#[]⟩,
⟨.type "builtin_function_or_method",none,.fields #[.builtin "object.__init_subclass__",r 31],#[]⟩,
tu #[r 31],
⟨.type "dict",none,.dict #[e P "__module__" 221 (.str "twomakes.errors" 194),e P "__qualname__" 223 (.str "Resting" 222),e P "__firstlineno__" 225 (.int 7 224),e P "__static_attributes__" 226 (r 42)] 4,#[]⟩,
co "Resting" "Resting" 216 220 [i 7,i 0,i 0,i 0,i 0,r 38,.bool false,i 181,r 39,.none,.none,.none,.none,i 219,i 7],
⟨.type "frame",none,.plain,#[some (r 40),some (r 3),some (r 37),none,some (.str "twomakes.errors" 194),none,some (r 0)]⟩,
⟨.type "dict",none,.dict #[e P "__module__" 221 (.str "twomakes.errors" 194),e P "__firstlineno__" 225 (.int 7 224),e P "__static_attributes__" 226 (r 42),e P "__doc__" 227 .none] 2,#[]⟩,
⟨.type "type",none,.cls ⟨"Resting",[r 31],[r 44,r 31,.type "ValueError",.type "Exception",.type "BaseException",.type "object"],43, "Resting",true,[],[],false,none,false⟩,#[some (r 35),none,some (.str "Resting" 214),some (.str "Resting" 222),some (.builtin "ValueError.__new__"),some (.bool true)]⟩,
⟨.type "super",none,.fields #[r 44,r 44,r 44],#[]⟩,
⟨.type "builtin_function_or_method",none,.fields #[.builtin "object.__init_subclass__",r 44],#[]⟩,
⟨.type "dict",none,.dict #[e P "__name__" 165 mo1,e P "__doc__" 166 .none,e P "__package__" 167 .none,e P "__loader__" 168 (.builtin "__main__.__loader__#opaque"),e P "__spec__" 169 .none,e P "__annotations__" 170 (r 6),e P "__builtins__" 171 (r 4),e P "__file__" 173 (.str "/claim/cut.py" 172),e P "__cached__" 174 .none,e P "_wall" 193 (r 21),e P "MakeError" 213 (r 31),e P "Resting" 229 (r 44),e P "NoBell" 245 (r 56),e P "Shut" 261 (r 68),e P "CELLS" 265 (.int 16 264),e P "WORTHS" 267 (.int 4294967296 266)] 16,#[]⟩,
⟨.none,none,.fields #[i 1,i 0,r 20,i 5,i 0,r 27,i 7,i 0,r 40,i 9,i 0,r 52,i 11,i 0,r 64],#[]⟩,
⟨.type "type",none,.cls ⟨"MakeError",[.type "ValueError"],[r 31,.type "ValueError",.type "Exception",.type "BaseException",.type "object"],30, "MakeError",true,[],[r 44,r 56,r 68],false,none,false⟩,#[some (r 22),none,some (.str "MakeError" 196),some (.str "MakeError" 204),some (.builtin "ValueError.__new__"),some (.bool true)]⟩,
⟨.type "dict",none,.dict #[e P "__module__" 237 (.str "twomakes.errors" 194),e P "__qualname__" 239 (.str "NoBell" 238),e P "__firstlineno__" 241 (.int 9 240),e P "__static_attributes__" 242 (r 54)] 4,#[]⟩,
co "NoBell" "NoBell" 232 236 [i 9,i 0,i 0,i 0,i 0,r 50,.bool false,i 181,r 51,.none,.none,.none,.none,i 235,i 9],
⟨.type "frame",none,.plain,#[some (r 52),some (r 3),some (r 49),none,some (.str "twomakes.errors" 194),none,some (r 0)]⟩,
⟨.type "dict",none,.dict #[e P "__module__" 237 (.str "twomakes.errors" 194),e P "__firstlineno__" 241 (.int 9 240),e P "__static_attributes__" 242 (r 54),e P "__doc__" 243 .none] 2,#[]⟩,
⟨.type "type",none,.cls ⟨"NoBell",[r 31],[r 56,r 31,.type "ValueError",.type "Exception",.type "BaseException",.type "object"],55, "NoBell",true,[],[],false,none,false⟩,#[some (r 47),none,some (.str "NoBell" 230),some (.str "NoBell" 238),some (.builtin "ValueError.__new__"),some (.bool true)]⟩,
⟨.type "super",none,.fields #[r 56,r 56,r 56],#[]⟩,
⟨.type "builtin_function_or_method",none,.fields #[.builtin "object.__init_subclass__",r 56],#[]⟩,
⟨.type "dict",none,.dict #[e P "__module__" 253 (.str "twomakes.errors" 194),e P "__qualname__" 255 (.str "Shut" 254),e P "__firstlineno__" 257 (.int 11 256),e P "__static_attributes__" 258 (r 66)] 4,#[]⟩,
co "Shut" "Shut" 248 252 [i 11,i 0,i 0,i 0,i 0,r 62,.bool false,i 181,r 63,.none,.none,.none,.none,i 251,i 11],
⟨.type "frame",none,.plain,#[some (r 64),some (r 3),some (r 61),none,some (.str "twomakes.errors" 194),none,some (r 0)]⟩,
⟨.type "dict",none,.dict #[e P "__module__" 253 (.str "twomakes.errors" 194),e P "__firstlineno__" 257 (.int 11 256),e P "__static_attributes__" 258 (r 66),e P "__doc__" 259 .none] 2,#[]⟩,
⟨.type "type",none,.cls ⟨"Shut",[r 31],[r 68,r 31,.type "ValueError",.type "Exception",.type "BaseException",.type "object"],67, "Shut",true,[],[],false,none,false⟩,#[some (r 59),none,some (.str "Shut" 246),some (.str "Shut" 254),some (.builtin "ValueError.__new__"),some (.bool true)]⟩,
⟨.type "super",none,.fields #[r 68,r 68,r 68],#[]⟩,
⟨.type "builtin_function_or_method",none,.fields #[.builtin "object.__init_subclass__",r 68],#[]⟩,
⟨.type "dict",none,.dict #[e P "__name__" 165 mo2,e P "__doc__" 166 .none,e P "__package__" 167 .none,e P "__loader__" 168 (.builtin "__main__.__loader__#opaque"),e P "__spec__" 169 .none,e P "__annotations__" 170 (r 6),e P "__builtins__" 171 (r 4),e P "__file__" 173 (.str "/claim/cut.py" 172),e P "__cached__" 174 .none,e P "_wall" 193 (r 21),e P "MakeError" 213 (r 31),e P "Resting" 229 (r 44),e P "NoBell" 245 (r 56),e P "Shut" 261 (r 68),e P "CELLS" 265 (.int 16 264),e P "WORTHS" 267 (.int 4294967296 266),e P "PARTS" 307 (r 71),e P "SLOW_WORDS" 310 (r 82),e P "wrapped" 317 (r 89),e P "cell_at" 325 (r 96),e P "spots_read" 335 (r 103),e P "spot_written" 344 (r 110),e P "is_slow" 351 (r 117),e P "worth_got" 365 (r 124),e P "what_it_writes" 375 (r 131),e P "place_behind" 385 (r 138),e P "is_shut_behind" 393 (r 145)] 27,#[]⟩,
⟨.none,none,.fields #[i 1,i 0,r 20,i 5,i 0,r 27,i 7,i 0,r 40,i 9,i 0,r 52,i 11,i 0,r 64,i 18,i 0,r 88,i 20,i 0,r 95,i 22,i 0,r 102,i 28,i 0,r 109,i 33,i 0,r 116,i 36,i 0,r 123,i 49,i 0,r 130,i 56,i 0,r 137,i 62,i 0,r 144],#[]⟩,
⟨.type "dict",none,.dict #[e P "put" 268 (r 72),e P "sum" 271 (r 73),e P "mul" 275 (r 74),e P "less" 279 (r 75),e P "take" 283 (r 76),e P "lay" 287 (r 77),e P "go" 291 (r 78),e P "shut" 294 (r 79),e P "open" 295 (r 80),e P "home" 296 (r 81)] 10,#[]⟩,
tu #[.str "d" 269,.str "worth" 270],
tu #[.str "d" 272,.str "a" 273,.str "b" 274],
tu #[.str "d" 276,.str "a" 277,.str "b" 278],
tu #[.str "d" 280,.str "a" 281,.str "b" 282],
tu #[.str "d" 284,.str "a" 285,.str "n" 286],
tu #[.str "b" 288,.str "a" 289,.str "n" 290],
tu #[.str "a" 292,.str "p" 293],
tu #[.str "mul" 308,.str "take" 309],
("wrapped",top 11,["number"],311,18,1,3,83,mo1),
("cell_at",top 12,["worth", "n"],318,20,2,3,90,mo1),
("spots_read",top 13,["row", "spots", "part", "number"],326,22,1,3,97,mo1),
("spot_written",top 14,["row", "part", "number"],336,28,1,3,104,mo1),
("is_slow",top 15,["row"],345,33,1,3,111,mo1),
("worth_got",top 17,["row", "spots", "cells", "word", "one", "other"],354,36,3,3,118,mo2),
("what_it_writes",top 18,["row", "spots", "cells", "spot"],366,49,3,3,125,mo2),
("place_behind",top 19,["row", "place", "spots", "kept"],376,56,4,3,132,mo2),
("is_shut_behind",top 20,["row", "shut"],386,62,2,3,139,mo2),
⟨.type "dict",none,.dict #[e P "__name__" 165 mo5,e P "__doc__" 166 .none,e P "__package__" 167 .none,e P "__loader__" 168 (.builtin "__main__.__loader__#opaque"),e P "__spec__" 169 .none,e P "__annotations__" 170 (r 6),e P "__builtins__" 171 (r 4),e P "__file__" 173 (.str "/claim/cut.py" 172),e P "__cached__" 174 .none,e P "_wall" 193 (r 21),e P "MakeError" 213 (r 31),e P "Resting" 229 (r 44),e P "NoBell" 245 (r 56),e P "Shut" 261 (r 68),e P "CELLS" 265 (.int 16 264),e P "WORTHS" 267 (.int 4294967296 266),e P "PARTS" 307 (r 71),e P "SLOW_WORDS" 310 (r 82),e P "wrapped" 317 (r 89),e P "cell_at" 325 (r 96),e P "spots_read" 335 (r 103),e P "spot_written" 344 (r 110),e P "is_slow" 351 (r 117),e P "worth_got" 365 (r 124),e P "what_it_writes" 375 (r 131),e P "place_behind" 385 (r 138),e P "is_shut_behind" 393 (r 145),e P "kept_behind" 401 (r 152),e P "is_bell" 409 (r 159),e P "bells_rung" 415 (r 164),e P "bells_waiting" 421 (r 169),e P "rests" 431 (r 176),e P "with_written" 441 (r 183),e P "step" 456 (r 190),e P "bell" 465 (r 197),e P "thing_of" 474 (r 204)] 36,#[]⟩,
⟨.none,none,.fields #[i 1,i 0,r 20,i 5,i 0,r 27,i 7,i 0,r 40,i 9,i 0,r 52,i 11,i 0,r 64,i 18,i 0,r 88,i 20,i 0,r 95,i 22,i 0,r 102,i 28,i 0,r 109,i 33,i 0,r 116,i 36,i 0,r 123,i 49,i 0,r 130,i 56,i 0,r 137,i 62,i 0,r 144,i 68,i 0,r 151,i 70,i 0,r 158,i 72,i 0,r 163,i 74,i 0,r 168,i 78,i 0,r 175,i 80,i 0,r 182,i 85,i 0,r 189,i 96,i 0,r 196,i 103,i 0,r 203],#[]⟩,
("kept_behind",top 21,["row", "kept"],394,68,2,3,146,mo2),
("is_bell",top 22,["mill", "k"],402,70,2,3,153,mo2),
("bells_rung",top 23,[],410,72,2,3,160,mo2),
("bells_waiting",top 24,[],416,74,3,3,165,mo2),
("rests",top 26,["mill", "state"],424,78,2,3,170,mo3),
("with_written",top 27,["worths", "kind", "wrote", "at"],432,80,3,3,177,mo3),
("step",top 28,["mill", "state", "place", "spots", "cells", "kept", "row", "wrote", "behind"],442,85,2,3,184,mo3),
("bell",top 29,["mill", "state", "k"],457,96,3,3,191,mo3),
("thing_of",top 31,["wrote"],468,103,1,3,198,mo4),
⟨.type "dict",none,.dict #[e P "__name__" 165 mo5,e P "__doc__" 166 .none,e P "__package__" 167 .none,e P "__loader__" 168 (.builtin "__main__.__loader__#opaque"),e P "__spec__" 169 .none,e P "__annotations__" 170 (r 6),e P "__builtins__" 171 (r 4),e P "__file__" 173 (.str "/claim/cut.py" 172),e P "__cached__" 174 .none,e P "_wall" 193 (r 21),e P "MakeError" 213 (r 31),e P "Resting" 229 (r 44),e P "NoBell" 245 (r 56),e P "Shut" 261 (r 68),e P "CELLS" 265 (.int 16 264),e P "WORTHS" 267 (.int 4294967296 266),e P "PARTS" 307 (r 71),e P "SLOW_WORDS" 310 (r 82),e P "wrapped" 317 (r 89),e P "cell_at" 325 (r 96),e P "spots_read" 335 (r 103),e P "spot_written" 344 (r 110),e P "is_slow" 351 (r 117),e P "worth_got" 365 (r 124),e P "what_it_writes" 375 (r 131),e P "place_behind" 385 (r 138),e P "is_shut_behind" 393 (r 145),e P "kept_behind" 401 (r 152),e P "is_bell" 409 (r 159),e P "bells_rung" 415 (r 164),e P "bells_waiting" 421 (r 169),e P "rests" 431 (r 176),e P "with_written" 441 (r 183),e P "step" 456 (r 190),e P "bell" 465 (r 197),e P "thing_of" 474 (r 204),e P "Holder" 699 (r 374)] 37,#[]⟩,
⟨.none,none,.fields #[i 1,i 0,r 20,i 5,i 0,r 27,i 7,i 0,r 40,i 9,i 0,r 52,i 11,i 0,r 64,i 18,i 0,r 88,i 20,i 0,r 95,i 22,i 0,r 102,i 28,i 0,r 109,i 33,i 0,r 116,i 36,i 0,r 123,i 49,i 0,r 130,i 56,i 0,r 137,i 62,i 0,r 144,i 68,i 0,r 151,i 70,i 0,r 158,i 72,i 0,r 163,i 74,i 0,r 168,i 78,i 0,r 175,i 80,i 0,r 182,i 85,i 0,r 189,i 96,i 0,r 196,i 103,i 0,r 203,i 106,i 0,r 210],#[]⟩,
⟨.type "dict",none,.dict #[e P "__module__" 484 mo5,e P "__qualname__" 486 (.str "Holder" 485),e P "__firstlineno__" 488 (.int 106 487),e P "__init__" 499 (r 218),e P "tell" 507 (r 225),e P "first_broken" 513 (r 230),e P "broken_by_end" 519 (r 235),e P "broken_by_wrote" 530 (r 242),e P "broken_by_late" 536 (r 247),e P "broken_by_down" 544 (r 254),e P "broken_by_bell" 553 (r 261),e P "row_now" 560 (r 268),e P "waiting_by" 568 (r 275),e P "is_pressed" 576 (r 282),e P "ends_at" 584 (r 289),e P "take_up" 590 (r 294),e P "take_end" 601 (r 301),e P "take_bell" 609 (r 308),e P "state_now" 616 (r 315),e P "owes" 623 (r 322),e P "lies" 630 (r 329),e P "rings_now" 637 (r 336),e P "all_over" 644 (r 343),e P "parted" 651 (r 350),e P "way_on" 659 (r 357),e P "twin" 666 (r 364),e P "event_on" 673 (r 371),e P "__static_attributes__" 692 (r 372)] 28,#[]⟩,
⟨.none,none,.fields #[i 108,i 4,r 217,i 128,i 4,r 224,i 135,i 4,r 229,i 149,i 4,r 234,i 164,i 4,r 241,i 181,i 4,r 246,i 187,i 4,r 253,i 194,i 4,r 260,i 202,i 4,r 267,i 205,i 4,r 274,i 208,i 4,r 281,i 211,i 4,r 288,i 214,i 4,r 293,i 228,i 4,r 300,i 240,i 4,r 307,i 245,i 4,r 314,i 248,i 4,r 321,i 251,i 4,r 328,i 254,i 4,r 335,i 257,i 4,r 342,i 260,i 4,r 349,i 263,i 4,r 356,i 266,i 4,r 363,i 269,i 4,r 370],#[]⟩,
co "Holder" "Holder" 479 483 [i 106,i 0,i 0,i 0,i 0,r 208,.bool false,i 181,r 209,.none,.none,.none,.none,i 482,i 106],
⟨.type "frame",none,.plain,#[some (r 210),some (r 3),some (r 207),none,some mo5,none,some (r 0)]⟩,
("Holder.__init__",met 33 0,["self", "mill", "state", "rings", "terms"],489,108,5,3,212,mo5),
("Holder.tell",met 33 1,["self", "event"],500,128,2,3,219,mo5),
("Holder.first_broken",met 33 2,[],508,135,2,3,226,mo5),
("Holder.broken_by_end",met 33 3,[],514,149,2,3,231,mo5),
("Holder.broken_by_wrote",met 33 4,["self", "row", "wrote", "right", "is_owed"],520,164,3,3,236,mo5),
("Holder.broken_by_late",met 33 5,[],531,181,2,3,243,mo5),
("Holder.broken_by_down",met 33 6,["self", "event"],537,187,2,3,248,mo5),
("Holder.broken_by_bell",met 33 7,["self", "event", "waiting"],545,194,2,3,255,mo5),
("Holder.row_now",met 33 8,["self"],554,202,1,3,262,mo5),
("Holder.waiting_by",met 33 9,["self", "beat"],561,205,2,3,269,mo5),
("Holder.is_pressed",met 33 10,["self", "beat"],569,208,2,3,276,mo5),
("Holder.ends_at",met 33 11,["self", "beat"],577,211,2,3,283,mo5),
("Holder.take_up",met 33 12,[],585,214,2,3,290,mo5),
("Holder.take_end",met 33 13,["self", "beat", "wrote", "done", "right"],591,228,3,3,295,mo5),
("Holder.take_bell",met 33 14,["self", "k"],602,240,2,3,302,mo5),
("Holder.state_now",met 33 15,["self"],610,245,1,3,309,mo5),
("Holder.owes",met 33 16,["self"],617,248,1,3,316,mo5),
("Holder.lies",met 33 17,["self"],624,251,1,3,323,mo5),
("Holder.rings_now",met 33 18,["self"],631,254,1,3,330,mo5),
("Holder.all_over",met 33 19,["self"],638,257,1,3,337,mo5),
("Holder.parted",met 33 20,["self"],645,260,1,3,344,mo5),
("Holder.way_on",met 33 21,["self", "m"],652,263,2,3,351,mo5),
("Holder.twin",met 33 22,["self"],660,266,1,3,358,mo5),
("Holder.event_on",met 33 23,["self"],667,269,1,3,365,mo5),
tu #[.str "beat" 674,.str "cause" 675,.str "ends" 676,.str "ends_of_beat" 677,.str "events" 678,.str "laid" 679,.str "longest" 680,.str "mill" 681,.str "owed" 682,.str "patience" 683,.str "pressed" 684,.str "queue" 685,.str "rings" 686,.str "room" 687,.str "state" 688,.str "taken" 689,.str "terms" 690,.str "width" 691],
⟨.type "dict",none,.dict #[e P "__module__" 484 mo5,e P "__firstlineno__" 488 (.int 106 487),e P "__init__" 499 (r 218),e P "tell" 507 (r 225),e P "first_broken" 513 (r 230),e P "broken_by_end" 519 (r 235),e P "broken_by_wrote" 530 (r 242),e P "broken_by_late" 536 (r 247),e P "broken_by_down" 544 (r 254),e P "broken_by_bell" 553 (r 261),e P "row_now" 560 (r 268),e P "waiting_by" 568 (r 275),e P "is_pressed" 576 (r 282),e P "ends_at" 584 (r 289),e P "take_up" 590 (r 294),e P "take_end" 601 (r 301),e P "take_bell" 609 (r 308),e P "state_now" 616 (r 315),e P "owes" 623 (r 322),e P "lies" 630 (r 329),e P "rings_now" 637 (r 336),e P "all_over" 644 (r 343),e P "parted" 651 (r 350),e P "way_on" 659 (r 357),e P "twin" 666 (r 364),e P "event_on" 673 (r 371),e P "__static_attributes__" 692 (r 372),e P "__dict__" 694 (r 375),e P "__weakref__" 696 (r 376),e P "__doc__" 697 .none] 4,#[]⟩,
⟨.type "type",none,.cls ⟨"Holder",[.type "object"],[r 374,.type "object"],373, "Holder",true,[],[],false,none,false⟩,#[none,none,some (.str "Holder" 477),some (.str "Holder" 485),some (.builtin "object.__new__"),some (.bool true)]⟩,
⟨.type "getset_descriptor",none,.fields #[.str "__dict__" 693,r 374,.builtin "function.__dict__",.builtin "function.__dict__#set"],#[]⟩,
⟨.type "getset_descriptor",none,.fields #[.str "__weakref__" 695,r 374,.builtin "ExceptionGroup.__weakref__",.none],#[]⟩,
⟨.type "super",none,.fields #[r 374,r 374,r 374],#[]⟩,
⟨.type "builtin_function_or_method",none,.fields #[.builtin "object.__init_subclass__",r 374],#[]⟩,
⟨.type "dict",none,.dict #[e P "__name__" 165 mo6,e P "__doc__" 166 .none,e P "__package__" 167 .none,e P "__loader__" 168 (.builtin "__main__.__loader__#opaque"),e P "__spec__" 169 .none,e P "__annotations__" 170 (r 6),e P "__builtins__" 171 (r 4),e P "__file__" 173 (.str "/claim/cut.py" 172),e P "__cached__" 174 .none,e P "_wall" 193 (r 21),e P "MakeError" 213 (r 31),e P "Resting" 229 (r 44),e P "NoBell" 245 (r 56),e P "Shut" 261 (r 68),e P "CELLS" 265 (.int 16 264),e P "WORTHS" 267 (.int 4294967296 266),e P "PARTS" 307 (r 71),e P "SLOW_WORDS" 310 (r 82),e P "wrapped" 317 (r 89),e P "cell_at" 325 (r 96),e P "spots_read" 335 (r 103),e P "spot_written" 344 (r 110),e P "is_slow" 351 (r 117),e P "worth_got" 365 (r 124),e P "what_it_writes" 375 (r 131),e P "place_behind" 385 (r 138),e P "is_shut_behind" 393 (r 145),e P "kept_behind" 401 (r 152),e P "is_bell" 409 (r 159),e P "bells_rung" 415 (r 164),e P "bells_waiting" 421 (r 169),e P "rests" 431 (r 176),e P "with_written" 441 (r 183),e P "step" 456 (r 190),e P "bell" 465 (r 197),e P "thing_of" 474 (r 204),e P "Holder" 699 (r 374),e P "parting" 712 (r 385),e P "_law_bag" 724 (r 392),e P "_law_draw" 735 (r 399),e P "_law_far" 744 (r 406),e P "_law_worth" 752 (r 413),e P "_law_slow_rows" 765 (r 420),e P "_law_worths_of" 776 (r 427),e P "_law_row_more" 789 (r 434),e P "_law_keys" 803 (r 441),e P "_law_events" 816 (r 448),e P "_law_owed_ahead" 826 (r 455),e P "_law_room" 832 (r 460),e P "_law_late_more" 838 (r 465),e P "_law_width" 844 (r 470),e P "_law_right" 852 (r 477)] 52,#[]⟩,
⟨.none,none,.fields #[i 1,i 0,r 20,i 5,i 0,r 27,i 7,i 0,r 40,i 9,i 0,r 52,i 11,i 0,r 64,i 18,i 0,r 88,i 20,i 0,r 95,i 22,i 0,r 102,i 28,i 0,r 109,i 33,i 0,r 116,i 36,i 0,r 123,i 49,i 0,r 130,i 56,i 0,r 137,i 62,i 0,r 144,i 68,i 0,r 151,i 70,i 0,r 158,i 72,i 0,r 163,i 74,i 0,r 168,i 78,i 0,r 175,i 80,i 0,r 182,i 85,i 0,r 189,i 96,i 0,r 196,i 103,i 0,r 203,i 106,i 0,r 210,i 271,i 0,r 384,i 278,i 0,r 391,i 288,i 0,r 398,i 299,i 0,r 405,i 304,i 0,r 412,i 311,i 0,r 419,i 318,i 0,r 426,i 326,i 0,r 433,i 339,i 0,r 440,i 351,i 0,r 447,i 359,i 0,r 454,i 369,i 0,r 459,i 377,i 0,r 464,i 393,i 0,r 469,i 399,i 0,r 476],#[]⟩,
("parting",top 34,["mill", "state", "rings", "terms", "diary", "holder", "event"],700,271,5,3,379,mo5),
("_law_bag",top 36,["script", "great", "fold", "cell"],715,278,1,3,386,mo6),
("_law_draw",top 37,["bag", "many", "great", "one", "mixed"],725,288,2,3,393,mo6),
("_law_far",top 38,["bag", "far", "k"],736,299,1,3,400,mo6),
("_law_worth",top 39,["bag", "kind"],745,304,1,3,407,mo6),
("_law_slow_rows",top 40,["bag", "many", "order", "rows", "k", "a", "b"],753,311,3,3,414,mo6),
("_law_worths_of",top 41,["rows", "spots", "cells", "found", "row"],766,318,3,3,421,mo6),
("_law_row_more",top 42,["bag", "many", "spot", "spots", "other", "n", "kind"],777,326,4,3,428,mo6),
("_law_keys",top 43,["bag", "beats", "longest", "spoilt", "keys", "k", "wait", "tie"],790,339,4,3,435,mo6),
("_law_events",top 44,["keys", "rows", "worths", "diary", "beat", "tie", "k"],804,351,3,3,442,mo6),
("_law_owed_ahead",top 45,["diary", "found", "owed", "event"],817,359,1,3,449,mo6),
("_law_room",top 46,[],827,369,3,3,456,mo6),
("_law_late_more",top 47,[],833,377,4,3,461,mo6),
("_law_width",top 48,[],839,393,1,3,466,mo6),
("_law_right",top 49,["found", "due"],845,399,2,3,471,mo6),
⟨.type "dict",none,.dict #[e P "__name__" 165 mo6,e P "__doc__" 166 .none,e P "__package__" 167 .none,e P "__loader__" 168 (.builtin "__main__.__loader__#opaque"),e P "__spec__" 169 .none,e P "__annotations__" 170 (r 6),e P "__builtins__" 171 (r 4),e P "__file__" 173 (.str "/claim/cut.py" 172),e P "__cached__" 174 .none,e P "_wall" 193 (r 21),e P "MakeError" 213 (r 31),e P "Resting" 229 (r 44),e P "NoBell" 245 (r 56),e P "Shut" 261 (r 68),e P "CELLS" 265 (.int 16 264),e P "WORTHS" 267 (.int 4294967296 266),e P "PARTS" 307 (r 71),e P "SLOW_WORDS" 310 (r 82),e P "wrapped" 317 (r 89),e P "cell_at" 325 (r 96),e P "spots_read" 335 (r 103),e P "spot_written" 344 (r 110),e P "is_slow" 351 (r 117),e P "worth_got" 365 (r 124),e P "what_it_writes" 375 (r 131),e P "place_behind" 385 (r 138),e P "is_shut_behind" 393 (r 145),e P "kept_behind" 401 (r 152),e P "is_bell" 409 (r 159),e P "bells_rung" 415 (r 164),e P "bells_waiting" 421 (r 169),e P "rests" 431 (r 176),e P "with_written" 441 (r 183),e P "step" 456 (r 190),e P "bell" 465 (r 197),e P "thing_of" 474 (r 204),e P "Holder" 699 (r 374),e P "parting" 712 (r 385),e P "_law_bag" 724 (r 392),e P "_law_draw" 735 (r 399),e P "_law_far" 744 (r 406),e P "_law_worth" 752 (r 413),e P "_law_slow_rows" 765 (r 420),e P "_law_worths_of" 776 (r 427),e P "_law_row_more" 789 (r 434),e P "_law_keys" 803 (r 441),e P "_law_events" 816 (r 448),e P "_law_owed_ahead" 826 (r 455),e P "_law_room" 832 (r 460),e P "_law_late_more" 838 (r 465),e P "_law_width" 844 (r 470),e P "_law_right" 852 (r 477),e P "_law_asked" 864 (r 484),e P "_law_spoilt" 870 (r 489),e P "_law_beats" 880 (r 496),e P "law" 886 (r 501)] 56,#[]⟩,
⟨.none,none,.fields #[i 1,i 0,r 20,i 5,i 0,r 27,i 7,i 0,r 40,i 9,i 0,r 52,i 11,i 0,r 64,i 18,i 0,r 88,i 20,i 0,r 95,i 22,i 0,r 102,i 28,i 0,r 109,i 33,i 0,r 116,i 36,i 0,r 123,i 49,i 0,r 130,i 56,i 0,r 137,i 62,i 0,r 144,i 68,i 0,r 151,i 70,i 0,r 158,i 72,i 0,r 163,i 74,i 0,r 168,i 78,i 0,r 175,i 80,i 0,r 182,i 85,i 0,r 189,i 96,i 0,r 196,i 103,i 0,r 203,i 106,i 0,r 210,i 271,i 0,r 384,i 278,i 0,r 391,i 288,i 0,r 398,i 299,i 0,r 405,i 304,i 0,r 412,i 311,i 0,r 419,i 318,i 0,r 426,i 326,i 0,r 433,i 339,i 0,r 440,i 351,i 0,r 447,i 359,i 0,r 454,i 369,i 0,r 459,i 377,i 0,r 464,i 393,i 0,r 469,i 399,i 0,r 476,i 407,i 0,r 483,i 412,i 0,r 488,i 426,i 0,r 495,i 431,i 0,r 500],#[]⟩,
("_law_asked",top 50,["mill", "state", "terms", "diary", "due", "handed"],853,407,5,3,478,mo6),
("_law_spoilt",top 51,[],865,412,5,3,485,mo6),
("_law_beats",top 52,["bag", "many", "beats", "k"],871,426,2,3,490,mo6),
("law",top 53,[],881,431,1,3,497,mo6)]
end
section
local macro_rules
 | `(#[$k:num])=>do
  let mut x:Array Lean.Term:=#[]
  let mut d:Array Lean.Term:=#[]
  let mut v:Lean.Term <- `([])
  let mut u:Array (Nat×Lean.Term):=#[]
  let mut m:=0
  for c in "b- b- b 303 b- b- b- b- b- b- b- 11- n- 13- 14- 11 12- 17 11 18- 19 20 21 22- 23- 11- 12- 24- 25- 11 26 41 28 29- 30- 31 22- 32- 11- 12- 33- 34- 11 35 36 37- 38- 31 22- 42- 11- 12- 43- 44- 11 45 46 47- 48- 31 22- 49- 11- 12- 50- 51- 11 52 53 54- 55- 58 59 60 61 62 63 64 65 11 11 11 66 11 12- 67 11 68- 69 70 11 12- 71 11 72- 73 74 11 12- 75 11 76- 77 78 11 12- 79 11 80- 81 82 11 12- 83 11 84- 85 86 11 12- 87 11 88- 89 90 11 12- 91 11 92- 93 94 11 12- 95 11 96- 97 98 11 12- 99 11 100- 101 102 11 12- 105 11 106- 107 108 11 12- 109 11 110- 111 112 11 12- 113- 114 115 11 12- 116- 117 118 11 12- 119 11 120- 121 122 11 12- 123 11 124- 125 126 11 12- 127 11 128- 129 130 11 12- 131 11 132- 133 134 11 12- 135 11 136- 137 138 11- 22- 141- 11- 142- 143- 144- 11 12- 145 11 146- 147 148 11 12- 149 11 150- 151 152 11 12- 153- 154 155 11 12- 156- 157 158 11 12- 159 11 160- 161 162 11 12- 163- 164 165 11 12- 166 11 167- 168 169 11 12- 170 11 171- 172 173 11 12- 174 11 175- 176 177 11 12- 178 11 179- 180 181 11 12- 182 11 183- 184 185 11 12- 186 11 187- 188 189 11 12- 190- 191 192 11 12- 193 11 194- 195 196 11 12- 197 11 198- 199 200 11 12- 201 11 202- 203 204 11 12- 205 11 206- 207 208 11 12- 209 11 210- 211 212 11 12- 213 11 214- 215 216 11 12- 217 11 218- 219 220 11 12- 221 11 222- 223 224 11 12- 225 11 226- 227 228 11 12- 229 11 230- 231 232 11 12- 233 11 234- 235 236 237 238 239 240 241 242- 243- 11 12- 246 11 247- 248 249 11 12- 250 11 251- 252 253 11 12- 254 11 255- 256 257 11 12- 258 11 259- 260 261 11 12- 262 11 263- 264 265 11 12- 266 11 267- 268 269 11 12- 270 11 271- 272 273 11 12- 274 11 275- 276 277 11 12- 278 11 279- 280 281 11 12- 282 11 283- 284 285 11 12- 286 11 287- 288 289 11 12- 290- 291 292 11 12- 293- 294 295 11 12- 296- 297 298 11 12- 299 11 300- 301 302 11 12- n 11 n- n n 11 12- n- n n 11 12- n 11 n- n n 11 12- n- n n".splitOn " " do
   let e:=c.takeWhile (· != '-')
   let j:=x.size
   let w:=if e == "n" then m+1 else e.toNat?.getD 0
   m:=max m w
   let o:Lean.Term:=Lean.mkIdent (.mkSimple (if e == "b" then s!"boot_o_{j}" else s!"a{w}"))
   x:=x.push o
   if e == c then
    u:=u.push (j,o)
  for (j,o) in u.reverse do
   v <- `((nat_lit $(Lean.Syntax.mkNumLit s!"{j}"),$o $(Lean.mkIdent `P))::$v)
  d:=u.map fun y=>Lean.quote y.1
  if k.getNat == 0 then `([$x,*])else if k.getNat == 1 then return v else `([$d,*])
noncomputable def hs:List O:=#[0]
noncomputable def K:Params->Frag:=fun P=>#[1]
noncomputable def ad:List Nat:=#[2]
end
noncomputable def q:Program:=view PySem.Challenge.pw_twomakes_k23_late_worths [0,2,3,4,5,7,8,9,10,11,12,13,14,15,17,18,19,20,21,22,23,24,26,27,28,29,31,33,34,36,37,38,39,40,41,42,43,44,45,46,47,48,49,50,51,52,53]
def lo:List Str:=["PARTS"]
noncomputable abbrev _root_.PySem.W.Fast.tw6154421540904494567:Program:=PySem.Challenge.pw_twomakes_k23_late_worths
theorem _root_.PySem.W.Fast.te6154421540904494567:PySem.Challenge.pw_twomakes_k23_late_worths=PySem.W.Fast.tw6154421540904494567:=rfl
noncomputable abbrev pF:Program:=PySem.Challenge.pw_twomakes_k23_late_worths
noncomputable def h0:List O:=[boot_o_0,boot_o_1,boot_o_2,boot_o_3,boot_o_4,boot_o_5,boot_o_6,boot_o_7,boot_o_8,boot_o_9,boot_o_10,a11,a12,a13,a14]
noncomputable def h1:List O:=(((hs.take 47).set 3 a15).set 12 a16).set 31 a27
noncomputable def h2:List O:=((hs.take 71).set 3 a39).set 12 a40
noncomputable def h3:List O:=((hs.take 146).set 3 a56).set 12 a57
noncomputable def h4:List O:=((hs.take 205).set 3 a103).set 12 a104
noncomputable def h5:List O:=((hs.take 379).set 3 a139).set 12 a140
noncomputable def h6:List O:=((hs.take 478).set 3 a244).set 12 a245
def lf:Life:=⟨[],[],[],0,[],[],false,#[],[],0,false,false,false,0,[2000,10,10],false,0,true,[],[],0,false⟩
noncomputable def hA:Params->Heap:=fun P=>⟨(h0.map (· P)).toArray,lf⟩
noncomputable def hF:Params->Heap:=fun P=>⟨(hs.map (· P)).toArray,lf⟩
noncomputable def ev:Env:={ scope:=pF.main.scope,locals:=mainNs,globals:=mainNs,cells:=[],code:=r 13,frame:=some 14 }
noncomputable abbrev bF:List Stmt:=behindTheImports pF
noncomputable abbrev cF:Code:=.body bF ev
abbrev fB:List Frame:=[topFrame ⟨0,0,0,0⟩]
theorem pre(w:World)(os:OsState):topGo treeTable pF w 11 (some (r 6)) 12 ⟨boot_heap w.params,#[],boot_drawn,boot_toks,os⟩ (topStub pF)=some (⟨hA w.params,#[],⟨0,0,0,0⟩,187,os⟩,⟨denote treeTable cF,cF,⟨0,0,0,0⟩,fB⟩):=by
 rw[PySem.W.Fast.te15667345088766844465,aaI,PySem.W.Fast.te11892475500146522536];kernel_rfl
theorem blk(w:World)(os:OsState):segRun treeTable pF w 11 (some (r 6)) 1 1 ⟨hA w.params,#[],⟨0,0,0,0⟩,187,os⟩ (blockOf bF ev cF ⟨0,0,0,0⟩ fB)=some (.next,SharedT.abs ⟨bt w.params 10 h0,15,lf,#[],⟨0,0,0,0⟩,187,os⟩,cF,⟨0,0,0,0⟩):=by
 rw[PySem.W.Fast.te14374325043358763698,aaI];kernel_rfl
noncomputable def g0:List Stmt:=(bF.drop 0).take 4
theorem p0(w:World)(os:OsState):segRunT treeTable pF w 11 (some (r 6)) 1 438 ⟨bt w.params 10 h0,15,lf,#[],⟨0,0,0,0⟩,187,os⟩ (piecesOf g0 ev cF ⟨0,0,0,0⟩ fB)=some (.next,⟨bt w.params 14 h1,47,lf,#[],⟨0,0,0,0⟩,230,os⟩,cF,⟨7,0,8,8⟩):=by
 rw[aaX,aaI];kernel_rfl
noncomputable def g1:List Stmt:=(bF.drop 4).take 5
theorem p1(w:World)(os:OsState):segRunT treeTable pF w 11 (some (r 6)) 1 454 ⟨bt w.params 14 h1,47,lf,#[],⟨0,0,0,0⟩,230,os⟩ (piecesOf g1 ev cF ⟨7,0,8,8⟩ fB)=some (.next,⟨bt w.params 14 h2,71,lf,#[],⟨0,0,0,0⟩,268,os⟩,cF,⟨15,0,15,6⟩):=by
 rw[aaX,aaI];kernel_rfl
noncomputable def g2:List Stmt:=(bF.drop 9).take 12
theorem p2(w:World):∀ os:OsState,segRunT treeTable pF w 11 (some (r 6)) 1 490 ⟨bt w.params 14 h2,71,lf,#[],⟨0,0,0,0⟩,268,os⟩ (piecesOf g2 ev cF ⟨15,0,15,6⟩ fB)=some (.next,⟨bt w.params 14 h3,146,lf,#[],⟨0,0,0,0⟩,394,os⟩,cF,⟨62,0,67,15⟩):=by
 refine byRow2 "special-get-raises" (P:=fun w=>∀ os:OsState,segRunT treeTable pF w 11 (some (r 6)) 1 490 ⟨bt w.params 14 h2,71,lf,#[],⟨0,0,0,0⟩,268,os⟩ (piecesOf g2 ev cF ⟨15,0,15,6⟩ fB)=some (.next,⟨bt w.params 14 h3,146,lf,#[],⟨0,0,0,0⟩,394,os⟩,cF,⟨62,0,67,15⟩)) ?_ ?_ w
 ·intro w os;rw[aaX,aaI];kernel_rfl
 ·intro w os;rw[aaX,aaI];kernel_rfl
noncomputable def g3:List Stmt:=(bF.drop 21).take 12
theorem p3(w:World)(os:OsState):segRunT treeTable pF w 11 (some (r 6)) 1 299 ⟨bt w.params 14 h3,146,lf,#[],⟨0,0,0,0⟩,394,os⟩ (piecesOf g3 ev cF ⟨62,0,67,15⟩ fB)=some (.next,⟨bt w.params 14 h4,205,lf,#[],⟨0,0,0,0⟩,477,os⟩,cF,⟨105,0,105,8⟩):=by
 rw[aaX,aaI];kernel_rfl
noncomputable def g4:List Stmt:=(bF.drop 33).take 1
theorem p4(w:World)(os:OsState):segRunT treeTable pF w 11 (some (r 6)) 1 961 ⟨bt w.params 14 h4,205,lf,#[],⟨0,0,0,0⟩,477,os⟩ (piecesOf g4 ev cF ⟨105,0,105,8⟩ fB)=some (.next,⟨bt w.params 14 h5,379,lf,#[],⟨0,0,0,0⟩,700,os⟩,cF,⟨106,0,270,16⟩):=by
 rw[aaX,aaI];kernel_rfl
noncomputable def g5:List Stmt:=(bF.drop 34).take 16
theorem p5(w:World)(os:OsState):segRunT treeTable pF w 11 (some (r 6)) 1 485 ⟨bt w.params 14 h5,379,lf,#[],⟨0,0,0,0⟩,700,os⟩ (piecesOf g5 ev cF ⟨106,0,270,16⟩ fB)=some (.next,⟨bt w.params 14 h6,478,lf,#[],⟨0,0,0,0⟩,853,os⟩,cF,⟨399,0,406,52⟩):=by
 rw[aaX,aaI];kernel_rfl
noncomputable def g6:List Stmt:=(bF.drop 50).take 4
theorem p6(w:World)(os:OsState):segRunT treeTable pF w 11 (some (r 6)) 1 119 ⟨bt w.params 14 h6,478,lf,#[],⟨0,0,0,0⟩,853,os⟩ (piecesOf g6 ev cF ⟨399,0,406,52⟩ fB)=some (.next,⟨bt w.params 14 hs,502,lf,#[],⟨0,0,0,0⟩,887,os⟩,cF,⟨431,0,466,64⟩):=by
 rw[aaX,aaI];kernel_rfl
theorem fin(w:World)(os:OsState):topRun treeTable pF w 11 (some (r 6)) 2 (SharedT.abs ⟨bt w.params 14 hs,502,lf,#[],⟨0,0,0,0⟩,887,os⟩) ⟨doneF .next,cF,⟨431,0,466,64⟩,fB⟩=some ⟨hF w.params,#[],⟨0,0,0,0⟩,887,os⟩:=by
 rw[PySem.W.Fast.te14082659384304107361,aaI];kernel_rfl
theorem run(w:World)(os:OsState):topRun treeTable pF w 11 (some (r 6)) 3261 ⟨boot_heap w.params,#[],boot_drawn,boot_toks,os⟩ (topStub pF)=some ⟨hF w.params,#[],⟨0,0,0,0⟩,887,os⟩ :=
 go_top (n:=12) (N:=3249) (pre w os) (piece_block (n:=1) (N:=3248) (blk w os) (adN (n:=438) (N:=2810) (l:=g0) (adO (p0 w os)) (adN (n:=454) (N:=2356) (l:=g1) (adO (p1 w os)) (adN (n:=490) (N:=1866) (l:=g2) (adO (p2 w os)) (adN (n:=299) (N:=1567) (l:=g3) (adO (p3 w os)) (adN (n:=961) (N:=606) (l:=g4) (adO (p4 w os)) (adN (n:=485) (N:=121) (l:=g5) (adO (p5 w os)) (adN (n:=119) (N:=2) (l:=g6) (adO (p6 w os)) (fin w os)))))))))
theorem size(w:World):((boot_heap w.params).isNs mainGlobals&&(#[]:Array GenState).size == 0,(boot_heap w.params).objs.size,(boot_heap w.params).nsMap mainGlobals "__annotations__")=(true,11,some (r 6)):=by
 rw[PySem.W.Fast.te8920871248978507458];kernel_rfl
theorem opn:∀ w:World,(fencedOpening treeTable pF w 6604).map (fun s=>(s.heap,s.gens,s.drawn,s.toks))=some (boot_heap w.params,Array.mk [],boot_drawn,boot_toks) :=
 boot_open (by kernel_rfl) (by decide) (fun s=>by kernel_rfl)
noncomputable def KF:Params->Frag:=fun P=>ad.map fun a=>(a,(hF P).objs.getD a default)
theorem kk(P:Params):K P=KF P:=by kernel_rfl
theorem kad(P:Params):ad=(K P).map (·.1):=by kernel_rfl
noncomputable abbrev qF:Program:=q
noncomputable abbrev loF:List Str:=lo
theorem lA(w:World)(os:OsState):(staticsOk (importedModules pF.main.body) (boot_heap w.params) (hF w.params)&&namesBound pF (hF w.params)&&gensDone (⟨hF w.params,#[],⟨0,0,0,0⟩,887,os⟩:Shared)&&laidKept (boot_heap w.params) (hF w.params))=true:=by
 rw[acL];kernel_rfl
theorem lS(w:World)(os:OsState):openSeen qF loF (importedModules pF.main.body) (fun s=>xlAt qF [] s&&recOk [] s) true (⟨hF w.params,#[],⟨0,0,0,0⟩,887,os⟩:Shared)=openGood qF loF:=by
 unfold openSeen openGood;refine acz ?_ (acz ?_ (acz ?_ (acz ?_ (acz ?_ (acz ?_ (acz ?_ (acz ?_ ?_)))))))
 all_goals ((repeat (first | rw[PySem.W.Fast.te2386780881361962483] | rw[PySem.W.Fast.te821141287760084731] | rw[PySem.W.Fast.te11698064438423848299] | rw[PySem.W.Fast.te7317090234206586261] | rw[PySem.W.Fast.te7369524293546568484] | rw[PySem.W.Fast.te5160383126252970620] | rw[PySem.W.Fast.te3399658132070893891] | rw[PySem.W.Fast.te5991557255702980513] | rw[acL] | rw[PySem.W.Fast.te10880121769531294198] | rw[PySem.W.Fast.te7409074990110511671] | rw[PySem.W.Fast.te13664370479719496447] | rw[PySem.W.Fast.te14722251495701143533] | rw[PySem.W.Fast.te10994771534591457954] | rw[PySem.W.Fast.te16090120013241838585] | rw[PySem.W.Fast.te3247288618530077131] | rw[PySem.W.Fast.te479339242167458305]));kernel_rfl)
theorem lY(w:World)(os:OsState):ad.map (Shared.heap (⟨hF w.params,#[],⟨0,0,0,0⟩,887,os⟩:Shared)).get?=(KF w.params).map fun p=>some p.2:=by kernel_rfl
theorem left:LeftO PySem.Challenge.pw_twomakes_k23_late_worths q lo (fun s=>xlAt q [] s&&recOk [] s) (fun s=>ad.map s.heap.get?) (fun w=>(K w.params).map fun p=>some p.2) 6604:=by
 refine LeftO.of_pieces opn size run (by decide) fun w=>?_;funext os;exact acz (lA w os) (acz (lS w os) ((lY w os).trans (abJ (fun l=>List.map (fun p=>some p.2) l) (kk w.params).symm)))
end HD
open PySem PySem.W PyProof.Rows
set_option maxRecDepth 100000 in
set_option maxHeartbeats 0 in
theorem HD.look (hc : ∀ d : DefRec, d.name = "law" → d.params.defaults = [] → PySem.W.WalkO HD.q HD.lo (XL HD.q []) (Hook.says (kHook HD.K HD.ad HD.kad)) PySem.Challenge.rw_twomakes_k23_late_worths.row.toRowW d [] (fun f vs => PySem.call f vs)) : PySem.Challenge.rw_twomakes_k23_late_worths.Holds := by
 w_on;o_law
 refine PySem.W.holds_open (q:=HD.q) (loose:=HD.lo) (Xt:=fun s=>xlAt HD.q [] s&&recOk [] s) (XP:=XL HD.q []) (Yf:=Hook.obs (kHook HD.K HD.ad HD.kad)) (Ya:=Hook.val (kHook HD.K HD.ad HD.kad)) (YP:=Hook.says (kHook HD.K HD.ad HD.kad)) (N:=6604) HD.left (Hook.of (kHook HD.K HD.ad HD.kad)) (Hook.keeps (kHook HD.K HD.ad HD.kad)) (fun s e=>xl_of s (Bool.and_eq_true_iff.mp e).1) XL.keeps (by rfl) (by rfl) (by rfl) (fun s e=>recFacts_of (Bool.and_eq_true_iff.mp e).2) (by rfl) (by first | assumption | decide +kernel) (by decide +kernel) ⟨rfl,rfl,rfl,rfl,rfl,by decide +kernel⟩ ?hw ?hc
 (case hw=>w_witness2)
 case hc =>
 k_fill
 exact hc _ rfl rfl
end
namespace L2
open PySem PySem.Spec PyProof.Rows
variable {us:wf}{x:Str}{u:Value}{a b dx C:Addr}{o c tg:Expr}{P prog:sB}{w:World}{h h' base:Heap}{pins:yp}{s s':Shared}{t' k:Nat}{ch fp:ww}{N ps:wv}{M:Model}{A:sK}{E Q:xz}{pos p:Pos}{op:CmpOp}{es:ut}{body:tx}{f:Value->Value->Sem Value}{mA mg:xL}{pl:Sem Bool}{kw:List (Str×Value)}{fd:wT}{kindOf:Str->Option NameKind}
abbrev Key:=Sum Int Str
def mO:Key->Value->Bool
 | .inl k,v=>Value.isInt k v
 | .inr x,v=>Value.isStrOf x v
def O9(w:World):Key->Int
 | .inl k=>hashInt k
 | .inr x=>hashStr w x
theorem cB:∀{k:Key} {v:Value},mO k v=true->(∃ i t,k=Sum.inl i/\v=Value.int i t)\/(∃ x t,k=Sum.inr x/\v=Value.str x t)
 | .inl i,v,h=>by
  obtain⟨t,e⟩:=Value.isInt_shape (k:=i) (v:=v) h;exact .inl ⟨i,t,rfl,e⟩
 | .inr x,v,h=>by
  obtain⟨t,e⟩:=Value.isStrOf_shape (x:=x) (v:=v) h;exact .inr ⟨x,t,rfl,e⟩
theorem Ak(i:Int)(t:Tok):mO (.inl i) (.int i t)=true:=by simp[mO,Value.isInt]
theorem cJ(x:Str)(t:Tok):mO (.inr x) (.str x t)=true:=by simp[mO,Value.isStrOf]
theorem K4(a b:Int):decide ((Sum.inl a:Key)=Sum.inl b)=(a == b):=by
 by_cases e:a=b
 ·subst e;simp
 ·have h:¬ (Sum.inl a:Key)=Sum.inl b:=fun q=>e (Sum.inl.inj q);rw[aaF h];exact(acH.mpr e).symm
theorem K5(a b:Str):decide ((Sum.inr a:Key)=Sum.inr b)=decide (a=b):=by
 by_cases e:a=b
 ·subst e;simp
 ·have h:¬ (Sum.inr a:Key)=Sum.inr b:=fun q=>e (Sum.inr.inj q);rw[aaF h,aaF e]
theorem K6(a:Int)(b:Str):decide ((Sum.inl a:Key)=Sum.inr b)=false:=aaF (fun q=>nomatch q)
theorem K7(a:Str)(b:Int):decide ((Sum.inr a:Key)=Sum.inl b)=false:=aaF (fun q=>nomatch q)
def fA(prog:sB)(w:World):PySem.KeyKind prog w Key where
 is:=mO
 hash:=O9 w
 inj:=fun v a b ha hb=>by
  rcases cB ha with⟨i,t,rfl,rfl⟩ | ⟨x,t,rfl,rfl⟩
  ·rcases cB hb with⟨j,u,rfl,e⟩ | ⟨y,u,rfl,e⟩
   ·injection e with e1 _;rw[e1]
   ·exact nomatch e
  ·rcases cB hb with⟨j,u,rfl,e⟩ | ⟨y,u,rfl,e⟩
   ·exact nomatch e
   ·injection e with e1 _;rw[e1]
 byValue:=fun k v h=>by
  rcases cB h with⟨i,t,rfl,rfl⟩ | ⟨x,t,rfl,rfl⟩<;>rfl
 pyHash:=fun hv h=>by
  rcases cB hv with⟨i,t,rfl,rfl⟩ | ⟨x,t,rfl,rfl⟩
  ·exact wpAny_pyHash_int h
  ·exact wpAny_pyHash_str h
 eqBool:=fun hu hv h=>by
  rcases cB hu with⟨i,t,rfl,rfl⟩ | ⟨x,t,rfl,rfl⟩
  ·rcases cB hv with⟨j,u,rfl,rfl⟩ | ⟨y,u,rfl,rfl⟩
   ·rw[K4]at h;exact ac7 h
   ·rw[K6]at h;exact SeqAt.EqAt.int_str i t y u _ _ _ _ h
  ·rcases cB hv with⟨j,u,rfl,rfl⟩ | ⟨y,u,rfl,rfl⟩
   ·rw[K7]at h;exact SeqAt.EqAt.str_int x t j u _ _ _ _ h
   ·rw[K5]at h;exact wpAny_eqBool_str h
 «strs»:=fun k x t v h=>by
  rcases cB h with⟨i,u,rfl,e⟩ | ⟨y,u,rfl,e⟩
  ·exact nomatch e
  ·injection e with e1 _
   subst e1;cases v<;>rfl
theorem tV(prog:sB)(w:World)(i:Int)(t:Tok):(fA prog w).is (.inl i) (.int i t)=true:=Ak i t
theorem tW(prog:sB)(w:World)(x:Str)(t:Tok):(fA prog w).is (.inr x) (.str x t)=true:=cJ x t
inductive V where
 | cS | bl (b:Bool) | int (i:Int) | str (x:Str) | yw (b:Array UInt8) | GJ (b:UInt64) | ref (a:Addr) | ty (n:String)
 deriving DecidableEq
variable {v y:V}{vs:List V}
def RelV:V->Value->Prop
 | .cS,u=>u=Value.none
 | .bl b,u=>u=Value.bool b
 | .int i,u=>∃ t,u=Value.int i t
 | .str x,u=>∃ t,u=Value.str x t
 | .yw b,u=>∃ t,u=Value.bytes b t
 | .GJ b,u=>∃ t,u=Value.float b t
 | .ref a,u=>u=Value.ref a
 | .ty n,u=>u=Value.type n
abbrev Vals:List V->wf->Prop:=Paired RelV
theorem Vals.length{xs:List V}{us:wf}(r:Vals xs us):xs.length=us.length:=Paired.length r
theorem Vals.get:∀{xs:List V} {us:wf} {i:Nat} {x:V},Vals xs us->xs[i]?=some x->∃ u,us[i]?=some u/\RelV x u
 | _,_,_,_,.nil,e=>by simp at e
 | _,_,0,_,.cons r _,e=>by simp at e;subst e;exact⟨_,rfl,r⟩
 | _,_,i+1,x,.cons _ t,e=>by
  obtain⟨u,h1,h2⟩:=Vals.get (i:=i) (x:=x) t (by simpa using e);exact⟨u,by simpa using h1,h2⟩
theorem Vals.set{x:V}{u:Value}(r:RelV x u):∀{xs:List V} {us:wf} (i:Nat),Vals xs us->Vals (xs.set i x) (us.set i u)
 | _,_,_,.nil=>.nil
 | _,_,0,.cons _ t=>.cons r t
 | _,_,i+1,.cons q t=>.cons q (Vals.set r i t)
theorem Vals.append:∀{xs ys:List V} {us ws:wf},Vals xs us->Vals ys ws->Vals (xs++ys) (us++ws)
 | _,_,_,_,.nil,s=>s
 | _,_,_,_,.cons r t,s=>.cons r (Vals.append t s)
theorem Vals.take:∀{xs:List V} {us:wf} (n:Nat),Vals xs us->Vals (xs.take n) (us.take n)
 | _,_,0,_=>.nil
 | _,_,_+1,.nil=>.nil
 | _,_,n+1,.cons r t=>.cons r (Vals.take n t)
theorem Vals.drop:∀{xs:List V} {us:wf} (n:Nat),Vals xs us->Vals (xs.drop n) (us.drop n)
 | _,_,0,r=>r
 | _,_,_+1,.nil=>.nil
 | _,_,n+1,.cons _ t=>Vals.drop n t
def lV:Option V->wP->Prop
 | some v,some u=>RelV v u
 | none,none=>True
 | _,_=>False
def KV{κ:Type}:List (κ×V)->List (κ×Value)->Prop:=Paired fun(p:κ×V) (q:κ×Value)=>p.1=q.1/\RelV p.2 q.2
def kV:Key->V
 | .inl i=>.int i
 | .inr x=>.str x
inductive HO where
 | lst (xs:List V)
 | tup (xs:List V)
 | dK (bO:List (Key×V)) | dT (bO:List (List Key×V))
 | set (S:Int->Bool) (n:Nat)
 | ins (C dx:Addr) (fs:List (Str×V))
 | own (x:Addr)
 | xd (fs:List (Str×V))
 | met (f x:Addr)
 | SQ (lo hi:Int)
 | ku (o:Obj) (u:HO)
 | Ju (ps:Array Value)
 | ext (φ:Heap->Prop)
abbrev Hp:=Addr->Option HO
variable {H:Hp}
def upd(H:Hp)(a:Addr)(o:HO):Hp:=fun b=>if b=a then some o else H b
theorem dF{o:HO}:upd H a o a=some o:=by unfold upd;rw[aaN rfl]
theorem bw{o:HO}(h:b≠a):upd H a o b=H b:=by unfold upd;rw[aaD h]
theorem bV{o:HO}(h:H a=some o)(h':H b=none):a≠b:=by
 intro e;subst e;rw[h]at h';cases h'
section
variable (P:sB)(w:World)
def cK(H:Hp)(h:Heap)(a:Addr):HO->Prop
 | .lst xs=>xs.length<=sizeLine/\∃(aQ:wf) (n:Nat),Vals xs aQ/\h.get? a=some { cls:=.type "list",data:=.seq aQ.toArray n }
 | .tup xs=>xs.length<=sizeLine/\∃ aQ:List Value,Vals xs aQ/\IsTup h a aQ.toArray
 | .dK bO=>bO.length<=sizeLine/\(a == sysModules)=false/\∃ vs,KV bO vs/\h.DictOf (fA P w) a vs
 | .dT bO=>bO.length<=sizeLine/\(a == sysModules)=false/\∃ xs:List (List Key×Addr×Value),
   Paired (fun(p:List Key×V) (q:List Key×Addr×Value)=>p.1=q.1/\H q.2.1=some (.tup (p.1.map kV))/\RelV p.2 q.2.2) bO xs /\
   ∃ o es ep,h.get? a=some o/\o.ExactDict/\o.data=.dict es ep/\es.toList=xs.map (entryOfKey (tupleKind (fA P w)))/\(xs.map (·.1)).Nodup
 | .set S n=>h.SetOf (intKind P w) a S n
 | .ins C dx fs=>H dx=some (.own a)/\fs.length<=1000/\dx≠a/\h.get? a=some (PySem.W.instObj C dx) /\
   ∃ mA,h.Ns1 dx mA/\(∀ f,lV (fs.lookup f) (mA f))/\PySem.Within mA (fs.map (·.1))
 | .own _=>∃ o,h.get? a=some o
 | .xd fs=>∃ mA,h.Ns1 a mA/\∀ f,lV (fs.lookup f) (mA f)
 | .SQ lo hi=>∃ t u v,h.get? a=some { cls:=.type "range",data:=.fields #[.int lo t,.int hi u,.int 1 v] }
 | .ku o u=>h.get? a=some o/\cK H h a u
 | .Ju ps=>h.get? a=some { cls:=.none,data:=.fields ps }
 | .met f x=>h.get? a=some (PySem.W.methodObj (.ref f) (.ref x))
 | .ext φ=>φ h/\(∃ o,h.get? a=some o)/\∀ h1 h2:Heap,φ h1->(∀ o,h1.get? a=some o->h2.get? a=some o)->φ h2
def eF(H:Hp)(h:Heap):Prop:=∀ a o,H a=some o->cK P w H h a o
end
section
variable {H':Hp}{o:HO}
theorem cK.lt(x:cK P w H h a o):a < h.objs.size:=by
 cases o with
 | lst xs=>obtain⟨_,_,_,_,e⟩:=x;exact aay e
 | tup xs=>obtain⟨_,_,_,p⟩:=x;exact p.lt
 | dK bO=>obtain⟨_,_,_,_,o,_,_,e,_⟩:=x;exact aay e
 | dT bO=>obtain⟨_,_,_,_,o,_,_,e,_⟩:=x;exact aay e
 | set S n=>obtain⟨o,_,_,_,e,_⟩:=x;exact aay e
 | ins C dx fs=>obtain⟨_,_,_,e,_⟩:=x;exact aay e
 | own y=>obtain⟨_,e⟩:=x;exact aay e
 | xd fs=>obtain⟨_,⟨_,_,_,e,_⟩,_⟩:=x;exact aay e
 | SQ lo hi=>obtain⟨_,_,_,e⟩:=x;exact aay e
 | ku ob u=>obtain⟨e,_⟩:=x;exact aay e
 | Ju ps=>exact aay (show h.get? a=some _ from x)
 | met f y=>exact aay (show h.get? a=some _ from x)
 | ext φ=>obtain⟨_,⟨_,e⟩,_⟩:=x;exact aay e
theorem Paired.Pa{α β:Type}{F G:α->β->Prop}:∀{l₁:List α} {l₂:List β},Paired F l₁ l₂->(∀ a b,F a b->G a b)->Paired G l₁ l₂
 | _,_,.nil,_=>.nil
 | _,_,.cons r t,f=>.cons (f _ _ r) (Paired.Pa t f)
theorem cK.tX(x:cK P w H h a o)(k:∀ b u,(b=a\/H b=some (.own a))->h.get? b=some u->h'.get? b=some u)(ho:∀ b,H b=some (.own a)->H' b=some (.own a))(ht:∀ b xs,H b=some (.tup xs)->H' b=some (.tup xs)):cK P w H' h' a o:=by
 induction o with
 | lst xs=>obtain⟨z,aQ,n,r,e⟩:=x;exact⟨z,aQ,n,r,k _ _ (.inl rfl) e⟩
 | tup xs=>obtain⟨z,aQ,r,ob,e,c⟩:=x;exact⟨z,aQ,r,ob,k _ _ (.inl rfl) e,c⟩
 | dK bO=>obtain⟨z,y,vs,r,ob,es,ep,e,c⟩:=x;exact⟨z,y,vs,r,ob,es,ep,k _ _ (.inl rfl) e,c⟩
 | dT bO =>
  obtain⟨z,y,xs,r,ob,es,ep,e,c⟩:=x;exact⟨z,y,xs,Paired.Pa r fun p q z=>⟨z.1,ht _ _ z.2.1,z.2.2⟩,ob,es,ep,k _ _ (.inl rfl) e,c⟩
 | set S n=>obtain⟨ob,es,ep,t,e,c⟩:=x;exact⟨ob,es,ep,t,k _ _ (.inl rfl) e,c⟩
 | ins C dx fs =>
  obtain⟨d,z,ne,e,mA,⟨od,es,ep,e2,c⟩,r⟩:=x;exact⟨ho _ d,z,ne,k _ _ (.inl rfl) e,mA,⟨od,es,ep,k _ _ (.inr d) e2,c⟩,r⟩
 | own y=>obtain⟨ob,e⟩:=x;exact⟨ob,k _ _ (.inl rfl) e⟩
 | xd fs=>obtain⟨mA,⟨od,es,ep,e,c⟩,r⟩:=x;exact⟨mA,⟨od,es,ep,k _ _ (.inl rfl) e,c⟩,r⟩
 | SQ lo hi=>obtain⟨t,u,v,e⟩:=x;exact⟨t,u,v,k _ _ (.inl rfl) e⟩
 | ku ob u ih=>obtain⟨e,q⟩:=x;exact⟨k _ _ (.inl rfl) e,ih q⟩
 | Ju ps =>
  have e:h.get? a=some { cls:=.none,data:=.fields ps }:=x;show h'.get? a=some { cls:=.none,data:=.fields ps };exact k a _ (.inl rfl) e
 | met f y =>
  have e:h.get? a=some (PySem.W.methodObj (.ref f) (.ref y)):=x;show h'.get? a=some (PySem.W.methodObj (.ref f) (.ref y));exact k a _ (.inl rfl) e
 | ext φ=>obtain⟨p,⟨o,e⟩,st⟩:=x;exact⟨st _ _ p fun o q=>k _ _ (.inl rfl) q,⟨o,k _ _ (.inl rfl) e⟩,st⟩
theorem eF.lt(x:eF P w H h)(e:H a=some o):a < h.objs.size:=(x a o e).lt
theorem eF.fresh(x:eF P w H h)(e:h.objs.size<=a):H a=none:=by
 cases q:H a with
 | none=>rfl
 | some u=>exact absurd (aaL (x.lt q) e) (aa6 _)
theorem eF.kept(x:eF P w H h)(k:∀ b u,h.get? b=some u->h'.get? b=some u):eF P w H h':=fun a o e =>
 (x a o e).tX (fun b u _ q=>k b u q) (fun _ q=>q) fun _ _ q=>q
theorem eF.laid(x:eF P w H h)(k:∀ b u,h.get? b=some u->h'.get? b=some u)(hp:h.objs.size<=a)(new:cK P w (upd H a o) h' a o):eF P w (upd H a o) h':=fun b u e=>by
 have hn:=x.fresh hp
 by_cases hb:b=a
 ·subst hb;rw[dF]at e;cases e;exact new
 ·rw[bw hb]at e;exact(x b u e).tX (fun c v _ q=>k c v q) (fun c q=>by rw[bw (bV q hn)];exact q) fun c xs q=>by rw[bw (bV q hn)];exact q
end
def Rd(H:Hp)(a:Addr)(u:HO):Prop:=H a=some u\/∃ o,H a=some (.ku o u)
theorem Rd.ok{u:HO}(r:Rd H a u)(x:eF P w H h):cK P w H h a u:=by
 rcases r with r | ⟨o,r⟩
 ·exact x a u r
 ·obtain⟨_,q⟩:=x a _ r;exact q
def SR:Option HO->Prop
 | some (.lst _)=>True
 | some (.dK _)=>True
 | some (.dT _)=>True
 | some (.set _ _)=>True
 | some (.ins _ _ _)=>True
 | some (.ext _)=>True
 | _=>False
section
variable {x e:Addr}{o':HO}
theorem eF.write(ok:eF P w H h)(mu:SR (H x))(he:e=x\/H e=some (.own x))(k:∀ b u,b≠e->h.get? b=some u->h'.get? b=some u)(OJ:∃ u,h'.get? e=some u)(new:cK P w (upd H x o') h' x o'):eF P w (upd H x o') h':=fun b u q=>by
 have Pb:∀ c y,H c=some (.own y)->c≠x:=fun c y r z=>by subst z;rw[r]at mu;exact mu
 have Ud:∀ c xs,H c=some (.tup xs)->c≠x:=fun c xs r z=>by subst z;rw[r]at mu;exact mu
 by_cases hb:b=x
 ·subst hb;rw[dF]at q;cases q;exact new
 ·rw[bw hb]at q
  by_cases BZ:b=e
  ·have q':H b=some (.own x):=by
    rcases he with z | z
    ·exact absurd (BZ.trans z) hb
    ·rw[BZ];exact z
   rw[q]at q';cases q';obtain⟨v,hv⟩:=OJ;exact⟨v,by rw[BZ];exact hv⟩
  ·refine(ok b u q).tX (fun c v hc r=>k c v ?_ r) (fun c r=>by rw[bw (Pb c b r)];exact r) fun c xs r=>by rw[bw (Ud c xs r)];exact r
   rcases hc with rfl | hc
   ·exact BZ
   ·rintro rfl;rcases he with z | z
    ·exact Pb c b hc z
    ·rw[hc]at z;cases z;exact hb rfl
end
structure Un(fs ex:ww)(H H':Hp)(h h':Heap):Prop where
 keep:∀ b o,h.get? b=some o->H b=none->b ∉ fs->b ∉ ex->h'.get? b=some o
 slot:∀ b o,h.get? b=some o->H b=none->b∈fs->b ∉ ex->∃ sl,h'.get? b=some { o with slots:=sl }
 free:∀ b o,h.get? b=some o->H b=none->b ∉ ex->H' b=none
 there:∀ b o,h.get? b=some o->b ∉ ex->∃ o',h'.get? b=some o'
 qR:∀ b xs,H b=some (.tup xs)->H' b=some (.tup xs)
 px:∀ b o u,H b=some (.ku o u)->H' b=some (.ku o u)
 qT:∀ b ps,H b=some (.Ju ps)->∃ more,H' b=some (.Ju (ps++more))
section
variable {fs ff ex SU:ww}{H1 H2:Hp}{h1 h2:Heap}{x e:Addr}{o:HO}
theorem Un.any(u:Un fs ex H H1 h h1){ob:Obj}(q:h.get? b=some ob)(n:H b=none)(hx:b ∉ ex):∃ sl,h1.get? b=some { ob with slots:=sl }:=by
 by_cases hb:b∈fs
 ·exact u.slot b ob q n hb hx
 ·exact⟨ob.slots,u.keep b ob q n hb hx⟩
theorem Un.kept(k:∀ b u,h.get? b=some u->h'.get? b=some u):Un fs ex H H h h' :=
 ⟨fun b ob q _ _ _=>k b ob q,fun b ob q _ _ _=>⟨ob.slots,k b ob q⟩,fun _ _ _ n _=>n,fun b ob q _=>⟨ob,k b ob q⟩,fun _ _ q=>q,fun _ _ _ q=>q,fun _ ps q=>⟨#[],by rw[q];simp⟩⟩
theorem Un.refl:Un fs ex H H h h:=Un.kept fun _ _ q=>q
theorem Un.laid(k:∀ b u,h.get? b=some u->h'.get? b=some u)(hp:h.objs.size<=a)(hn:H a=none):Un fs ex H (upd H a o) h h' where
 keep:=fun b u q _ _ _=>k b u q
 slot:=fun b u q _ _ _=>⟨u.slots,k b u q⟩
 free:=fun b u q n _=>by rw[bw (aa1 (aaL (aay q) hp))];exact n
 there:=fun b u q _=>⟨u,k b u q⟩
 qR:=fun b xs q=>by rw[bw (bV q hn)];exact q
 px:=fun b u xs q=>by rw[bw (bV q hn)];exact q
 qT:=fun b ps q=>⟨#[],by rw[bw (bV q hn),q];simp⟩
theorem Un.write(mu:SR (H x))(he:e=x\/H e=some (.own x))(k:∀ b u,b≠e->h.get? b=some u->h'.get? b=some u)(OJ:∃ u,h'.get? e=some u):Un fs ex H (upd H x o) h h':=by
 have hx:∀ b,H b=none->b≠x:=fun b n z=>by subst z;rw[n]at mu;exact mu
 have hb:∀ b,H b=none->b≠e:=fun b n z=>by
  subst z;rcases he with r | r
  ·exact hx b n r
  ·rw[n]at r;cases r
 have hm:∀ b u,H b=some u->¬ SR (some u)->b≠x:=fun b u q nm z=>by subst z;rw[q]at mu;exact nm mu
 refine⟨fun b u q n _ _=>k b u (hb b n) q,fun b u q n _ _=>⟨u.slots,k b u (hb b n) q⟩,fun b u q n _=>by rw[bw (hx b n)];exact n,fun b u q _=>?_,
  fun b xs q=>by rw[bw (hm b _ q fun z=>z)];exact q,fun b u xs q=>by rw[bw (hm b _ q fun z=>z)];exact q,fun b ps q=>⟨#[],by rw[bw (hm b _ q fun z=>z),q];simp⟩⟩
 by_cases BZ:b=e
 ·subst BZ;exact OJ
 ·exact⟨u,k b u BZ q⟩
end
def GK(h:Heap)(H:Hp):List Addr:=(List.range h.objs.size).filter fun a=>(H a).isSome
def qU(h:Heap)(H:Hp):Heap:=PySem.W.hideAll h (GK h H)
theorem Al(h:Heap)(H:Hp):(qU h H).objs.size=h.objs.size:=PySem.W.hideAll_size _ _
theorem B9{o:Obj}(e:h.get? b=some o)(n:H b=none):(qU h H).get? b=some o :=
 PySem.W.hideAll_get _ e fun hm=>by
  have q:(H b).isSome=true:=(aa4.mp hm).2;rw[n]at q;simp at q
theorem GL{o:Obj}(e:(qU h H).get? b=some o):h.get? b=some o/\H b=none:=by
 have e':h.get? b=some o:=PySem.W.of_hideAll (GK h H) e;refine⟨e',?_⟩;cases q:H b with
 | none=>rfl
 | some x =>
  have hm:b∈GK h H:=aa4.mpr ⟨List.mem_range.mpr (aay e'),by simp[q]⟩;have z:(qU h H).get? b=none:=PySem.W.hideAll_none (GK h H) hm;rw[z]at e;cases e
structure Mod(K:zn)(mg:xL)(base:Heap):Prop where
 OK:K.In base
 glob:base.Ns mainGlobals mg
 blt:∃ mb,base.Ns builtinsNs mb/\∀ x:Str,x ≠ "__name__"->mb x=bootBuiltins x
 nolimit:base.NoLimit
structure Cx where
 prog:sB
 w:World
 K:zn
 mg:Str->Option Value
 base:Heap
 A:sK
 N:List Str
 a9:Shared
 bA:Hp
 env:Env
 outer:List Env
 stack:List Env
 ex:List Addr
 fn:Str->Bool
 calm:Bool
 pn:List (Addr×Obj)
 xe:Value->Shared->Prop
variable {X:Cx}
def iG(l:List Env):List Addr:=l.filterMap (·.frame)
abbrev Cx.fs(X:Cx):List Addr:=iG X.outer
def SV(sc:Scope)(x:Str):Prop:=sc.names.lookup x=some .local\/sc.names.lookup x=some .cell\/sc.names.lookup x=some .free
def Loc(sc:Scope)(x:Str):Prop:=sc.names.lookup x=some .local\/sc.names.lookup x=some .cell
def Look(env:Env)(h:Heap)(m:xL)(x:Str)(u:Value):Prop :=
 (env.kindOf x=some .local/\m x=some u)\/((env.kindOf x=some .cell\/env.kindOf x=some .free)/\∃ c,env.cells.lookup x=some c/\h.IsCell c (some u))
structure Cx.Ok(X:Cx):Prop where
 mod:Mod X.K X.mg X.base
 kind:X.env.scope.kind=.function
 glob:X.env.globals=mainGlobals
 blt:X.env.builtins=builtinsNs
 above:X.a9.heap.objs.size<=X.env.locals
 inj:∀ x y c,X.env.cells.lookup x=some c->X.env.cells.lookup y=some c->x=y
 has:∀ x,(X.env.kindOf x=some .cell\/X.env.kindOf x=some .free)->∃ c,X.env.cells.lookup x=some c
 Pc:∀ x c,X.fn x=true->X.env.cells.lookup x=some c->X.a9.heap.objs.size<=c
 hd:X.calm=true->X.A.handled=none
 frames:X.A.frames=some X.stack
 K8:X.stack=X.outer\/(X.stack=X.env::X.outer/\X.env.frame=some X.env.locals)
 SX:∀ b∈X.ex,b≠X.env.locals/\∀ x c,X.env.cells.lookup x=some c->c≠b
 bs:∀ b o,X.base.get? b=some o->X.a9.heap.get? b=some o/\X.bA b=none
 Jv:X.base.objs.size<=X.a9.heap.objs.size
 Ca:∀ b o,X.base.get? b=some o->b ∉ X.ex
 Cb:∀ b∈X.ex,b ∉ X.fs
 lW:X.a9.heap.FunFrames X.base X.outer
 Gs:∀ b∈X.fs,X.bA b=none
structure Inv(X:Cx)(pins:yp)(σ:List (Option V))(H:Hp)(s:Shared):Prop where
 ok:X.Ok
 os:s.os=X.a9.os
 bare:AllBare s.gens
 base:Un X.fs X.ex X.bA H X.a9.heap s.heap
 loc:∃ m,s.heap.Ns X.env.locals m/\∀(i:Nat) (x:Str) (v:V),X.N[i]?=some x->σ[i]?=some (some v)->SV X.env.scope x->∃ u,RelV v u/\Look X.env s.heap m x u
 cell:∀ x c,X.env.cells.lookup x=some c->∃ v,s.heap.IsCell c v
 free:H X.env.locals=none
 gD:∀ x c,X.env.cells.lookup x=some c->H c=none
 pin:∀ p∈X.pn++pins,s.heap.get? p.1=some p.2/\H p.1=none/\p.1≠X.env.locals/\p.1 ∉ X.fs/\∀ v,p.2.data≠.cell v
 ck:eF X.prog X.w H s.heap
 len:σ.length=X.N.length
section
variable {σ:List (Option V)}{H':Hp}
theorem Cx.Ok.Ue(ok:X.Ok){o:Obj}(e:X.base.get? b=some o):b ∉ X.fs:=fun hb=>by
 have:=(ok.lW.mem hb).1;rw[e]at this;cases this
theorem Inv.bs(I:Inv X pins σ H s):∀ b o,X.base.get? b=some o->s.heap.get? b=some o/\H b=none:=fun b o e =>
 ⟨I.base.keep b o (I.ok.bs b o e).1 (I.ok.bs b o e).2 (I.ok.Ue e) (I.ok.Ca b o e),I.base.free b o (I.ok.bs b o e).1 (I.ok.bs b o e).2 (I.ok.Ca b o e)⟩
theorem Inv.bk(I:Inv X pins σ H s):∀ b o,X.base.get? b=some o->s.heap.get? b=some o:=fun b o e=>(I.bs b o e).1
theorem Inv.mod(I:Inv X pins σ H s):Mod X.K X.mg X.base:=I.ok.mod
theorem Inv.lC(I:Inv X pins σ H s):X.K.In s.heap:=I.ok.mod.OK.keeps I.bk
theorem Inv.lt(I:Inv X pins σ H s):X.env.locals < s.heap.objs.size:=let ⟨_,hn,_⟩:=I.loc;hn.lt
theorem Inv.sz(I:Inv X pins σ H s):X.a9.heap.objs.size<=s.heap.objs.size:=aaA I.ok.above (aaJ I.lt)
theorem Inv.Ug(I:Inv X pins σ H s)(h:s.heap.objs.size<=a):a ∉ X.fs:=fun hb=>by
 obtain⟨_,o,ho,_⟩:=I.ok.lW.mem hb;exact absurd (aaL (aay ho) (aaA I.sz h)) (aa6 _)
theorem Inv.K9(I:Inv X pins σ H s):∀ x c,X.env.cells.lookup x=some c->c≠X.env.locals:=fun x c e z=>by
 obtain⟨v,o,ho,hd⟩:=I.cell x c e;obtain⟨m,⟨o',es,ep,Cd,Ce,_⟩,_⟩:=I.loc;rw[z,Cd]at ho;cases ho;rw[Ce]at hd;cases hd
theorem Inv.lW(I:Inv X pins σ H s):s.heap.FunFrames X.base X.outer:=by
 have all:∀(l:List Env),(∀ b∈iG l,b∈X.fs)->X.a9.heap.FunFrames X.base l->s.heap.FunFrames X.base l:=by
  intro l;induction l with
  | nil=>intro _ _;trivial
  | cons env r ih =>
   intro hs hl;obtain⟨hk,⟨L,o,hf,hn,ho,hd⟩,hr⟩:=hl;have hL:L∈X.fs:=hs L (by unfold iG;rw[acI,hf];exact aax);obtain⟨sl,e⟩:=I.base.slot L o ho (I.ok.Gs L hL) hL fun z=>I.ok.Cb L z hL;exact⟨hk,⟨L,_,hf,hn,e,hd⟩,ih (fun b hb=>hs b (by unfold iG;rw[acI,hf];exact aaw _ hb)) hr⟩
 exact all X.outer (fun _ hb=>hb) I.ok.lW
theorem Inv.stack(I:Inv X pins σ H s):s.heap.FunFrames X.base X.stack:=by
 rcases I.ok.K8 with e | ⟨e,hf⟩
 ·rw[e];exact I.lW
 ·rw[e];obtain⟨m,hn,_⟩:=I.loc;refine .cons (by rw[I.ok.kind];decide) hf hn ?_ I.lW;exact Heap.get?_none_of_le (aaA I.ok.Jv I.ok.above)
theorem Inv.wu(I:Inv X pins σ H s):∀ b∈iG X.stack,b∈X.env.locals::X.fs:=fun b hb=>by
 rcases I.ok.K8 with e | ⟨e,hf⟩
 ·rw[e]at hb;exact aaw _ hb
 ·rw[e]at hb;unfold iG at hb;rw[acI,hf]at hb;exact hb
theorem Inv.qV(I:Inv X pins σ H s):∀ b∈iG X.stack,H b=none:=fun b hb=>by
 rcases aat.mp (I.wu b hb)with e | hb
 ·rw[e];exact I.free
 ·obtain⟨_,o,ho,_⟩:=I.ok.lW.mem hb;exact I.base.free b o ho (I.ok.Gs b hb) fun z=>I.ok.Cb b z hb
theorem Inv.step{g':Array GenState}{d':Drawn}(I:Inv X pins σ H s)(Gu:∀ b∈ch,(b∈X.ex\/X.a9.heap.objs.size<=b)/\b≠X.env.locals/\(∀ x c,X.env.cells.lookup x=some c->c≠b)/\∀ p∈X.pn++pins,p.1≠b)(keep:∀ b o,b≠X.env.locals->b ∉ X.fs->b ∉ ch->s.heap.get? b=some o->H b=none->h'.get? b=some o)(slot:∀ b o,b≠X.env.locals->b∈X.fs->b ∉ ch->s.heap.get? b=some o->H b=none->∃ sl,h'.get? b=some { o with slots:=sl })(free:∀ b o,b ∉ ch->s.heap.get? b=some o->H b=none->H' b=none)(there:∀ b o,b ∉ ch->s.heap.get? b=some o->∃ o',h'.get? b=some o')(qR:∀ b xs,H b=some (.tup xs)->H' b=some (.tup xs))(px:∀ b o u,H b=some (.ku o u)->H' b=some (.ku o u))(qT:∀ b ps,H b=some (.Ju ps)->∃ more,H' b=some (.Ju (ps++more)))(ns:∀ m,s.heap.Ns X.env.locals m->h'.Ns X.env.locals m)(ck:eF X.prog X.w H' h')(hg:AllBare g') :
  Inv X pins σ H' { s with heap:=h',gens:=g',drawn:=d',toks:=t' }:=by
 have Xr:∀ b o,X.a9.heap.get? b=some o->b≠X.env.locals:=fun b o e=>aa1 (aaL (aay e) I.ok.above);have SY:∀ b o,X.a9.heap.get? b=some o->b ∉ X.ex->b ∉ ch:=fun b o e hx hb=>by
  rcases (Gu b hb).1 with z | z
  ·exact hx z
  ·exact absurd (aaL (aay e) z) (aa6 _)
 have cellK:∀ x c,X.env.cells.lookup x=some c->∀ v,s.heap.IsCell c v->h'.IsCell c v:=fun x c e v zz=>by
  obtain⟨o,ho,hd⟩:=zz
  have Pd:c ∉ ch:=fun z=>(Gu c z).2.2.1 x c e rfl
  by_cases hc:c∈X.fs
  ·obtain⟨sl,q⟩:=slot c o (I.K9 x c e) hc Pd ho (I.gD x c e);exact⟨_,q,hd⟩
  ·exact⟨o,keep c o (I.K9 x c e) hc Pd ho (I.gD x c e),hd⟩
 refine⟨I.ok,I.os,hg,⟨fun b o e n hb hx=>?_,fun b o e n hb hx=>?_,fun b o e n hx=>?_,fun b o e hx=>?_,fun b xs e=>qR b xs (I.base.qR b xs e),fun b o xs e=>px b o xs (I.base.px b o xs e),fun b ps e=>?_⟩,?_,fun x c e=>?_,?_,fun x c e=>?_,fun p hp=>?_,ck,I.len⟩
 ·exact keep b o (Xr b o e) hb (SY b o e hx) (I.base.keep b o e n hb hx) (I.base.free b o e n hx)
 ·obtain⟨sl,e1⟩:=I.base.slot b o e n hb hx;obtain⟨Uh,e2⟩:=slot b _ (Xr b o e) hb (SY b o e hx) e1 (I.base.free b o e n hx);exact⟨Uh,e2⟩
 ·obtain⟨o',e1⟩:=I.base.there b o e hx;exact free b o' (SY b o e hx) e1 (I.base.free b o e n hx)
 ·obtain⟨o',e1⟩:=I.base.there b o e hx;exact there b o' (SY b o e hx) e1
 ·obtain⟨m1,e1⟩:=I.base.qT b ps e;obtain⟨m2,e2⟩:=qT b _ e1;exact⟨m1++m2,by rw[e2,Array.append_assoc]⟩
 ·obtain⟨m,hn,hl⟩:=I.loc;refine⟨m,ns m hn,fun i x v e1 e2 e3=>?_⟩;obtain⟨u,r,l⟩:=hl i x v e1 e2 e3;refine⟨u,r,?_⟩;rcases l with l | ⟨k,c,e,z⟩
  ·exact .inl l
  ·exact .inr ⟨k,c,e,cellK x c e _ z⟩
 ·obtain⟨v,z⟩:=I.cell x c e;exact⟨v,cellK x c e v z⟩
 ·obtain⟨m,⟨o,_,_,ho,_⟩,_⟩:=I.loc;exact free _ o (fun z=>(Gu _ z).2.1 rfl) ho I.free
 ·obtain⟨v,o,ho,hd⟩:=I.cell x c e;exact free c o (fun z=>(Gu c z).2.2.1 x c e rfl) ho (I.gD x c e)
 ·obtain⟨e,n,ne,nf,d⟩:=I.pin p hp;have Pd:p.1 ∉ ch:=fun z=>(Gu p.1 z).2.2.2 p hp rfl;exact⟨keep p.1 p.2 ne nf Pd e n,free p.1 p.2 Pd e n,ne,nf,d⟩
theorem Inv.un(I:Inv X pins σ H s)(u:Un X.fs [] H H' s.heap h')(ck:eF X.prog X.w H' h'):Inv X pins σ H' { s with heap:=h',toks:=t' }:=by
 obtain⟨m,⟨o,es,ep,ho,r⟩,_⟩:=id I.loc;obtain⟨sl,hL⟩:=u.any ho I.free (by simp);exact I.step (g':=s.gens) (d':=s.drawn) (ch:=[]) (fun _ z=>nomatch z) (fun b o _ hb _ e n=>u.keep b o e n hb (by simp)) (fun b o _ hb _ e n=>u.slot b o e n hb (by simp)) (fun b o _ e n=>u.free b o e n (by simp)) (fun b o _ e=>u.there b o e (by simp)) u.qR u.px u.qT (fun m' hm=>by
  obtain⟨o',lD,Ui,Cd,r'⟩:=hm;rw[ho]at Cd;cases Cd;exact⟨_,lD,Ui,hL,r'⟩) ck I.bare
theorem Inv.call{g':Array GenState}{d':Drawn}(I:Inv X pins σ H s)(u:Un (iG X.stack) ch H H' s.heap h')(ck:eF X.prog X.w H' h')(hg:AllBare g')(Gu:∀ b∈ch,(b∈X.ex\/X.a9.heap.objs.size<=b)/\b≠X.env.locals/\(∀ x c,X.env.cells.lookup x=some c->c≠b)/\∀ p∈X.pn++pins,p.1≠b) :
  Inv X pins σ H' { s with heap:=h',gens:=g',drawn:=d',toks:=t' }:=by
 obtain⟨m,⟨o,es,ep,ho,r⟩,_⟩:=id I.loc;obtain⟨sl,hL⟩:=u.any ho I.free fun z=>(Gu _ z).2.1 rfl;exact I.step (ch:=ch) Gu (fun b o hL hb hc e n=>u.keep b o e n (fun z=>(aat.mp (I.wu b z)).elim hL hb) hc) (fun b o _ _ hc e n=>u.any e n hc) (fun b o hc e n=>u.free b o e n hc) (fun b o hc e=>u.there b o e hc) u.qR u.px u.qT (fun m' hm=>by
  obtain⟨o',lD,Ui,Cd,r'⟩:=hm;rw[ho]at Cd;cases Cd;exact⟨_,lD,Ui,hL,r'⟩) ck hg
theorem Inv.turned{it:Addr}(I:Inv X pins σ H s)(k:∀ b o,b≠it->s.heap.get? b=some o->h'.get? b=some o)(hn:H it=none)(hL:it≠X.env.locals)(h1:it∈X.ex\/X.a9.heap.objs.size<=it)(h2:∀ x c,X.env.cells.lookup x=some c->c≠it)(h3:∀ p∈X.pn++pins,p.1≠it):Inv X pins σ H { s with heap:=h',toks:=t' }:=by
 have Pe:∀ b u,H b=some u->b≠it:=fun b u e z=>by rw[z,hn]at e;cases e
 refine I.step (g':=s.gens) (d':=s.drawn) (ch:=[it]) (fun b hb=>?_) (fun b o _ _ hc e _=>k b o (fun z=>hc (by simp[z])) e) (fun b o _ _ hc e _=>⟨o.slots,k b o (fun z=>hc (by simp[z])) e⟩) (fun _ _ _ _ n=>n)
  (fun b o hc e=>⟨o,k b o (fun z=>hc (by simp[z])) e⟩) (fun _ _ e=>e) (fun _ _ _ e=>e) (fun b ps e=>⟨#[],by rw[e];simp⟩) (fun m hm=>?_) (fun b u e=>?_) I.bare
 ·have e:b=it:=by simpa using hb
  subst e;exact⟨h1,hL,h2,h3⟩
 ·obtain⟨o,es,ep,ho,r⟩:=hm;exact⟨o,es,ep,k _ o (abi hL) ho,r⟩
 ·refine(I.ck b u e).tX (fun c v hc q=>k c v ?_ q) (fun _ q=>q) fun _ _ q=>q;rcases hc with z | z
  ·rw[z];exact Pe b u e
  ·exact Pe c _ z
theorem Inv.tok(I:Inv X pins σ H s)(t:Nat):Inv X pins σ H { s with toks:=t }:=I.un (h':=s.heap) (t':=t) Un.refl I.ck
theorem Inv.kept{t':Nat}(I:Inv X pins σ H s)(k:∀ b u,s.heap.get? b=some u->h'.get? b=some u):Inv X pins σ H { s with heap:=h',toks:=t' }:=I.un (Un.kept k) (I.ck.kept k)
theorem Inv.laid{a:Addr}{o:HO}{t':Nat}(I:Inv X pins σ H s)(k:∀ b u,s.heap.get? b=some u->h'.get? b=some u)(hp:s.heap.objs.size<=a)(new:cK X.prog X.w (upd H a o) h' a o) :
  Inv X pins σ (upd H a o) { s with heap:=h',toks:=t' }:=I.un (Un.laid k hp (I.ck.fresh hp)) (I.ck.laid k hp new)
theorem Inv.write{x e:Addr}{o:HO}{t':Nat}(I:Inv X pins σ H s)(mu:SR (H x))(he:e=x\/H e=some (.own x))(k:∀ b u,b≠e->s.heap.get? b=some u->h'.get? b=some u)(OJ:∃ u,h'.get? e=some u)
  (new:cK X.prog X.w (upd H x o) h' x o):Inv X pins σ (upd H x o) { s with heap:=h',toks:=t' }:=I.un (Un.write mu he k OJ) (I.ck.write mu he k OJ new)
theorem Inv.yx{Jw:yp}(I:Inv X pins σ H s)(h:∀ p∈Jw,s.heap.get? p.1=some p.2/\H p.1=none/\p.1≠X.env.locals/\p.1 ∉ X.fs/\∀ v,p.2.data≠.cell v):Inv X Jw σ H s :=
 ⟨I.ok,I.os,I.bare,I.base,I.loc,I.cell,I.free,I.gD,fun p hp=>(aav.mp hp).elim (fun z=>I.pin p (acB _ z)) (h p),I.ck,I.len⟩
theorem tY(hN:N.Nodup){i j:Nat}(a:N[i]?=some x)(b:N[j]?=some x):i=j:=by
 obtain⟨h1,e1⟩:=aan.mp a;obtain⟨h2,e2⟩:=aan.mp b;exact(List.getElem_inj hN).mp (e1.trans e2.symm)
theorem Am{i:Nat}{Q:Unit->Shared->Prop}(I:Inv X pins σ H s)(hN:X.N.Nodup)(hi:X.N[i]?=some x)(hx:Loc X.env.scope x)(r:RelV v u)(h:∀ s',Inv X pins (σ.set i (some v)) H s'->(∃ a,Heap.SameBut a s.heap s'.heap/\(a=X.env.locals\/X.env.cells.lookup x=some a))->Q () s')(hf:autoParam (X.fn x=true\/X.env.scope.names.lookup x=some .local) ra4):wpAny M A (storeName X.env x u) Q E s:=by
 obtain⟨m,hn,hl⟩:=id I.loc;have Uj:(X.env.scope.kind == .class||(X.env.scope.kind == .module&&X.env.locals != X.env.globals))=false:=by rw[I.ok.kind];rfl
 have Pf:i < σ.length:=by rw[I.len];exact(aan.mp hi).1
 have K9:=I.K9;have tracked:∀{a:Addr} {h':Heap},(∃ o,s.heap.get? a=some o/\H a=none)->Heap.SameBut a s.heap h'->eF X.prog X.w H h':=fun{a h'} ha hs b ob e=>by
  obtain⟨_,_,Jx⟩:=ha;refine(I.ck b ob e).tX (fun c w' hc q=>(hs.2 c ?_).trans q) (fun _ q=>q) fun _ _ q=>q;rintro rfl;rcases hc with rfl | hc
  ·rw[Jx]at e;cases e
  ·rw[Jx]at hc;cases hc
 rcases hx with hk | hk
 ·refine wpAny_storeName_local hk hn (fun h' Pg hs=>?_) Uj;obtain⟨oL,_,_,Zv,_⟩:=id hn;refine h _ ⟨I.ok,I.os,I.bare,⟨fun b o e n hb hx=>?_,fun b o e n hb hx=>?_,I.base.free,fun b o e hx=>?_,I.base.qR,I.base.px,I.base.qT⟩,⟨_,Pg,fun j y v' e1 e2 e3=>?_⟩,fun y c e=>?_,I.free,I.gD,fun p hp=>?_,tracked ⟨oL,Zv,I.free⟩ hs,by simpa using I.len⟩ ⟨_,hs,.inl rfl⟩
  ·exact(hs.2 b (aa1 (aaL (aay e) I.ok.above))).trans (I.base.keep b o e n hb hx)
  ·obtain⟨sl,e1⟩:=I.base.slot b o e n hb hx;exact⟨sl,(hs.2 b (aa1 (aaL (aay e) I.ok.above))).trans e1⟩
  ·obtain⟨o',e1⟩:=I.base.there b o e hx;exact⟨o',(hs.2 b (aa1 (aaL (aay e) I.ok.above))).trans e1⟩
  ·by_cases hj:j=i
   ·subst hj;rw[hi]at e1;cases e1;rw[List.getElem?_set_self Pf]at e2;cases e2;exact⟨u,r,.inl ⟨hk,by simp⟩⟩
   ·rw[adh (abi hj)]at e2;obtain⟨u',r',q⟩:=hl j y v' e1 e2 e3;refine⟨u',r',?_⟩;rcases q with⟨k,e⟩ | ⟨k,c,e,z⟩
    ·refine .inl ⟨k,?_⟩;have:y≠x:=fun e=>hj (tY hN e1 (e▸hi));simp[this,e]
    ·exact .inr ⟨k,c,e,z.sameBut hs (K9 y c e)⟩
  ·obtain⟨w',z⟩:=I.cell y c e;exact⟨w',z.sameBut hs (K9 y c e)⟩
  ·obtain⟨e,n,ne,nf,d⟩:=I.pin p hp;exact⟨(hs.2 p.1 ne).trans e,n,ne,nf,d⟩
 ·have Uk:X.fn x=true:=by
   rcases hf with z | z
   ·exact z
   ·rw[z]at hk;cases hk
  obtain⟨c,hc⟩:=I.ok.has x (.inl hk);obtain⟨w',z⟩:=I.cell x c hc;refine wpAny_storeName_cell I.ok.kind hk hc z (fun h' Cf hs=>?_);obtain⟨oc,Xs,Ul⟩:=id z;refine h { s with heap:=h' } ⟨I.ok,I.os,I.bare,⟨fun b o e n hb hx=>?_,fun b o e n hb hx=>?_,I.base.free,fun b o e hx=>?_,I.base.qR,I.base.px,I.base.qT⟩,⟨m,hn.sameBut hs (abi (K9 x c hc)),fun j y v' e1 e2 e3=>?_⟩,fun y c' e=>?_,I.free,I.gD,fun p hp=>?_,tracked ⟨oc,Xs,I.gD x c hc⟩ hs,by simpa using I.len⟩ ⟨c,hs,.inr hc⟩
  ·exact(hs.2 b (aa1 (aaL (aay e) (I.ok.Pc x c Uk hc)))).trans (I.base.keep b o e n hb hx)
  ·obtain⟨sl,e1⟩:=I.base.slot b o e n hb hx;exact⟨sl,(hs.2 b (aa1 (aaL (aay e) (I.ok.Pc x c Uk hc)))).trans e1⟩
  ·obtain⟨o',e1⟩:=I.base.there b o e hx;exact⟨o',(hs.2 b (aa1 (aaL (aay e) (I.ok.Pc x c Uk hc)))).trans e1⟩
  ·by_cases hj:j=i
   ·subst hj;rw[hi]at e1;cases e1;rw[List.getElem?_set_self Pf]at e2;cases e2;exact⟨u,r,.inr ⟨.inl hk,c,hc,Cf⟩⟩
   ·rw[adh (abi hj)]at e2;obtain⟨u',r',q⟩:=hl j y v' e1 e2 e3;refine⟨u',r',?_⟩;rcases q with q | ⟨k,c',e,z'⟩
    ·exact .inl q
    ·refine .inr ⟨k,c',e,z'.sameBut hs ?_⟩;rintro rfl;exact hj (tY hN e1 (I.ok.inj _ _ _ e hc▸hi))
  ·by_cases Xu:c'=c
   ·subst Xu;exact⟨_,Cf⟩
   ·obtain⟨w2,z2⟩:=I.cell y c' e;exact⟨w2,z2.sameBut hs Xu⟩
  ·obtain⟨e,n,ne,nf,d⟩:=I.pin p hp;refine⟨(hs.2 p.1 ?_).trans e,n,ne,nf,d⟩;intro q;rw[q,Xs]at e;have q':oc=p.2:=aa5 e;exact d w' (by rw[<- q'];exact Ul)
theorem mP{i:Nat}{Q:Unit->Shared->Prop}(I:Inv X pins σ H s)(hN:X.N.Nodup)(hi:X.N[i]?=some x)(hx:Loc X.env.scope x)(r:RelV v u)(h:∀ s',Inv X pins (σ.set i (some v)) H s'->Q () s')(hf:autoParam (X.fn x=true\/X.env.scope.names.lookup x=some .local) ra4):wpAny M A (storeName X.env x u) Q E s :=
 Am I hN hi hx r (fun s' I' _=>h s' I') hf
theorem Inv.Ph(I:Inv X pins σ H s)(ho:s'.os=s.os)(u:Un (iG X.stack) ch H H' s.heap s'.heap)(ck:eF X.prog X.w H' s'.heap)(hg:AllBare s'.gens)(Gu:∀ b∈ch,(b∈X.ex\/X.a9.heap.objs.size<=b)/\b≠X.env.locals/\(∀ x c,X.env.cells.lookup x=some c->c≠b)/\∀ p∈X.pn++pins,p.1≠b):Inv X pins σ H' s':=by
 obtain⟨h',g',d',t',o'⟩:=s';have e:o'=s.os:=ho;subst e;exact I.call (g':=g') (t':=t') (d':=d') u ck hg Gu
end
abbrev XK:=Value->wS->Hp->Prop
abbrev St:=List (Option V)
variable {σ:St}
abbrev VK:=V->Hp->Prop
abbrev TE:=St->Hp->VK->Prop
variable {ta te:TE}
abbrev TT:=St->Hp->(Bool->Hp->Prop)->Prop
abbrev TA:=St->Hp->(List V->Hp->Prop)->Prop
structure Ends where
 nx:St->Hp->Prop
 rt:VK
 bk:St->Hp->Prop:=fun _ _=>False
 ct:St->Hp->Prop:=fun _ _=>False
abbrev TS:=Ends->St->Hp->Prop
def EP(X:Cx)(pins:yp)(σ:St)(Q:VK)(u:Value)(s':Shared):Prop:=∃ v H',Inv X pins σ H' s'/\RelV v u/\Q v H'
def TP(X:Cx)(pins:yp)(σ:St)(Q:Bool->Hp->Prop)(b:Bool)(s':Shared):Prop:=∃ H',Inv X pins σ H' s'/\Q b H'
def AP(X:Cx)(pins:yp)(σ:St)(Q:List V->Hp->Prop)(us:wf)(s':Shared):Prop:=∃ vs H',Inv X pins σ H' s'/\Vals vs us/\Q vs H'
def SP(X:Cx)(pins:yp)(D:Ends)(f:Flow)(s':Shared):Prop :=
 match f with
 | .next=>∃ bB H',Inv X pins bB H' s'/\D.nx bB H'
 | .brk=>∃ bB H',Inv X pins bB H' s'/\D.bk bB H'
 | .cont=>∃ bB H',Inv X pins bB H' s'/\D.ct bB H'
 | .ret u=>∃ v bB H',Inv X pins bB H' s'/\RelV v u/\D.rt v H'
def PE(X:Cx)(e:Expr)(t:TE):Prop :=
 ∀(pins:yp) (s:Shared) (σ:St) (H:Hp) (Q:VK),Inv X pins σ H s->t σ H Q->wpAny (model X.prog X.w) X.A (eval e X.env) (EP X pins σ Q) X.xe s
def PT(X:Cx)(e:Expr)(t:TT):Prop :=
 ∀(pins:yp) (s:Shared) (σ:St) (H:Hp) (Q:Bool->Hp->Prop),Inv X pins σ H s->t σ H Q->wpAny (model X.prog X.w) X.A (isTrue e X.env (eval e X.env)) (TP X pins σ Q) X.xe s
def PW(X:Cx)(e:Expr)(t:TT):Prop :=
 ∀(whole:Sem Value) (pins:yp) (s:Shared) (σ:St) (H:Hp) (Q:Bool->Hp->Prop),Inv X pins σ H s->t σ H Q->wpAny (model X.prog X.w) X.A (isTrue e X.env whole) (TP X pins σ Q) X.xe s
theorem PW.pt{e:Expr}{t:TT}(h:PW X e t):PT X e t:=h _
def PA(X:Cx)(es:ut)(t:TA):Prop :=
 ∀(pos:Pos) (pins:yp) (s:Shared) (σ:St) (H:Hp) (Q:List V->Hp->Prop),Inv X pins σ H s->t σ H Q->wpAny (model X.prog X.w) X.A (spliced (backTo pos (starEach es X.env))) (AP X pins σ Q) X.xe s
def PS(X:Cx)(st:Stmt)(t:TS):Prop :=
 ∀(pins:yp) (s:Shared) (σ:St) (H:Hp) (D:Ends),Inv X pins σ H s->t D σ H->wpAny (model X.prog X.w) X.A (exec st X.env) (SP X pins D) X.xe s
def yy(X:Cx)(st:tx)(t:TS):Prop :=
 ∀(pins:yp) (s:Shared) (σ:St) (H:Hp) (D:Ends),Inv X pins σ H s->t D σ H->wpAny (model X.prog X.w) X.A (execs st X.env) (SP X pins D) X.xe s
theorem cP{α:Type}{t:Sem α}{Q Q':α->Shared->Prop}(h:wpAny M A t Q E s)(hQ:∀ a s,Q a s->Q' a s):wpAny M A t Q' E s:=abB h hQ fun _ _ x=>x
section
def La(i:Nat):TE:=fun σ H Q=>∃ v,σ[i]?=some (some v)/\Q v H
def tC(v:V):TE:=fun _ H Q=>Q v H
theorem Lb{i:Nat}(hN:X.N[i]?=some x)(hv:SV X.env.scope x)(hd:autoParam ((x == ("__debug__":Str))=false) ra1)(An:autoParam ((x == ("__classdict__":Str))=false) ra1):PE X (.Name x pos) (La i):=by
 intro pins s σ H Q I h;obtain⟨v,e,h⟩:=h;obtain⟨m,hn,hl⟩:=I.loc;obtain⟨u,r,l⟩:=hl i x v hN e hv;have fin:EP X pins σ Q u s:=⟨v,H,I,r,h⟩;rcases l with⟨hk,hm⟩ | ⟨hk,c,hc,Jy⟩
 ·exact wpAny_Name (wpAny_loadName_local I.ok.kind hk hn hm fin) hd
 ·rcases hk with hk | hk
  ·exact wpAny_Name (wpAny_loadName_cell I.ok.kind hk hc Jy fin) hd
  ·exact wpAny_Name (wpAny_loadName_free I.ok.kind hk hc Jy fin An) hd
theorem Cg{i j pos}:PE X (.Constant (.int i) j pos) (tC (.int i)):=fun _ _ _ H _ I h=>wpAny_Constant_int ⟨.int i,H,I.tok _,⟨_,rfl⟩,h⟩
theorem Jz{b j pos}:PE X (.Constant (.bool b) j pos) (tC (.bl b)):=fun _ _ _ H _ I h=>Constant_bool ⟨.bl b,H,I,rfl,h⟩
theorem Ci{j pos}:PE X (.Constant .none j pos) (tC .cS):=fun _ _ _ H _ I h=>Constant_none ⟨.cS,H,I,rfl,h⟩
theorem Cj{x j pos}:PE X (.Constant (.str x) j pos) (tC (.str x)):=fun _ _ _ H _ I h=>Calls.Constant_str ⟨.str x,H,I.tok _,⟨_,rfl⟩,h⟩
def Gl(X:Cx)(x:Str):Prop:=X.env.kindOf x=some .globalImplicit
theorem mq(I:Inv X pins σ H s)(hg:Gl X x)(hm:X.mg x=some u)(h:Q u s)(hd:autoParam ((x == ("__debug__":Str))=false) ra1):wpAny (model X.prog X.w) X.A (eval (.Name x pos) X.env) Q E s :=
 Calls.Name_function_global I.ok.kind hg (Calls.loadGlobal_global (by rw[I.ok.glob];exact I.mod.glob.keeps I.bk) hm h) hd
theorem jr(I:Inv X pins σ H s)(hg:Gl X x)(hm:X.mg x=none)(hv:bootBuiltins x=some u)(h:Q u s)(hn:autoParam (x ≠ "__name__") ra1)(hd:autoParam ((x == ("__debug__":Str))=false) ra1):wpAny (model X.prog X.w) X.A (eval (.Name x pos) X.env) Q E s:=by
 obtain⟨mb,h1,h2⟩:=I.mod.blt;exact Calls.Name_function_global I.ok.kind hg (Calls.loadGlobal_builtin (by rw[I.ok.glob];exact I.mod.glob.keeps I.bk) hm (by rw[I.ok.blt];exact h1.keeps I.bk) ((h2 x hn).trans hv) h) hd
theorem yz(hg:Gl X x)(hm:X.mg x=some u)(r:RelV v u)(hd:autoParam ((x == ("__debug__":Str))=false) ra1):PE X (.Name x pos) (tC v) :=
 fun _ _ _ H _ I h=>mq I hg hm ⟨v,H,I,r,h⟩ hd
theorem GN(hg:Gl X x)(hm:X.mg x=none)(hv:bootBuiltins x=some u)(r:RelV v u)(hn:autoParam (x ≠ "__name__") ra1)(hd:autoParam ((x == ("__debug__":Str))=false) ra1):PE X (.Name x pos) (tC v) :=
 fun _ _ _ H _ I h=>jr I hg hm hv ⟨v,H,I,r,h⟩ hn hd
variable {a b:Expr}{tb:TE}
def PC(X:Cx)(op:CmpOp)(a b:Expr)(t:TE):Prop :=
 ∀(pins:yp) (s:Shared) (σ:St) (H:Hp) (Q:VK),Inv X pins σ H s->t σ H Q ->
  wpAny (model X.prog X.w) X.A (eval a X.env) (fun v bG=>wpAny (model X.prog X.w) X.A (eval b X.env) (fun u bh=>wpAny (model X.prog X.w) X.A (compareOp op v u) (EP X pins σ Q) X.xe bh) X.xe bG) X.xe s
theorem tZ(b:Expr)(h:op≠.In)(h2:op≠.NotIn):behindInMarks op b=false:=by
 have e1:(op == CmpOp.In)=false:=by cases op<;>first | rfl | exact absurd rfl h
 have e2:(op == CmpOp.NotIn)=false:=by cases op<;>first | rfl | exact absurd rfl h2
 cases b<;>simp[behindInMarks,e1,e2]
def GO(ta:TE):TE:=fun σ H Q=>ta σ H fun x H1=>Q (.bl (decide (x=.cS))) H1
def Ck(ta:TE):TE:=fun σ H Q=>ta σ H fun x H1=>Q (.bl (!decide (x=.cS))) H1
theorem RelV.ua{x:V}{v:Value}(r:RelV x v):(v == Value.none)=decide (x=.cS):=by
 cases x with
 | cS=>cases r;rfl
 | bl _=>cases r;rfl
 | int _=>obtain⟨t,rfl⟩:=r;rfl
 | str _=>obtain⟨t,rfl⟩:=r;rfl
 | yw _=>obtain⟨t,rfl⟩:=r;rfl
 | GJ _=>obtain⟨t,rfl⟩:=r;rfl
 | ref _=>cases r;rfl
 | ty _=>cases r;rfl
theorem Cm{j pos'}(ha:PE X a ta):PC X .Is a (.Constant .none j pos') (GO ta):=by
 intro pins s σ H Q I h;refine cP (ha pins s σ H _ I h) fun v s1 ⟨x,H1,I1,r1,q1⟩=>?_;exact Constant_none (is_none_gen ⟨.bl _,H1,I1,by rw[r1.ua];rfl,q1⟩)
theorem GP{j pos'}(ha:PE X a ta):PC X .IsNot a (.Constant .none j pos') (Ck ta):=by
 intro pins s σ H Q I h;refine cP (ha pins s σ H _ I h) fun v s1 ⟨x,H1,I1,r1,q1⟩=>?_;exact Constant_none (isnot_none_gen ⟨.bl _,H1,I1,by rw[r1.ua];rfl,q1⟩)
def tB(t:TE):TT:=fun σ H Q=>t σ H fun x H1=>∃ c,x=.bl c/\Q c H1
theorem Lc{t:TE}(h:PC X op a b t)(h1:behindInMarks op b=false:=by first | exact tZ _ (by decide) (by decide) | rfl):PE X (.Compare a [op] [b] pos) t:=fun pins s σ H Q I hw=>wpAny_Compare1 (h pins s σ H Q I hw) h1
theorem Cn{t:TE}(h:PC X op a b t)(h1:behindInMarks op b=false:=by first | exact tZ _ (by decide) (by decide) | rfl):PT X (.Compare a [op] [b] pos) (tB t):=by
 intro pins s σ H Q I hw;refine wpAny_isTrue_Compare1 (cP (h pins s σ H _ I hw) fun v s1 h1=>cP h1 fun u s2 h2=>cP h2 fun c s3 ⟨x,H1,I1,r1,q1⟩=>?_) h1;obtain⟨d,rfl,q⟩:=q1;cases r1;exact abK ⟨H1,I1,q⟩
theorem Ld{e:Expr}{t:TE}(h:PE X e t)(he:autoParam (∀ whole,isTrue e X.env whole=(do let v <- whole;standAt e.pos;holding [v] (truthy v))) ra2):PT X e (tB t):=by
 intro pins s σ H Q I hw;refine isTrue_plain (cP (h pins s σ H _ I hw) fun v s1 ⟨x,H1,I1,r1,q1⟩=>?_) (he _);obtain⟨d,rfl,q⟩:=q1;cases r1;exact abK ⟨H1,I1,q⟩
variable {tA S0:TT}{rest:ut}
def Le(t u:TT):TT:=fun σ H Q=>t σ H fun c H1=>if c=true then u σ H1 Q else Q false H1
def Um(t u:TT):TT:=fun σ H Q=>t σ H fun c H1=>if c=true then Q true H1 else u σ H1 Q
def Lg(t:TT):TT:=fun σ H Q=>t σ H fun c H1=>Q (!c) H1
theorem GQ(ha:PT X a tA):PW X (.BoolOp .And [a] pos) tA:=by
 intro wh pins s σ H Q I h;refine isTrue_and (cP (ha pins s σ H Q I h) fun c s1 e=>?_);cases c with
 | true=>exact isTrue_and_nil e
 | false=>exact e
theorem Lh(ha:PT X a tA):PW X (.BoolOp .Or [a] pos) tA:=by
 intro wh pins s σ H Q I h;refine isTrue_or (cP (ha pins s σ H Q I h) fun c s1 e=>?_);cases c with
 | false=>exact isTrue_or_nil e
 | true=>exact e
theorem Li(ha:PT X a tA)(hb:PW X (.BoolOp .And (b::rest) pos) S0):PW X (.BoolOp .And (a::b::rest) pos) (Le tA S0):=by
 intro wh pins s σ H Q I h;refine isTrue_and (cP (ha pins s σ H _ I h) fun c s1 ⟨H1,I1,q1⟩=>?_);cases c with
 | true=>exact hb wh pins s1 σ H1 Q I1 q1
 | false=>exact⟨H1,I1,q1⟩
theorem Pj(ha:PT X a tA)(hb:PW X (.BoolOp .Or (b::rest) pos) S0):PW X (.BoolOp .Or (a::b::rest) pos) (Um tA S0):=by
 intro wh pins s σ H Q I h;refine isTrue_or (cP (ha pins s σ H _ I h) fun c s1 ⟨H1,I1,q1⟩=>?_);cases c with
 | true=>exact⟨H1,I1,q1⟩
 | false=>exact hb wh pins s1 σ H1 Q I1 q1
theorem Lj(ha:PT X a tA):PT X (.UnaryOp .Not a pos) (Lg tA):=by
 intro pins s σ H Q I h;exact isTrue_not (ha pins s σ H (fun c H1=>Q (!c) H1) I h)
def Co(ta tb:TE):TE:=fun σ H Q=>ta σ H fun x H1=>∃ c,x=.bl c/\if c=true then tb σ H1 Q else Q (.bl false) H1
def Lk(ta tb:TE):TE:=fun σ H Q=>ta σ H fun x H1=>∃ c,x=.bl c/\if c=true then Q (.bl true) H1 else tb σ H1 Q
def Cp(ta:TE):TE:=fun σ H Q=>ta σ H fun x H1=>∃ c,x=.bl c/\Q (.bl (!c)) H1
theorem Ll{op}{t:TE}(h:PE X a t):PE X (.BoolOp op [a] pos) t:=fun pins s σ H Q I hw=>BoolOp_one (h pins s σ H Q I hw)
theorem Lm(ha:PE X a ta)(hb:PE X (.BoolOp .And (b::rest) pos) tb):PE X (.BoolOp .And (a::b::rest) pos) (Co ta tb):=by
 intro pins s σ H Q I h;refine BoolOp_and (cP (ha pins s σ H _ I h) fun v s1 ⟨x,H1,I1,r1,q1⟩=>?_);obtain⟨c,rfl,q1⟩:=q1;cases r1;refine abK ?_;cases c with
 | true=>exact hb pins s1 σ H1 Q I1 q1
 | false=>exact⟨.bl false,H1,I1,rfl,q1⟩
theorem Pk(ha:PE X a ta)(hb:PE X (.BoolOp .Or (b::rest) pos) tb):PE X (.BoolOp .Or (a::b::rest) pos) (Lk ta tb):=by
 intro pins s σ H Q I h;refine BoolOp_or (cP (ha pins s σ H _ I h) fun v s1 ⟨x,H1,I1,r1,q1⟩=>?_);obtain⟨c,rfl,q1⟩:=q1;cases r1;refine abK ?_;cases c with
 | false=>exact hb pins s1 σ H1 Q I1 q1
 | true=>exact⟨.bl true,H1,I1,rfl,q1⟩
theorem Ln(ha:PE X a ta):PE X (.UnaryOp .Not a pos) (Cp ta):=by
 intro pins s σ H Q I h;refine UnaryOp_ (cP (ha pins s σ H _ I h) fun v s1 ⟨x,H1,I1,r1,q1⟩=>?_);obtain⟨c,rfl,q1⟩:=q1;cases r1;exact not_of (abK ⟨.bl (!c),H1,I1,rfl,q1⟩)
def Uo(t:TT)(ta tb:TE):TE:=fun σ H Q=>t σ H fun c H1=>if c=true then ta σ H1 Q else tb σ H1 Q
theorem Cq(hc:PT X c tA)(ha:PE X a ta)(hb:PE X b tb):PE X (.IfExp c a b pos) (Uo tA ta tb):=by
 intro pins s σ H Q I h;refine wpAny_IfExp (cP (hc pins s σ H _ I h) fun d s1 ⟨H1,I1,q1⟩=>?_);cases d with
 | true=>exact ha pins s1 σ H1 Q I1 q1
 | false=>exact hb pins s1 σ H1 Q I1 q1
end
def eE(K:zn)(H:Hp)(a:Addr)(xs:List V):Prop :=
 Rd H a (.lst xs) \/
  ∃(o:Obj) (aQ:Array Value) (n:Nat),K.lookup a=some o/\o.cls=.type "list"/\o.dict=none/\o.data=.seq aQ n/\aQ.size<=sizeLine/\Vals xs aQ.toList
def fg(K:zn)(H:Hp)(a:Addr)(xs:List V):Prop :=
 Rd H a (.tup xs) \/
  ∃(o:Obj) (aQ:Array Value) (n:Nat),K.lookup a=some o/\o.cls=.type "tuple"/\o.data=.seq aQ n/\aQ.size<=sizeLine/\Vals xs aQ.toList
noncomputable def Pl:Value->Option V
 | .none=>some .cS
 | .bool b=>some (.bl b)
 | .int i _=>some (.int i)
 | .str x _=>some (.str x)
 | .bytes b _=>some (.yw b)
 | .float b _=>some (.GJ b)
 | .ref a=>some (.ref a)
 | .type n=>some (.ty n)
 | _=>none
theorem RelV.abs{x:V}(r:RelV x u):Pl u=some x:=by
 cases x with
 | cS=>cases r;rfl
 | bl _=>cases r;rfl
 | int _=>obtain⟨t,rfl⟩:=r;rfl
 | str _=>obtain⟨t,rfl⟩:=r;rfl
 | yw _=>obtain⟨t,rfl⟩:=r;rfl
 | GJ _=>obtain⟨t,rfl⟩:=r;rfl
 | ref _=>cases r;rfl
 | ty _=>cases r;rfl
theorem RelV.inj{x y:V}{u:Value}(r:RelV x u)(q:RelV y u):x=y:=aa5 (r.abs.symm.trans q.abs)
theorem Vals.inj:∀{xs ys:List V} {us:wf},Vals xs us->Vals ys us->xs=ys
 | _,_,_,.nil,.nil=>rfl
 | _,_,_,.cons r t,.cons r' t'=>by rw[r.inj r',Vals.inj t t']
section
variable {xs ys:List V}
theorem eE.of{K:zn}(h:H a=some (.lst xs)):eE K H a xs:=.inl (.inl h)
theorem fg.of{K:zn}(h:H a=some (.tup xs)):fg K H a xs:=.inl (.inl h)
theorem Inv.list(I:Inv X pins σ H s)(h:eE X.K H a xs):∃ aQ:List Value,Vals xs aQ/\PlainL s.heap a aQ.toArray/\xs.length<=sizeLine:=by
 rcases h with h | ⟨o,aQ,n,hk,hc,hd,hs,hz,r⟩
 ·obtain⟨z,aQ,n,r,e⟩:=h.ok I.ck;exact⟨aQ,r,⟨_,n,e,rfl,rfl,rfl⟩,z⟩
 ·refine⟨aQ.toList,r,⟨o,n,I.lC a o hk,hc,hd,by simpa using hs⟩,?_⟩;have e:=r.length;simp only[aaO]at e;omega
theorem Inv.tuple(I:Inv X pins σ H s)(h:fg X.K H a xs):∃ aQ:List Value,Vals xs aQ/\IsTup s.heap a aQ.toArray/\xs.length<=sizeLine:=by
 rcases h with h | ⟨o,aQ,n,hk,hc,hs,hz,r⟩
 ·obtain⟨z,aQ,r,p⟩:=h.ok I.ck;exact⟨aQ,r,p,z⟩
 ·refine⟨aQ.toList,r,⟨o,I.lC a o hk,hc,n,by simpa using hs⟩,?_⟩;have e:=r.length;simp only[aaO]at e;omega
theorem Inv.uc(I:Inv X pins σ H s)(h:eE X.K H a xs)(h':eE X.K H a ys):xs=ys:=by
 obtain⟨aQ,r,⟨o,n,e,_,_,d⟩,_⟩:=I.list h;obtain⟨its',r',⟨o',n',e',_,_,d'⟩,_⟩:=I.list h';rw[e]at e';cases e';rw[d]at d';injection d' with d1 _
 have:aQ=its':=by simpa using abJ Array.toList d1
 subst this;exact r.inj r'
theorem Inv.Ao(I:Inv X pins σ H s)(h:fg X.K H a xs)(h':fg X.K H a ys):xs=ys:=by
 obtain⟨aQ,r,⟨o,e,_,n,d⟩,_⟩:=I.tuple h;obtain⟨its',r',⟨o',e',_,n',d'⟩,_⟩:=I.tuple h';rw[e]at e';cases e';rw[d]at d';injection d' with d1 _
 have:aQ=its':=by simpa using abJ Array.toList d1
 subst this;exact r.inj r'
end
noncomputable abbrev Cx.mQ(X:Cx)(E:xz):Cx:={ X with xe:=E }
noncomputable abbrev Cx.Ap(X:Cx):Cx:=X.mQ fun _ _=>False
theorem Cx.Ok.mQ(ok:X.Ok)(E:xz):(X.mQ E).Ok :=
 ⟨ok.mod,ok.kind,ok.glob,ok.blt,ok.above,ok.inj,ok.has,ok.Pc,ok.hd,ok.frames,ok.K8,ok.SX,ok.bs,ok.Jv,ok.Ca,ok.Cb,ok.lW,ok.Gs⟩
theorem Cx.Ok.iH(ok:(X.mQ E).Ok):X.Ok :=
 ⟨ok.mod,ok.kind,ok.glob,ok.blt,ok.above,ok.inj,ok.has,ok.Pc,ok.hd,ok.frames,ok.K8,ok.SX,ok.bs,ok.Jv,ok.Ca,ok.Cb,ok.lW,ok.Gs⟩
theorem Inv.mQ(I:Inv X pins σ H s)(E:xz):Inv (X.mQ E) pins σ H s:=⟨I.ok.mQ E,I.os,I.bare,I.base,I.loc,I.cell,I.free,I.gD,I.pin,I.ck,I.len⟩
theorem Inv.iH(I:Inv (X.mQ E) pins σ H s):Inv X pins σ H s:=⟨I.ok.iH,I.os,I.bare,I.base,I.loc,I.cell,I.free,I.gD,I.pin,I.ck,I.len⟩
theorem SP.iH{D:Ends}{f:Flow}{s':Shared}(h:SP (X.mQ E) pins D f s'):SP X pins D f s':=by
 cases f with
 | next=>obtain⟨bB,H',I,q⟩:=h;exact⟨bB,H',I.iH,q⟩
 | brk=>obtain⟨bB,H',I,q⟩:=h;exact⟨bB,H',I.iH,q⟩
 | cont=>obtain⟨bB,H',I,q⟩:=h;exact⟨bB,H',I.iH,q⟩
 | ret u=>obtain⟨v,bB,H',I,r,q⟩:=h;exact⟨v,bB,H',I.iH,r,q⟩
theorem yy.Ap{st:tx}{t:TS}(h:yy X.Ap st t):yy X st t:=fun pins s σ H D I hw =>
 abB (h pins s σ H D (I.mQ _) hw) (fun _ _ q=>q.iH) fun _ _ z=>False.elim z
section
variable {st:Stmt}{rest:tx}{t u:TS}{e:Expr}
def Cr:TS:=fun D σ H=>D.nx σ H
def Lo(t u:TS):TS:=fun D σ H=>t { D with nx:=u D } σ H
theorem GR:yy X [] Cr:=fun _ _ σ H _ I h=>ado ⟨σ,H,I,h⟩
theorem Cs(h1:PS X st t)(h2:yy X rest u):yy X (st::rest) (Lo t u):=by
 intro pins s σ H D I h;refine wpAny_execs_cons (cP (h1 pins s σ H { D with nx:=u D } I h) fun f s1 q=>?_);cases f with
 | next =>
  obtain⟨bB,H',I',q⟩:=q;exact h2 pins s1 bB H' D I' q
 | ret v=>exact q
 | brk=>exact q
 | cont=>exact q
theorem GS(h1:PS X st t):yy X [st] t:=by
 intro pins s σ H D I h;refine wpAny_execs_cons (cP (h1 pins s σ H D I h) fun f s1 q=>?_);cases f with
 | next=>exact ado q
 | ret v=>exact q
 | brk=>exact q
 | cont=>exact q
theorem Inv.quiet(I:Inv X pins σ H s):interactive X.env=false:=by simp[interactive,I.ok.kind]
def Ct(te:TE):TS:=fun D σ H=>te σ H fun _ H1=>D.nx σ H1
theorem GU(he:PE X e te)(hs:autoParam (swapsWith e none pos.line X.env=pure false) ra0):PS X (.Expr e pos) (Ct te):=by
 intro pins s σ H D I h;exact wpAny_Expr_any (cP (he pins s σ H _ I h) fun v s1 ⟨x,H1,I1,r1,q1⟩=>⟨σ,H1,I1,q1⟩) I.quiet hs
def Lp(te:TE):TS:=fun D σ H=>te σ H D.rt
theorem Lq(he:PE X e te):PS X (.Return (some e) pos) (Lp te):=by
 intro pins s σ H D I h;exact wpAny_Return_some (cP (he pins s σ H _ I h) fun v s1 ⟨x,H1,I1,r1,q1⟩=>⟨x,σ,H1,I1,r1,q1⟩)
def Lr(c:TT)(t u:TS):TS:=fun D σ H=>c σ H fun b H1=>if b=true then t D σ H1 else u D σ H1
theorem Pm{a b:tx}{tc:TT}(hc:PT X c tc)(ha:yy X a t)(hb:yy X b u):PS X (.If c a b pos) (Lr tc t u):=by
 intro pins s σ H D I h;refine wpAny_If (cP (hc pins s σ H _ I h) fun d s1 ⟨H1,I1,q1⟩=>?_);cases d with
 | true=>exact ha pins s1 σ H1 D I1 q1
 | false=>exact hb pins s1 σ H1 D I1 q1
end
abbrev TG:=V->St->Hp->(St->Hp->Prop)->Prop
abbrev vV:=List V->St->Hp->(St->Hp->Prop)->Prop
def PG(X:Cx)(target:Expr)(t:TG):Prop :=
 ∀(pins:yp) (s:Shared) (σ:St) (H:Hp) (v:V) (u:Value) (Q:St->Hp->Prop),Inv X pins σ H s->RelV v u->t v σ H Q ->
  wpAny (model X.prog X.w) X.A (assign target X.env u) (fun _ s'=>∃ bB H',Inv X pins bB H' s'/\Q bB H') X.xe s
def OL(X:Cx)(ts:ut)(t:vV):Prop :=
 ∀(pins:yp) (s:Shared) (σ:St) (H:Hp) (vs:List V) (us:wf) (Q:St->Hp->Prop),Inv X pins σ H s->Vals vs us->t vs σ H Q ->
  wpAny (model X.prog X.w) X.A (assignInOrder ((assignEach ts X.env).map (·.2)) us) (fun _ s'=>∃ bB H',Inv X pins bB H' s'/\Q bB H') X.xe s
abbrev GV:=V->V->V->Hp->(Hp->Prop)->Prop
def Ls(X:Cx)(t:GV):Prop :=
 ∀(pins:yp) (s:Shared) (σ:St) (H:Hp) (o i v:V) (ov iv u:Value) (Q:Hp->Prop),Inv X pins σ H s->RelV o ov->RelV i iv->RelV v u->t o i v H Q ->
  wpAny (model X.prog X.w) X.A (setItem ov iv u) (fun _ s'=>∃ H',Inv X pins σ H' s'/\Q H') X.xe s
def mR(i:Nat):TG:=fun v σ H Q=>Q (σ.set i (some v)) H
theorem GW{i:Nat}(hN:X.N.Nodup)(hi:X.N[i]?=some x)(hx:Loc X.env.scope x)(hf:autoParam (X.fn x=true\/X.env.scope.names.lookup x=some .local) ra4):PG X (.Name x pos) (mR i):=by
 intro pins s σ H v u Q I r h;exact wpAny_assign_Name (mP I hN hi hx r (fun s' I'=>⟨_,H,I',h⟩) hf)
def Lu:vV:=fun vs σ H Q=>vs=[]/\Q σ H
def Cu(t:TG)(u:vV):vV:=fun vs σ H Q=>∃ v r,vs=v::r/\t v σ H fun bB H'=>u r bB H' Q
theorem GX:OL X [] Lu:=by
 intro pins s σ H vs us Q I r h;obtain⟨e,h⟩:=h;subst e;cases r;exact assignInOrder_nil ⟨σ,H,I,h⟩
theorem Cv{e:Expr}{t:TG}{u:vV}(h1:PG X e t)(h2:OL X es u)(hs:autoParam ((assignEach (e::es) X.env).map (·.2)=assign e X.env::(assignEach es X.env).map (·.2)) ra0):OL X (e::es) (Cu t u):=by
 intro pins s σ H vs us Q I r h;obtain⟨v,vr,e1,h⟩:=h;subst e1;cases r with
 | cons r rr =>
  rw[hs];refine assignInOrder_cons (cP (h1 pins s σ H _ _ _ I r h) fun _ s1 ⟨OM,H1,I1,q1⟩=>?_);exact h2 pins s1 OM H1 _ _ Q I1 rr q1
def Pn(K:zn)(n:Nat)(t:vV):TG:=fun v σ H Q=>∃ a xs,v=.ref a/\fg K H a xs/\xs.length=n/\t xs σ H Q
theorem Lv{t:vV}{n:Nat}(hc:X.calm=true)(h:OL X es t)(hn:autoParam ((assignEach es X.env).length=n) ra0)(ud:autoParam ((assignEach es X.env).findIdx? (·.1)=none) ra0):PG X (.Tuple es k pos) (Pn X.K n t):=by
 intro pins s σ H v u Q I r hw;obtain⟨a,xs,e1,hq,hl,hw⟩:=hw;subst e1;cases r;obtain⟨aQ,rv,ht,hz⟩:=I.tuple hq;refine assign_Tuple_tuple (I.ok.hd hc) ht (by simp[hn,<- hl,rv.length]) ud fun h' hx=>?_;have I1:Inv X pins σ H { s with heap:=h' }:=I.kept (t':=s.toks) fun b o e=>hx b o (aa1 (aay e)) e;exact h pins _ σ H xs _ Q I1 (by simpa using rv) hw
def Lw(to ti:TE)(t:GV):TG:=fun v σ H Q=>to σ H fun o H1=>ti σ H1 fun i H2=>t o i v H2 fun H3=>Q σ H3
theorem Lx{i:Expr}{to ti:TE}{t:GV}(ho:PE X o to)(hi:PE X i ti)(hs:Ls X t)(ha:∀ v,assign (.Subscript o i pos) X.env v=(do
   let ov <- holding [v] (eval o X.env)
   let iv <- holding [v,ov] (eval i X.env)
   standAt pos
   holding [v,ov,iv] (setItem ov iv v)
   release [v,ov,iv] []):=by intro _;rfl):PG X (.Subscript o i pos) (Lw to ti t):=by
 intro pins s σ H v u Q I r h;rw[ha];refine aak (abj (cP (ho pins s σ H _ I h) fun ov s1 ⟨x,H1,I1,r1,q1⟩=>?_));refine aak (abj (cP (hi pins s1 σ H1 _ I1 q1) fun iv s2 ⟨y,H2,I2,r2,q2⟩=>?_));refine aak (adP (aak (abj (cP (hs pins s2 σ H2 x y v ov iv u _ I2 r1 r2 r q2) fun _ s3 ⟨H3,I3,q3⟩=>?_))));exact wpAny_release ⟨σ,H3,I3,q3⟩
def wx(te:TE)(g:TG):TS:=fun D σ H=>te σ H fun x H1=>g x σ H1 D.nx
theorem Ly{e:Expr}{g:TG}(he:PE X e te)(hg:PG X tg g)(hs:autoParam (swapsWithSole [tg] e pos.line X.env=pure false) ra0)(hw:autoParam (swappedStores [tg] e X.env=pure none) ra0)(h1:autoParam ((assignEach [tg] X.env).map (·.2)=[assign tg X.env]) ra0):PS X (.Assign [tg] e pos) (wx te g):=by
 intro pins s σ H D I h;refine wpAny_Assign_stores (cP (he pins s σ H _ I h) fun v s1 ⟨x,H1,I1,r1,q1⟩=>?_) hs hw;rw[h1];exact cP (hg pins s1 σ H1 x v _ I1 r1 q1) fun _ s2 q=>q
theorem Lz{i:Nat}{e:Expr}{pos':Pos}(hN:X.N.Nodup)(hi:X.N[i]?=some x)(hx:Loc X.env.scope x)(he:PE X e te)(hs:autoParam (swapsWith e (some (.Name x pos')) pos.line X.env=pure false) ra0)(hf:autoParam (X.fn x=true\/X.env.scope.names.lookup x=some .local) ra4) :
  PS X (.Assign [.Name x pos'] e pos) (wx te (mR i)):=by
 intro pins s σ H D I h;refine wpAny_Assign_Name (cP (he pins s σ H _ I h) fun v s1 ⟨y,H1,I1,r1,q1⟩=>?_) hs;exact mP I1 hN hi hx r1 (fun s2 I2=>⟨_,H1,I2,q1⟩) hf
def wy(c:TT)(tb:TS):TS:=fun D σ H=>∃ W:Nat->St->Hp->Prop,(∃ m,W m σ H)/\∀ m σ H,W m σ H ->
 c σ H fun b H1=>if b=true then ∃ N:St->Hp->Prop,(∀ bB H',N bB H'->∃ m',m' < m/\W m' bB H')/\tb { D with nx:=N,ct:=N,bk:=D.nx } σ H1 else D.nx σ H1
theorem Cw{tc:TT}{tb:TS}(hp:PassesOwn (model X.prog X.w) X.A X.env X.xe)(hc:PT X c tc)(hb:yy X body tb):PS X (.While c body [] pos) (wy tc tb):=by
 intro pins s σ H D I h;obtain⟨W,⟨m0,w0⟩,turn⟩:=h;refine wpAny_While (codeAny_whileLoop (fun n s'=>∃ bB H',Inv X pins bB H' s'/\W n bB H') ?_ m0 ⟨σ,H,I,w0⟩);rintro n s1 ⟨OM,H1,I1,w1⟩;refine acd hp (cP (hc pins s1 OM H1 _ I1 (turn n OM H1 w1)) fun b s2 ⟨H2,I2,q2⟩=>?_);cases b with
 | true =>
  obtain⟨N,hN,q2⟩:=q2;rw[aaN rfl];refine acd hp (cP (hb pins s2 OM H2 _ I2 q2) fun f s3 q3=>?_);cases f with
  | next =>
   obtain⟨yA,H3,I3,n3⟩:=q3;obtain⟨m',hm,w3⟩:=hN yA H3 n3;exact⟨m',hm,yA,H3,I3,w3⟩
  | cont =>
   obtain⟨yA,H3,I3,n3⟩:=q3;obtain⟨m',hm,w3⟩:=hN yA H3 n3;exact⟨m',hm,yA,H3,I3,w3⟩
  | brk=>exact q3
  | ret v=>exact q3
 | false =>
  rw[aaD aaC];exact ado ⟨OM,H2,I2,q2⟩
structure It where
 go:Nat->Hp->Prop
 Gv:Nat->Hp->V->Hp->Prop
 stop:Nat->Hp->Prop
def jB(X:Cx)(pins:yp)(H:Hp)(b:Addr):Prop :=
 H b=none/\b≠X.env.locals/\b ∉ X.fs/\(b∈X.ex\/X.a9.heap.objs.size<=b)/\(∀ x c,X.env.cells.lookup x=some c->c≠b)/\∀ p∈X.pn++pins,p.1≠b
theorem Inv.Aq{H':Hp}(I:Inv X pins σ H s)(hb:s.heap.objs.size<=b)(hn:H' b=none):jB X pins H' b:=by
 refine⟨hn,ab0 (aaL I.lt hb),I.Ug hb,.inr (aaA I.sz hb),fun x c e z=>?_,fun p hp z=>?_⟩
 ·obtain⟨v,q⟩:=I.cell x c e;exact absurd (aaL q.lt (by rw[z];exact hb)) (aa6 _)
 ·exact absurd (aaL (aay (I.pin p hp).1) (by rw[z];exact hb)) (aa6 _)
structure Turn(P:sB)(w:World)(K:zn)(tg:Expr)(J:It)(fp:ww)(it:Addr)(tn:Nat->Heap->Prop):Prop where
 mem:it∈fp
 obj:∀ i h,tn i h->∀ b∈fp,∃ o,h.get? b=some o/\∀ v,o.data≠.cell v
 keep:∀ i h h',tn i h->(∀ b∈fp,∀ o,h.get? b=some o->h'.get? b=some o)->tn i h'
 item:∀(X:Cx),X.prog=P->X.w=w->X.K=K->X.calm=true->∀(i:Nat) (pins:yp) (s:Shared) (σ:St) (H:Hp) (E:xz),Inv X pins σ H s->(∀ b∈fp,jB X pins H b)->tn i s.heap->J.go i H ->
  wpAny (model P w) X.A (pyNext (.ref it)) (fun r s1=>∃ u,r=some u /\
   wpAny (model P w) X.A (letOwnedTupleGo tg (.ref it) u) (fun _ s2=>∃ x H',Inv X pins σ H' s2/\RelV x u/\J.Gv i H x H'/\tn (i+1) s2.heap/\∀ b∈fp,H' b=none) E s1) E s
 done:∀(X:Cx),X.prog=P->X.w=w->X.K=K->X.calm=true->∀(i:Nat) (pins:yp) (s:Shared) (σ:St) (H:Hp) (E:xz),Inv X pins σ H s->(∀ b∈fp,jB X pins H b)->tn i s.heap->J.stop i H ->
  wpAny (model P w) X.A (pyNext (.ref it)) (fun r s1=>r=none/\Inv X pins σ H s1) E s
 self:∀(A:sK) (i:Nat) (s:Shared) (Q:xz) (E:xz),tn i s.heap->Q (.ref it) s->wpAny (model P w) A (pyIter (.ref it)) Q E s
abbrev TI:=St->Hp->(It->Hp->Prop)->Prop
def Xv(X:Cx)(pins:yp)(σ:St)(tg:Expr)(R:It->Hp->Prop)(S1:Value)(s2:Shared):Prop :=
 ∃(it:Addr) (fp:ww) (tn:Nat->Heap->Prop) (J:It) (H':Hp),S1=.ref it/\Inv X pins σ H' s2/\Turn X.prog X.w X.K tg J fp it tn/\tn 0 s2.heap/\(∀ b∈fp,jB X pins H' b)/\R J H'
def PI(X:Cx)(tg iter:Expr)(wi:TI):Prop :=
 ∀(pins:yp) (s:Shared) (σ:St) (H:Hp) (R:It->Hp->Prop),Inv X pins σ H s->wi σ H R ->
  wpAny (model X.prog X.w) X.A (eval iter X.env) (fun v s1=>wpAny (model X.prog X.w) X.A (pyIter v) (Xv X pins σ tg R) X.xe s1) X.xe s
theorem JA{it:Addr}{o:Obj}{n:String}{vs:Array Value}{Q:Unit->Shared->Prop}(ho:s.heap.get? it=some o)(hc:o.cls=.type n)(hd:o.data=.fields vs)(hn:["enumerate", "zip", "dict_itemiterator", "dict_reverseitemiterator", "odict_iterator", "itertools.zip_longest", "itertools.pairwise"].contains n=false)(hQ:Q () s):wpAny M A (letOwnedTupleGo tg (.ref it) u) Q E s:=by
 unfold letOwnedTupleGo;cases tg<;>first
  | exact aao hQ
  | (cases u<;>first
    | exact aao hQ
    |(refine aak (wpAny_load ho ?_)
      rw[hc,hd]
      show wpAny M A (if(["enumerate", "zip", "dict_itemiterator", "dict_reverseitemiterator", "odict_iterator", "itertools.zip_longest", "itertools.pairwise"].contains n&&vs[0]? == some (rawInt _))=true then _ else _) Q E s
      rw[aaD (by intro h;rw[hn,Bool.false_and]at h;cases h)]
      exact aao hQ))
def Uq(K:zn)(a:Addr):It :=
 ⟨fun i H=>∃ xs x,eE K H a xs/\xs[i]?=some x,fun i H x H'=>H'=H/\∀ xs,eE K H a xs->xs[i]?=some x,fun i H=>∃ xs,eE K H a xs/\xs.length<=i⟩
def S2(lo:Int)(n:Nat):It:=⟨fun i _=>i < n,fun i H x H'=>H'=H/\x=.int (lo+i),fun i _=>n<=i⟩
theorem Ar{K:zn}(a it:Addr):Turn P w K tg (Uq K a) [it] it (fun i h=>h.IsListIter it a i) where
 mem:=by simp
 obj:=fun i h st b hb=>by
  have e:b=it:=by simpa using hb
  subst e;obtain⟨o,e,c,d⟩:=st;exact⟨o,e,fun v z=>by rw[d]at z;cases z⟩
 keep:=fun i h h' st k=>st.at fun o e=>k it (by simp) o e
 item:=by
  intro X hP hw hK hc i pins s σ H E I hf st hg;subst hP hw hK;obtain⟨xs,x,hq,hx⟩:=hg;obtain⟨aQ,rv,p,hz⟩:=I.list hq;obtain⟨u,hu,ru⟩:=rv.get hx;obtain⟨f0,f1,f2,f3,f4,f5⟩:=hf it (by simp);refine wpAny_pyNext_list_item st p.isList (x:=u) (by simpa using hu) fun h' mS sb=>?_;have I1:Inv X pins σ H { s with heap:=h' }:=I.turned (t':=s.toks) (fun b o hb e=>(sb.2 b hb).trans e) f0 f1 f3 f4 f5;obtain⟨o,e,c,d⟩:=id mS;exact⟨u,rfl,JA (s:={ s with heap:=h' }) e c d (by decide) ⟨x,H,I1,ru,⟨rfl,fun ys hy=>by rw[I.uc hy hq];exact hx⟩,mS,fun b hb=>(hf b hb).1⟩⟩
 done:=by
  intro X hP hw hK hc i pins s σ H E I hf st hg;subst hP hw hK;obtain⟨xs,hq,hx⟩:=hg;obtain⟨aQ,rv,p,hz⟩:=I.list hq;obtain⟨f0,f1,f2,f3,f4,f5⟩:=hf it (by simp);have hl:=rv.length;exact wpAny_pyNext_list_end (I.ok.hd hc) st p.isList (by simp;omega) fun h' eb=>⟨rfl,I.turned (t':=s.toks) (fun b o hb e=>eb b o hb e) f0 f1 f3 f4 f5⟩
 self:=fun _ _ _ _ _ st h=>wpAny_pyIter_listiter st h
theorem wz{K:zn}(it:Addr)(lo:Int)(n:Nat):Turn P w K tg (S2 lo n) [it] it (fun i h=>IsRangeIter h it (lo+(i:Nat) * 1) ((n:Int) - (i:Nat)) 1) where
 mem:=by simp
 obj:=fun i h st b hb=>by
  have e:b=it:=by simpa using hb
  subst e;exact⟨_,st,fun v z=>by
   have z':Data.fields _=Data.cell v:=z;cases z'⟩
 keep:=fun i h h' st k=>k it (by simp) _ st
 item:=by
  intro X hP hw hK hc i pins s σ H E I hf st hg;subst hP hw hK;obtain⟨f0,f1,f2,f3,f4,f5⟩:=hf it (by simp);have W:=Walks.range (prog:=X.prog) (w:=X.w) (I.ok.hd hc) it lo 1 n;refine W.item i s _ _ hg st fun v h' tk hv mS kk=>?_;obtain⟨t,rfl⟩:=hv;have I1:Inv X pins σ H { s with heap:=h',toks:=tk }:=I.turned (fun b o hb e=>kk b o (by simpa using hb) e) f0 f1 f3 f4 f5;refine⟨_,rfl,JA (s:={ s with heap:=h',toks:=tk }) (n := "range_iterator") mS rfl rfl (by decide) ⟨.int (lo+i),H,I1,⟨t,?_⟩,⟨rfl,rfl⟩,mS,fun b hb=>(hf b hb).1⟩⟩;rw[Int.mul_one]
 done:=by
  intro X hP hw hK hc i pins s σ H E I hf st hg;subst hP hw hK;obtain⟨f0,f1,f2,f3,f4,f5⟩:=hf it (by simp);exact wpAny_pyNext_range_end (I.ok.hd hc) st (by have:n<=i:=hg;omega) fun h' eb=>⟨rfl,I.turned (t':=s.toks) (fun b o hb e=>eb b o hb e) f0 f1 f3 f4 f5⟩
 self:=fun _ _ _ _ _ st h=>wpAny_pyIter_rangeiter st h
def Cy(K:zn)(tl:TE):TI:=fun σ H R=>tl σ H fun x H1=>∃ a,x=.ref a/\(∃ xs,eE K H1 a xs)/\R (Uq K a) H1
theorem GY{l:Expr}{tl:TE}(hl:PE X l tl):PI X tg l (Cy X.K tl):=by
 intro pins s σ H R I h;refine cP (hl pins s σ H _ I h) fun v s1 ⟨x,H1,I1,r1,q1⟩=>?_;obtain⟨a,e,⟨xs,hq⟩,q⟩:=q1;subst e;cases r1;obtain⟨aQ,rv,p,hz⟩:=I1.list hq;refine abL p.isList ?_;refine⟨s1.heap.objs.size,[s1.heap.objs.size],_,_,H1,rfl,I1.kept (t':=s1.toks) fun b o e=>aam _ e,Ar a _,⟨_,aaz _ rfl,rfl,rfl⟩,fun b hb=>?_,q⟩;have e:b=s1.heap.objs.size:=by simpa using hb
 subst e;exact I1.Aq (aar _) (I1.ck.fresh (aar _))
theorem Cz{R:It->Hp->Prop}{lo hi:Int}{t u v:Tok}{tk:Nat}(I:Inv X pins σ H s)(h1:-(2 ^ 62)<=lo)(h2:lo < 2 ^ 62)(h3:-(2 ^ 62)<=hi)(h4:hi < 2 ^ 62)(q:R (S2 lo (hi - lo).toNat) H):wpAny (model X.prog X.w) X.A (pyIter (.ref s.heap.objs.size)) (Xv X pins σ tg R) E { s with heap:=s.heap.push { cls:=.type "range",data:=.fields #[.int lo t,.int hi u,.int 1 v] },toks:=tk }:=by
 refine wpAny_pyIter_range (IsRange.new ..) (small_one h1 h2 h3 h4) ?_;have I1:Inv X pins σ H { s with heap:=s.heap.push { cls:=.type "range",data:=.fields #[.int lo t,.int hi u,.int 1 v] },toks:=tk }:=I.kept fun b o e=>aam _ e;refine⟨(s.heap.push { cls:=.type "range",data:=.fields #[.int lo t,.int hi u,.int 1 v] }).objs.size,[(s.heap.push { cls:=.type "range",data:=.fields #[.int lo t,.int hi u,.int 1 v] }).objs.size],_,_,H,rfl,
  I1.kept (t':=tk) fun b o e=>aam _ e,wz _ lo (hi - lo).toNat,?_,fun b hb=>?_,q⟩
 ·have e1:lo+((0:Nat):Int) * 1=lo:=by simp
  have e2:(((hi - lo).toNat:Nat):Int) - ((0:Nat):Int)=Builtin.Range.rangeSize lo hi 1:=by rw[rangeSize_one];split<;>omega
  show IsRangeIter _ _ (lo+((0:Nat):Int) * 1) ((((hi - lo).toNat:Nat):Int) - ((0:Nat):Int)) 1;rw[e1,e2];exact aaz _ rfl
 ·have e:b=(s.heap.push { cls:=.type "range",data:=.fields #[.int lo t,.int hi u,.int 1 v] }).objs.size:=by simpa using hb
  subst e;exact I1.Aq (aar _) (I1.ck.fresh (aar _))
def CA(ta:TA):TI:=fun σ H R=>ta σ H fun vs H1=>∃ j:Int,vs=[.int j]/\-(2 ^ 62)<=j/\j < 2 ^ 62/\R (S2 0 j.toNat) H1
theorem As{a:Expr}{ta:TA}(hg:Gl X "range")(hm:X.mg "range"=none)(ha:PA X [a] ta)(hs:autoParam (starEach [a] X.env=[(false,eval a X.env)]) ra0):PI X tg (.Call (.Name "range" p) [a] [] pos) (CA ta):=by
 intro pins s σ H R I h;refine Call_ (jr I hg hm boot_range (abX (cP (ha pos pins s σ H _ I h) fun us s1 ⟨vs,H1,I1,r1,q1⟩=>?_) hs rfl));obtain⟨j,e,q1,q2,q⟩:=q1;subst e;cases r1 with
 | cons r rr =>
  cases rr;obtain⟨t,rfl⟩:=r;exact call_range_1 (Cz I1 (by omega) (by omega) q1 q2 (by simpa using q))
def LB(wi:TI)(g:TG)(tb:TS):TS:=fun D σ H=>wi σ H fun J H1=>∃ W:Nat->Nat->St->Hp->Prop,(∃ m,W 0 m σ H1)/\∀ i m σ H,W i m σ H ->
 (J.stop i H/\D.nx σ H)\/(J.go i H/\∃ N:St->Hp->Prop,(∀ bB H',N bB H'->∃ m',m' < m/\W (i+1) m' bB H')/\∀ x H',J.Gv i H x H'->g x σ H' fun B0 H2=>tb { D with nx:=N,ct:=N,bk:=D.nx } B0 H2)
def eT(fp:ww)(h:Heap):List (Addr×Obj):=fp.filterMap fun b=>(h.get? b).map fun o=>(b,o)
theorem eG{o:Obj}(hb:b∈fp)(e:h.get? b=some o):(b,o)∈eT fp h:=adv.mpr ⟨b,hb,by rw[e];rfl⟩
theorem pQ{p:Addr×Obj}(hp:p∈eT fp h):p.1∈fp/\h.get? p.1=some p.2:=by
 obtain⟨b,hb,e⟩:=adv.mp hp;cases q:h.get? b with
 | none=>rw[q]at e;cases e
 | some o =>
  rw[q]at e;have e':(b,o)=p:=aa5 e;subst e';exact⟨hb,q⟩
theorem Inv.pinned(I:Inv X pins σ H s)(hf:∀ b∈fp,jB X pins H b)(ho:∀ b∈fp,∃ o,s.heap.get? b=some o/\∀ v,o.data≠.cell v):Inv X (pins++eT fp s.heap) σ H s :=
 I.yx fun p hp=>(aav.mp hp).elim (fun z=>I.pin p (aaS _ z)) fun z=>by
  obtain⟨hb,e⟩:=pQ z;obtain⟨f0,f1,f2,_⟩:=hf p.1 hb;obtain⟨o,e',d⟩:=ho p.1 hb;rw[e]at e';cases e';exact⟨e,f0,f1,f2,d⟩
theorem Inv.jC{pl:yp}(I:Inv X (pins++pl) σ H s):Inv X pins σ H s:=I.yx fun p hp=>I.pin p (aaS _ (acB _ hp))
theorem LC{iter:Expr}{wi:TI}{g:TG}{tb:TS}(hp:PassesOwn (model X.prog X.w) X.A X.env X.xe)(hc:X.calm=true)(hi:PI X tg iter wi)(hg:PG X tg g)(hb:yy X body tb)(hs:autoParam (∀ x,foldedSetIterable iter X.env x=pure x) ra2):PS X (.For tg iter body [] pos) (LB wi g tb):=by
 intro pins s σ H D I h;refine wpAny_For (cP (hi pins s σ H _ I h) fun v s1 h1=>cP h1 fun S1 s2 h2=>?_) hs;obtain⟨it,fp,tn,J,H2,e,I2,T,pR,f2,W,⟨m0,w0⟩,turn⟩:=h2;subst e
 -- Po stays true of ON LD objects through ON loop
 have wA:∀{H':Hp},(∀ b∈fp,H' b=none)->∀ b∈fp,jB X pins H' b:=fun hn b hb=>⟨hn b hb,(f2 b hb).2⟩;refine codeAny_forLoop_any (fun n s'=>∃ i bB H',Inv X pins bB H' s'/\tn i s'.heap/\(∀ b∈fp,H' b=none)/\W i n bB H') ?_ m0 ⟨0,σ,H2,I2,pR,fun b hb=>(f2 b hb).1,w0⟩;rintro n s3 ⟨i,yA,H3,I3,Xw,Xx,w3⟩;rcases turn i n yA H3 w3 with⟨stop,qn⟩ | ⟨go,N,hN,step⟩
 ·refine acd hp (cP (T.done X rfl rfl rfl hc i pins s3 yA H3 X.xe I3 (wA Xx) Xw stop) fun r s4 ⟨hr,I4⟩=>?_);subst hr;exact ado ⟨yA,H3,I4,qn⟩
 ·refine acd hp (cP (T.item X rfl rfl rfl hc i pins s3 yA H3 X.xe I3 (wA Xx) Xw go) fun r s4 ⟨u,hr,h4⟩=>?_);subst hr;refine acd hp (cP h4 fun _ s5 ⟨x,H5,I5,r5,y5,OO,S3⟩=>?_);have Pp:=I5.pinned (wA S3) (T.obj _ _ OO);refine acd hp (cP (hg _ s5 yA H5 x u _ Pp r5 (step x H5 y5)) fun _ s6 ⟨Zw,H6,I6,q6⟩=>?_);refine acd hp (cP (hb _ s6 Zw H6 _ I6 q6) fun f s7 q7=>?_);have again:∀{CB:St} {H7:Hp},Inv X (pins++eT fp s5.heap) CB H7 s7->N CB H7->∃ m,m < n/\∃ i bB H',Inv X pins bB H' s7/\tn i s7.heap/\(∀ b∈fp,H' b=none)/\W i m bB H':=fun{CB H7} I7 n7=>by
   obtain⟨m',hm,w7⟩:=hN CB H7 n7;refine⟨m',hm,i+1,CB,H7,I7.jC,T.keep _ _ _ OO fun b hb o e=>(I7.pin (b,o) (aaS _ (aaS _ (eG hb e)))).1,fun b hb=>?_,w7⟩;obtain⟨o,e,d⟩:=T.obj _ _ OO b hb;exact(I7.pin (b,o) (aaS _ (aaS _ (eG hb e)))).2.1
  cases f with
  | next=>obtain⟨CB,H7,I7,n7⟩:=q7;exact again I7 n7
  | cont=>obtain⟨CB,H7,I7,n7⟩:=q7;exact again I7 n7
  | brk=>obtain⟨CB,H7,I7,q7⟩:=q7;exact⟨CB,H7,I7.jC,q7⟩
  | ret v=>obtain⟨x7,CB,H7,I7,r7,q7⟩:=q7;exact⟨x7,CB,H7,I7.jC,r7,q7⟩
abbrev R2:=V->V->Hp->VK->Prop
def gE(X:Cx)(f:Value->Value->Sem Value)(r:R2):Prop :=
 ∀(pins:yp) (s:Shared) (σ:St) (H:Hp) (x y:V) (v u:Value) (Q:VK),Inv X pins σ H s->RelV x v->RelV y u->r x y H Q ->
  wpAny (model X.prog X.w) X.A (f v u) (EP X pins σ Q) X.xe s
def S4(X:Cx)(f:Value->Sem Value)(r:V->Hp->VK->Prop):Prop :=
 ∀(pins:yp) (s:Shared) (σ:St) (H:Hp) (x:V) (v:Value) (Q:VK),Inv X pins σ H s->RelV x v->r x H Q ->
  wpAny (model X.prog X.w) X.A (f v) (EP X pins σ Q) X.xe s
def dG(X:Cx)(f:Value)(r:List V->Hp->VK->Prop):Prop :=
 ∀(pins:yp) (s:Shared) (σ:St) (H:Hp) (xs:List V) (us:wf) (Q:VK),Inv X pins σ H s->Vals xs us->r xs H Q ->
  wpAny (model X.prog X.w) X.A (call f us) (EP X pins σ Q) X.xe s
def B1(r:R2)(ta tb:TE):TE:=fun σ H Q=>ta σ H fun x H1=>tb σ H1 fun y H2=>r x y H2 Q
def S5(r:V->Hp->VK->Prop)(ta:TE):TE:=fun σ H Q=>ta σ H fun x H1=>r x H1 Q
def rI(C:Int->Int->Prop)(g:Int->Int->V):R2:=fun x y H Q=>∃ i j,x=.int i/\y=.int j/\C i j/\Q (g i j) H
def Gw(g:Int->Int->V):R2:=fun x y H Q=>∃ i j,x=.int i/\y=.int j/\Q (g i j) H
def rU(g:Int->V):V->Hp->VK->Prop:=fun x H Q=>∃ i,x=.int i/\Q (g i) H
section
variable {a b:Expr}{tb tc:TE}
theorem LF(ha:PE X a ta)(hb:PE X b tb){R:V->V->Hp->Prop}(I:Inv X pins σ H s)(h:ta σ H fun x H1=>tb σ H1 fun y H2=>R x y H2)(hf:∀ v u s2 x y H2,Inv X pins σ H2 s2->RelV x v->RelV y u->R x y H2->wpAny (model X.prog X.w) X.A (f v u) Q X.xe s2) :
  wpAny (model X.prog X.w) X.A (eval a X.env) (fun v bG=>wpAny (model X.prog X.w) X.A (eval b X.env) (fun u bh=>wpAny (model X.prog X.w) X.A (f v u) Q X.xe bh) X.xe bG) X.xe s:=by
 refine cP (ha pins s σ H _ I h) fun v s1 ⟨x,H1,I1,r1,q1⟩=>?_;refine cP (hb pins s1 σ H1 _ I1 q1) fun u s2 ⟨y,H2,I2,r2,q2⟩=>?_;exact hf v u s2 x y H2 I2 r1 r2 q2
theorem Pq{op:Operator}{r:R2}(ho:gE X (binaryOp op) r)(ha:PE X a ta)(hb:PE X b tb):PE X (.BinOp a op b pos) (B1 r ta tb):=by
 intro pins s σ H Q I h;exact wpAny_BinOp (LF ha hb I h fun v u s2 x y H2 I2 rx ry q=>ho pins s2 σ H2 x y v u Q I2 rx ry q)
theorem Pt{op:UnaryOp}{r:V->Hp->VK->Prop}(ho:S4 X (unaryOp op) r)(ha:PE X a ta):PE X (.UnaryOp op a pos) (S5 r ta):=by
 intro pins s σ H Q I h;exact UnaryOp_ (cP (ha pins s σ H _ I h) fun v s1 ⟨x,H1,I1,r1,q1⟩=>ho pins s1 σ H1 x v Q I1 r1 q1)
theorem S6{C:Int->Int->Prop}{g:Int->Int->Int}(rule:∀(i j:Int) (t u:Tok) (s:Shared) (Q:xz) (E:xz),C i j->Q (.int (g i j) s.toks) { s with toks:=s.toks+1 }->wpAny (model X.prog X.w) X.A (f (.int i t) (.int j u)) Q E s) :
  gE X f (rI C fun i j=>.int (g i j)):=by
 intro pins s σ H x y v u Q I rx ry h;obtain⟨i,j,rfl,rfl,hc,q⟩:=h;obtain⟨t,rfl⟩:=rx;obtain⟨t',rfl⟩:=ry;exact rule i j t t' s _ _ hc ⟨.int (g i j),H,I.tok _,⟨_,rfl⟩,q⟩
theorem LH{g:Int->Int->Int}(rule:∀(i j:Int) (t u:Tok) (s:Shared) (Q:xz) (E:xz),Q (.int (g i j) s.toks) { s with toks:=s.toks+1 }->wpAny (model X.prog X.w) X.A (f (.int i t) (.int j u)) Q E s) :
  gE X f (Gw fun i j=>.int (g i j)):=by
 intro pins s σ H x y v u Q I rx ry h;obtain⟨i,j,rfl,rfl,q⟩:=h;obtain⟨t,rfl⟩:=rx;obtain⟨t',rfl⟩:=ry;exact rule i j t t' s _ _ ⟨.int (g i j),H,I.tok _,⟨_,rfl⟩,q⟩
theorem GZ{g:Int->Int->Bool}(rule:∀(i j:Int) (t u:Tok) (s:Shared) (Q:xz) (E:xz),Q (.bool (g i j)) s->wpAny (model X.prog X.w) X.A (f (.int i t) (.int j u)) Q E s) :
  gE X f (Gw fun i j=>.bl (g i j)):=by
 intro pins s σ H x y v u Q I rx ry h;obtain⟨i,j,rfl,rfl,q⟩:=h;obtain⟨t,rfl⟩:=rx;obtain⟨t',rfl⟩:=ry;exact rule i j t t' s _ _ ⟨.bl (g i j),H,I,rfl,q⟩
def Ur(i j:Int):Prop:=0<=j/\j<=1000000/\i.natAbs < 2 ^ 64
def LJ(i j:Int):Prop:=(-(2 ^ 64) < i/\i < 2 ^ 64)\/(-(2 ^ 64) < j/\j < 2 ^ 64)
theorem LJ.ok{i j:Int}(h:LJ i j):IntMulOk i j:=by
 rcases h with⟨h1,h2⟩ | ⟨h1,h2⟩
 ·exact .of_left (intBits_le_64 h1 h2)
 ·exact .of_right (intBits_le_64 h1 h2)
theorem aV:gE X (binaryOp .Add) (Gw fun i j=>.int (i+j)):=LH fun _ _ _ _ _ _ _ q=>add_int q
theorem eU:gE X (binaryOp .Sub) (Gw fun i j=>.int (i - j)):=LH fun _ _ _ _ _ _ _ q=>sub_int q
theorem js:gE X (binaryOp .Mult) (rI LJ fun i j=>.int (i * j)):=S6 fun _ _ _ _ _ _ _ hc q=>mul_int q hc.ok
theorem eV:gE X (binaryOp .Mod) (rI (fun _ j=>0 < j) fun i j=>.int (i % j)):=S6 fun i j _ _ _ _ _ hc q=>by
 have h1:(0:Int) < j:=hc;exact mod_int' (by omega) (by rw[Int.fmod_eq_emod_of_nonneg i (by omega)];exact q)
theorem kA:gE X (binaryOp .Pow) (rI Ur fun i j=>.int (i ^ j.toNat)):=S6 fun _ _ _ _ _ _ _ hc q=>pow_int_small hc.1 hc.2.1 hc.2.2 q
theorem qW:gE X (inplaceOp .Add) (Gw fun i j=>.int (i+j)):=LH fun _ _ _ _ _ _ _ q=>iadd_int q
theorem Zx{f:Value->Sem Value}{g:Int->Int}(rule:∀(i:Int) (t:Tok) (s:Shared) (Q:xz) (E:xz),Q (.int (g i) s.toks) { s with toks:=s.toks+1 }->wpAny (model X.prog X.w) X.A (f (.int i t)) Q E s) :
  S4 X f (rU fun i=>.int (g i)):=by
 intro pins s σ H x v Q I rx h;obtain⟨i,rfl,q⟩:=h;obtain⟨t,rfl⟩:=rx;exact rule i t s _ _ ⟨.int (g i),H,I.tok _,⟨_,rfl⟩,q⟩
theorem mU:S4 X (unaryOp .USub) (rU fun i=>.int (-i)):=Zx fun _ _ _ _ _ q=>neg_int q
end
def Pu:V->V->Bool
 | .cS,.cS=>true | .cS,.int _=>true | .int _,.cS=>true | .cS,.bl _=>true | .bl _,.cS=>true | .cS,.str _=>true | .str _,.cS=>true
 | .int _,.int _=>true | .bl _,.bl _=>true | .str _,.str _=>true | .yw _,.yw _=>true
 | .int _,.str _=>true | .str _,.int _=>true | .bl _,.str _=>true | .str _,.bl _=>true
 | _,_=>false
def Xy:R2:=fun x y H Q=>Pu x y=true/\Q (.bl (decide (x=y))) H
def Xz:R2:=fun x y H Q=>Pu x y=true/\Q (.bl (!decide (x=y))) H
theorem yB{i j:Int}:decide (V.int i=V.int j)=(i == j):=by
 rw[adp];simp
theorem CC{i j:Bool}:decide (V.bl i=V.bl j)=(i == j):=by
 rw[adp];simp
theorem yC{i j:Str}:decide (V.str i=V.str j)=(i == j):=by
 rw[adp];simp
theorem yD{i j:Array UInt8}:decide (V.yw i=V.yw j)=(i.toList == j.toList):=by
 rw[adp];cases i;cases j;simp
section
variable {a b:Expr}{tb tc:TE}
theorem bN{Q:VK}{k k':Bool}(I:Inv X pins σ H s)(q:Q (.bl k) H)(e:k=k'):EP X pins σ Q (.bool k') s:=by
 subst e;exact⟨.bl k,H,I,rfl,q⟩
theorem Pw:gE X (compareOp .Eq) Xy:=by
 intro pins s σ H x y v u Q I rx ry h;obtain⟨hs,q⟩:=h;cases x with
 | cS =>
  cases rx;cases y with
  | cS=>cases ry;exact PySem.EqNone.eq_none_none (bN I q (by simp))
  | bl j=>cases ry;exact PySem.EqNone.eq_none_bool (bN I q (by simp))
  | int j=>obtain⟨t',rfl⟩:=ry;exact PySem.EqNone.eq_none_int (bN I q (by simp))
  | str j=>obtain⟨t',rfl⟩:=ry;exact PySem.EqNone.eq_none_str (bN I q (by simp))
  | _=>exact absurd (show false=true from hs) aaC
 | bl i =>
  cases rx;cases y with
  | cS=>cases ry;exact PySem.EqNone.eq_bool_none (bN I q (by simp))
  | bl j=>cases ry;exact eq_bool (bN I q CC)
  | str j=>obtain⟨t',rfl⟩:=ry;exact PySem.EqMixed.eq_bool_str (bN I q (by simp))
  | _=>exact absurd (show false=true from hs) aaC
 | int i =>
  obtain⟨t,rfl⟩:=rx;cases y with
  | cS=>cases ry;exact PySem.EqNone.eq_int_none (bN I q (by simp))
  | int j=>obtain⟨t',rfl⟩:=ry;exact eq_int (bN I q yB)
  | str j=>obtain⟨t',rfl⟩:=ry;exact PySem.EqMixed.eq_int_str (bN I q (by simp))
  | _=>exact absurd (show false=true from hs) aaC
 | str i =>
  obtain⟨t,rfl⟩:=rx;cases y with
  | cS=>cases ry;exact PySem.EqNone.eq_str_none (bN I q (by simp))
  | bl j=>cases ry;exact PySem.EqMixed.eq_str_bool (bN I q (by simp))
  | int j=>obtain⟨t',rfl⟩:=ry;exact PySem.EqMixed.eq_str_int (bN I q (by simp))
  | str j=>obtain⟨t',rfl⟩:=ry;exact eq_str (bN I q yC)
  | _=>exact absurd (show false=true from hs) aaC
 | yw i =>
  obtain⟨t,rfl⟩:=rx;cases y with
  | yw j=>obtain⟨t',rfl⟩:=ry;exact PySem.W.eq_bytes (bN I q yD)
  | _=>exact absurd (show false=true from hs) aaC
 | _=>cases y<;>exact absurd (show false=true from hs) aaC
theorem Px:gE X (compareOp .NotEq) Xz:=by
 intro pins s σ H x y v u Q I rx ry h;obtain⟨hs,q⟩:=h;cases x with
 | cS =>
  cases rx;cases y with
  | cS=>cases ry;exact PySem.EqNone.ne_none_none (bN I q (by simp))
  | bl j=>cases ry;exact PySem.EqNone.ne_none_bool (bN I q (by simp))
  | int j=>obtain⟨t',rfl⟩:=ry;exact PySem.EqNone.ne_none_int (bN I q (by simp))
  | str j=>obtain⟨t',rfl⟩:=ry;exact PySem.EqNone.ne_none_str (bN I q (by simp))
  | _=>exact absurd (show false=true from hs) aaC
 | bl i =>
  cases rx;cases y with
  | cS=>cases ry;exact PySem.EqNone.ne_bool_none (bN I q (by simp))
  | bl j=>cases ry;exact ne_bool (bN I q (abJ not CC))
  | str j=>obtain⟨t',rfl⟩:=ry;exact PySem.EqMixed.ne_bool_str (bN I q (by simp))
  | _=>exact absurd (show false=true from hs) aaC
 | int i =>
  obtain⟨t,rfl⟩:=rx;cases y with
  | cS=>cases ry;exact PySem.EqNone.ne_int_none (bN I q (by simp))
  | int j=>obtain⟨t',rfl⟩:=ry;exact ne_int (bN I q (abJ not yB))
  | str j=>obtain⟨t',rfl⟩:=ry;exact PySem.EqMixed.ne_int_str (bN I q (by simp))
  | _=>exact absurd (show false=true from hs) aaC
 | str i =>
  obtain⟨t,rfl⟩:=rx;cases y with
  | cS=>cases ry;exact PySem.EqNone.ne_str_none (bN I q (by simp))
  | bl j=>cases ry;exact PySem.EqMixed.ne_str_bool (bN I q (by simp))
  | int j=>obtain⟨t',rfl⟩:=ry;exact PySem.EqMixed.ne_str_int (bN I q (by simp))
  | str j=>obtain⟨t',rfl⟩:=ry;exact ne_str (bN I q (abJ not yC))
  | _=>exact absurd (show false=true from hs) aaC
 | yw i =>
  obtain⟨t,rfl⟩:=rx;cases y with
  | yw j=>obtain⟨t',rfl⟩:=ry;exact PySem.W.ne_bytes (bN I q (abJ not yD))
  | _=>exact absurd (show false=true from hs) aaC
 | _=>cases y<;>exact absurd (show false=true from hs) aaC
theorem lE:gE X (compareOp .Lt) (Gw fun i j=>.bl (decide (i < j))):=GZ fun _ _ _ _ _ _ _ q=>lt_int q
theorem JB:gE X (compareOp .LtE) (Gw fun i j=>.bl (decide (i<=j))):=GZ fun _ _ _ _ _ _ _ q=>le_int q
theorem yE:gE X (compareOp .Gt) (Gw fun i j=>.bl (decide (j < i))):=GZ fun _ _ _ _ _ _ _ q=>gt_int q
theorem pS:gE X (compareOp .GtE) (Gw fun i j=>.bl (decide (j<=i))):=GZ fun _ _ _ _ _ _ _ q=>ge_int q
theorem CD(b:Expr)(h:autoParam (op≠.In) ra1)(h2:autoParam (op≠.NotIn) ra1):behindInMarks op b=false:=by
 have e1:(op == CmpOp.In)=false:=by cases op<;>first | rfl | exact absurd rfl h
 have e2:(op == CmpOp.NotIn)=false:=by cases op<;>first | rfl | exact absurd rfl h2
 cases b<;>simp[behindInMarks,e1,e2]
theorem yF{r:R2}(ho:gE X (compareOp op) r)(ha:PE X a ta)(hb:PE X b tb)(hm:behindInMarks op b=false):PE X (.Compare a [op] [b] pos) (B1 r ta tb):=by
 intro pins s σ H Q I h;exact wpAny_Compare1 (LF ha hb I h fun v u s2 x y H2 I2 rx ry q=>ho pins s2 σ H2 x y v u Q I2 rx ry q) hm
def yG(t:TE):TT:=fun σ H Q=>t σ H fun x H'=>∃ k,x=.bl k/\Q k H'
theorem yH{r:R2}(ho:gE X (compareOp op) r)(ha:PE X a ta)(hb:PE X b tb)(hm:behindInMarks op b=false):PT X (.Compare a [op] [b] pos) (yG (B1 r ta tb)):=by
 intro pins s σ H Q I h;refine wpAny_isTrue_Compare1 (cP (ha pins s σ H _ I h) fun v s1 ⟨x,H1,I1,r1,q1⟩=>cP (hb pins s1 σ H1 _ I1 q1) fun u s2 ⟨y,H2,I2,r2,q2⟩ =>
  cP (ho pins s2 σ H2 x y v u _ I2 r1 r2 q2) fun c s3 ⟨z,H3,I3,r3,k,e,q3⟩=>?_) hm
 subst e;cases r3;exact abK ⟨H3,I3,q3⟩
def wB(r r':R2)(ta tb tc:TE):TE:=fun σ H Q=>ta σ H fun x H1=>tb σ H1 fun y H2=>r x y H2 fun z H3=>∃ k,z=.bl k /\
 (if k=true then tc σ H3 fun w' H4=>r' y w' H4 Q else Q (.bl false) H3)
theorem CF{LK:CmpOp}{r r':R2}(ho:gE X (compareOp op) r)(Cd:gE X (compareOp LK) r')(ha:PE X a ta)(hb:PE X b tb)(hc:PE X c tc)(hm:autoParam (lastMarks [op,LK] [b,c]=false) ra3):PE X (.Compare a [op,LK] [b,c] pos) (wB r r' ta tb tc):=by
 intro pins s σ H Q I h;refine Compare_chain (cP (ha pins s σ H _ I h) fun v s1 ⟨x,H1,I1,r1,q1⟩=>chain_link (cP (hb pins s1 σ H1 _ I1 q1) fun u s2 ⟨y,H2,I2,r2,q2⟩ =>
  cP (ho pins s2 σ H2 x y v u _ I2 r1 r2 q2) fun d s3 ⟨z,H3,I3,r3,k,e,q3⟩=>?_)) hm
 subst e;cases r3;refine abK ?_;cases k with
 | false=>exact ite_ff ⟨.bl false,H3,I3,rfl,q3⟩
 | true=>exact ite_tt (chain_last (cP (hc pins s3 σ H3 _ I3 q3) fun w' s4 ⟨z',H4,I4,r4,q4⟩=>Cd pins s4 σ H4 y z' u w' Q I4 r2 r4 q4))
theorem mW:(sizeLine:Nat) < 2 ^ 63:=by rw[sizeLine_eq];decide
theorem vals1{x:V}(r:Vals [x] us):∃ u,us=[u]/\RelV x u:=by
 cases r with
 | cons r1 r2=>cases r2;exact⟨_,rfl,r1⟩
theorem vals2{x:V}(r:Vals [x,y] us):∃ u w',us=[u,w']/\RelV x u/\RelV y w':=by
 cases r with
 | cons r1 r2 =>
  cases r2 with
  | cons r3 r4=>cases r4;exact⟨_,_,rfl,r1,r3⟩
theorem Au(hc:X.calm=true):dG X (.builtin "max") (fun xs H Q=>∃ i j,xs=[.int i,.int j]/\Q (.int (if j > i then j else i)) H):=by
 intro pins s σ H xs us Q I r h;obtain⟨i,j,rfl,q⟩:=h;obtain⟨u,w',rfl,⟨t,rfl⟩,⟨t',rfl⟩⟩:=vals2 r;refine max_two_ints (I.ok.hd hc) fun h' tk k=>⟨_,H,I.kept k,?_,q⟩
 by_cases hj:j > i
 ·rw[aaN hj,aaN hj];exact⟨_,rfl⟩
 ·rw[aaD hj,aaD hj];exact⟨_,rfl⟩
theorem Av(hc:X.calm=true):dG X (.builtin "min") (fun xs H Q=>∃ i j,xs=[.int i,.int j]/\Q (.int (if j < i then j else i)) H):=by
 intro pins s σ H xs us Q I r h;obtain⟨i,j,rfl,q⟩:=h;obtain⟨u,w',rfl,⟨t,rfl⟩,⟨t',rfl⟩⟩:=vals2 r;refine min_two_ints (I.ok.hd hc) fun h' tk k=>⟨_,H,I.kept k,?_,q⟩
 by_cases hj:j < i
 ·rw[aaN hj,aaN hj];exact⟨_,rfl⟩
 ·rw[aaD hj,aaD hj];exact⟨_,rfl⟩
theorem Aw:dG X (.type "int") (fun xs H Q=>(∃ i,xs=[.int i]/\Q (.int i) H)\/∃ k,xs=[.bl k]/\Q (.int (if k then 1 else 0)) H):=by
 intro pins s σ H xs us Q I r h;rcases h with⟨i,rfl,q⟩ | ⟨k,rfl,q⟩
 ·obtain⟨u,rfl,t,rfl⟩:=vals1 r;exact call_int_int ⟨.int i,H,I,⟨_,rfl⟩,q⟩
 ·obtain⟨u,rfl,r1⟩:=vals1 r;cases r1;exact call_int_bool ⟨.int (if k then 1 else 0),H,I.tok _,⟨_,rfl⟩,q⟩
end
structure wC(h:Heap)(x dx C:Addr)(mA:xL):Prop where
 obj:h.get? x=some (PySem.W.instObj C dx)
 ns:h.Ns1 dx mA
 ne:dx≠x
theorem Ax(n:h.Ns1 dx mA):∃ od,h.get? dx=some od/\∀ name,PySem.W.lookIn name od=some (mA name):=by
 obtain⟨o,es,ep,ho,hd,hk,_,hm⟩:=n;refine⟨o,ho,fun name=>?_⟩;have e:=hm name;unfold nsFind findBy at e;rw[<- Array.find?_toList]at e;unfold PySem.W.lookIn;rw[hd];dsimp only;split
 ·rename_i y q;rw[q]at e;exact abJ some e
 ·rename_i q;rw[q]at e;have a:es.toList.any (·.refKey)=false:=by
   rw[List.any_eq_false];intro y hy;obtain⟨z,t,LL⟩:=hk y (Array.mem_toList_iff.mp hy);simp[DictEntry.refKey,LL]
  have a':¬ es.toList.any (·.refKey)=true:=by rw[a];exact aaC
  rw[aaD a'];exact abJ some e
theorem wC.look{x:Addr}(I:wC h x dx C mA):∃ od,PySem.W.InstAt h x (PySem.W.instObj C dx) C (some od)/\∀ name,PySem.W.lookIn name od=some (mA name) :=
 let ⟨od,ho,hl⟩:=Ax I.ns
 ⟨od,⟨I.obj,rfl,rfl,ho⟩,hl⟩
section
variable {K:zn}{x f:Addr}{name:Str}{v:Value}
theorem get_map{expr:Bool}(X:K.In s.heap)(I:wC s.heap x dx C mA)(hg:PySem.W.plainGet K C name=true)(hh:PySem.W.hasDictIn K C=true)(ha:PySem.W.findIn K (.ref C) name=some none)(hv:mA name=some v)(Zy:PySem.W.handedIn v=true)(h:Q v { s with toks:=s.toks+1 }) :
  wpAny (model prog w) A (getAttr (.ref x) name expr) Q E s:=by
 obtain⟨od,J,hl⟩:=I.look;exact PySem.W.get_value X J (adq hg).1 (PySem.W.findObj_own hh ha rfl (by rw[hl,hv])) Zy h
theorem CG{Q:Value×wf->Shared->Prop}(X:K.In s.heap)(I:wC s.heap x dx C mA)(hg:PySem.W.plainGet K C name=true)(hf:PySem.W.findIn K (.ref C) name=some (some (.ref f)))(ht:PySem.W.isFn K (.ref f)=true)(hv:mA name=none)(h:Q (.ref f,[.ref x]) s) :
  wpAny (model prog w) A (getMethod (.ref x) name pl) Q E s:=by
 obtain⟨od,J,hl⟩:=I.look;exact PySem.W.method_fn X J (adq hg).1 (adq hg).2 hf (acq.mp ht) (by show(PySem.W.lookIn name od).map (·.isSome)=some false;rw[hl,hv];rfl) h
theorem G0{ns:wv}{Q:Unit->Shared->Prop}(X:K.In s.heap)(I:wC s.heap x dx C mA)(hs:PySem.W.findIn K (.ref C) "__setattr__"=some (some (.builtin "object.__setattr__")))(hp:PySem.W.plainOver K C=true)(ht:PySem.W.takerIn K C name=some none)(hh:PySem.W.hasDictIn K C=true)(hw:PySem.Within mA ns)(vW:ns.length<=sizeLine)(h:∀ h',wC h' x dx C (fun y=>if y=name then some v else mA y)->Heap.SameBut dx s.heap h'->Q () { s with heap:=h',toks:=s.toks+2 }) :
  wpAny (model prog w) A (setAttr (.ref x) name v) Q E s:=by
 obtain⟨od,J,hl⟩:=I.look;refine PySem.W.set_plain X J hs (PySem.W.osa_open (s:={ s with toks:=s.toks+1 }) (r:=none) X J hp ht fun b=>?_);obtain⟨cd,hc,Ce⟩:=PySem.W.any_some hh;have hx:s.heap.get? x=some ⟨.ref C,some dx,.plain,#[]⟩:=I.obj;refine aak (aao (aak (aak (wpAny_loadPart hx (aak (PySem.W.Looks.here (s:={ s with toks:=s.toks+1 }) (PySem.W.looks_clsIn X hc) ?_))))));rw[Ce];refine aao (a:=some dx) (aak (aao (aak ?_)));refine wpAny_nsSet1 (s:={ s with toks:=s.toks+1 }) I.ns fun h' Gx pA=>?_;obtain⟨oD,esD,epD,Zz,ZA,ZC⟩:=Gx.count (PySem.Within.cons name v hw);refine aak (wpAny_lookBehind Zz (by rw[ZA];exact pastItsLine_dict (aaA ZC (by rw[aaV];omega))) ?_);exact aao (h _ ⟨(pA.2 _ (abi I.ne)).trans I.obj,Gx,I.ne⟩ pA)
theorem CH{R:Result->Shared->Prop}{vs:wf}(X:K.In s.heap)(hm:PySem.W.makesIn K C=true)(hi:PySem.W.findIn K (.ref C) "__init__"=some (some (.ref f)))(hf:PySem.W.typeIn K (.ref f)=some (.type "function"))(h:codeAny (model prog w) (A.under (.builtin "type.__call__" ⟨.ref C::vs,kw⟩)) (.call (.ref f) ⟨.ref (s.heap.objs.size+1)::vs,kw⟩) (PySem.W.InitBack (s.heap.objs.size+1) R)
   { s with heap:=(s.heap.push PySem.W.emptyDict).push (PySem.W.instObj C s.heap.objs.size) }) :
  codeAny (model prog w) A (.call (.ref C) ⟨vs,kw⟩) R s:=by
 obtain⟨hh,g,d,t,os⟩:=s;exact PySem.W.make_core (PySem.W.makes_of X hm) (PySem.W.looks_findIn X hi) (fun self=>PySem.W.bind_fn X self hf) (.inl rfl) h
end
def gg(f:Str)(v:V):List (Str×V)->List (Str×V)
 | []=>[(f,v)]
 | (g,x)::r=>if g=f then(g,v)::r else(g,x)::gg f v r
theorem lF(f g:Str)(v:V):∀ fs:List (Str×V),(gg f v fs).lookup g=if g=f then some v else fs.lookup g
 | []=>by
  show List.lookup g [(f,v)]=_
  by_cases h:g=f
  ·have hb:(g == f)=true:=acq.mpr h;simp only[List.lookup,hb,aaN h]
  ·have hb:(g == f)=false:=acH.mpr h;simp only[List.lookup,hb,aaD h]
 | (k,x)::r=>by
  have ih:=lF f g v r;rw[show gg f v ((k,x)::r)=(if k=f then(k,v)::r else(k,x)::gg f v r) from rfl]
  by_cases hk:k=f
  ·rw[aaN hk]
   by_cases h:g=k
   ·have hb:(g == k)=true:=acq.mpr h;simp only[List.lookup,hb,aaN (h.trans hk)]
   ·have hb:(g == k)=false:=acH.mpr h;simp only[List.lookup,hb,aaD (fun e:g=f=>h (e.trans hk.symm))]
  ·rw[aaD hk]
   by_cases h:g=k
   ·have hb:(g == k)=true:=acq.mpr h;simp only[List.lookup,hb,aaD (fun e:g=f=>hk (h.symm.trans e))]
   ·have hb:(g == k)=false:=acH.mpr h;simp only[List.lookup,hb];exact ih
theorem kB(f:Str)(v:V):∀ fs:List (Str×V),f∈(gg f v fs).map (·.1)/\∀ g,g∈fs.map (·.1)->g∈(gg f v fs).map (·.1)
 | []=>⟨by simp[gg],fun g h=>by simp at h⟩
 | (k,x)::r=>by
  obtain⟨i1,i2⟩:=kB f v r;rw[show gg f v ((k,x)::r)=(if k=f then(k,v)::r else(k,x)::gg f v r) from rfl]
  by_cases hk:k=f
  ·rw[aaN hk];subst hk;exact⟨by simp,fun g h=>by simpa using h⟩
  ·rw[aaD hk];refine⟨?_,fun g h=>?_⟩
   ·rw[aaZ];exact aaw _ i1
   ·rw[aaZ]at h ⊢;rcases aat.mp h with e | e
    ·exact aat.mpr (.inl e)
    ·exact aaw _ (i2 g e)
theorem lG(f:Str)(v:V):∀ fs:List (Str×V),(gg f v fs).length<=fs.length+1
 | []=>by simp[gg]
 | (k,x)::r=>by
  have ih:=lG f v r;rw[show gg f v ((k,x)::r)=(if k=f then(k,v)::r else(k,x)::gg f v r) from rfl]
  by_cases hk:k=f
  ·rw[aaN hk,aaV,aaV];omega
  ·rw[aaD hk,aaV,aaV];omega
theorem lV.some_of{o:wP}(r:lV (some v) o):∃ u,o=some u/\RelV v u:=by
 cases o with
 | none=>exact(show False from r).elim
 | some u=>exact⟨u,rfl,r⟩
theorem lV.none_of{o:wP}(r:lV none o):o=none:=by
 cases o with
 | none=>rfl
 | some u=>exact(show False from r).elim
theorem Ay(r:RelV v u):PySem.W.handedIn u=true:=by
 cases v with
 | cS=>cases (show u=Value.none from r);rfl
 | bl b=>cases (show u=Value.bool b from r);rfl
 | int i=>obtain⟨t,e⟩:=(show ∃ t,u=Value.int i t from r);cases e;rfl
 | str x=>obtain⟨t,e⟩:=(show ∃ t,u=Value.str x t from r);cases e;rfl
 | yw b=>obtain⟨t,e⟩:=(show ∃ t,u=Value.bytes b t from r);cases e;rfl
 | GJ b=>obtain⟨t,e⟩:=(show ∃ t,u=Value.float b t from r);cases e;rfl
 | ref a=>cases (show u=Value.ref a from r);rfl
 | ty n=>cases (show u=Value.type n from r);rfl
section
variable {H':Hp}{fs ff:List (Str×V)}
theorem mr(ck:eF P w H h)(e:H a=some (.ins C dx fs)):∃ mA,wC h a dx C mA/\(∀ f,lV (fs.lookup f) (mA f))/\PySem.Within mA (fs.map (·.1))/\fs.length<=1000/\H dx=some (.own a):=by
 obtain⟨d,z,ne,ob,mA,n,r,q⟩:=(show cK P w H h a (.ins C dx fs) from ck a _ e);exact⟨mA,⟨ob,n,ne⟩,r,q,z,d⟩
end
structure lX(K:zn)(C:Addr):Prop where
 pg:PySem.W.plainGet K C Str.empty=true
 hd:PySem.W.hasDictIn K C=true
 po:PySem.W.plainOver K C=true
 sa:PySem.W.findIn K (.ref C) "__setattr__"=some (some (.builtin "object.__setattr__"))
theorem lX.get{K:zn}{C:Addr}(c:lX K C)(f:Str):PySem.W.plainGet K C f=true:=c.pg
def cu(K:zn)(C:Addr)(f:Str):Prop:=PySem.W.findIn K (.ref C) f=some none
theorem cu.Py{K:zn}{f:Str}(n:cu K C f):PySem.W.takerIn K C f=some none:=by
 unfold PySem.W.takerIn;rw[show PySem.W.findIn K (.ref C) f=some none from n]
 rfl
structure Meth(K:zn)(C:Addr)(m:Str)(f:Addr):Prop where
 at_:PySem.W.findIn K (.ref C) m=some (some (.ref f))
 fn:PySem.W.isFn K (.ref f)=true
 kp:PySem.W.keepIn K (.ref f)=true
section
variable {fs:List (Str×V)}{f:Str}
theorem mX{b:Bool}(I:Inv X pins σ H s)(e:H a=some (.ins C dx fs))(c:lX X.K C)(n:cu X.K C f)(l:fs.lookup f=some v)(h:∀ u s',Inv X pins σ H s'->RelV v u->Q u s'):wpAny (model X.prog X.w) A (getAttr (.ref a) f b) Q E s:=by
 obtain⟨mA,O,r,_,_,_⟩:=mr I.ck e;obtain⟨u,hu,ru⟩:=lV.some_of (v:=v) (o:=mA f) (by rw[<- l];exact r f);exact get_map I.lC O (c.get f) c.hd n hu (Ay ru) (h u _ (I.tok _) ru)
theorem mY{m:Str}{g:Addr}{Q:Value×wf->Shared->Prop}(I:Inv X pins σ H s)(e:H a=some (.ins C dx fs))(c:lX X.K C)(k:Meth X.K C m g)(l:fs.lookup m=none)(h:Q (.ref g,[.ref a]) s):wpAny (model X.prog X.w) A (getMethod (.ref a) m pl) Q E s:=by
 obtain⟨mA,O,r,_,_,_⟩:=mr I.ck e;have hn:mA m=none:=lV.none_of (by rw[<- l];exact r m);exact CG I.lC O (c.get m) k.at_ k.fn hn h
theorem mZ{Q:Unit->Shared->Prop}(I:Inv X pins σ H s)(e:H a=some (.ins C dx fs))(c:lX X.K C)(n:cu X.K C f)(hl:fs.length < 1000)(ry:RelV y u)(h:∀ s',Inv X pins σ (upd H a (.ins C dx (gg f y fs))) s'->Q () s'):wpAny (model X.prog X.w) A (setAttr (.ref a) f u) Q E s:=by
 obtain⟨mA,O,r,wi,_,ho⟩:=mr I.ck e;have hz:(fs.map (·.1)).length<=sizeLine:=by rw[aal,sizeLine_eq];omega
 refine G0 I.lC O c.sa c.po n.Py c.hd wi hz fun h' O' sb=>h _ ?_;have hd:∃ o,h'.get? dx=some o:=let ⟨o,_,_,e',_⟩:=O'.ns;⟨o,e'⟩;refine I.write (x:=a) (e:=dx) (by rw[e];exact True.intro) (.inr ho) (fun b q hb z=>(sb.2 b hb).trans z) hd ?_;refine⟨by rw[bw O.ne];exact ho,?_,O.ne,O'.obj,_,O'.ns,fun g=>?_,fun g hg=>?_⟩
 ·have:=lG f y fs;omega
 ·show lV ((gg f y fs).lookup g) (if g=f then some u else mA g);rw[lF]
  by_cases q:g=f
  ·rw[aaN q,aaN q];exact ry
  ·rw[aaD q,aaD q];exact r g
 ·by_cases q:g=f
  ·rw[q];exact(kB f y fs).1
  ·refine(kB f y fs).2 g (wi g fun z=>hg ?_);show(if g=f then some u else mA g)=none;rw[aaD q];exact z
theorem Inv.made(I:Inv X pins σ H s):Inv X pins σ (upd (upd H s.heap.objs.size (.own (s.heap.objs.size+1))) (s.heap.objs.size+1) (.ins C s.heap.objs.size []))
  { s with heap:=(s.heap.push PySem.W.emptyDict).push (PySem.W.instObj C s.heap.objs.size) }:=by
 have e1:(s.heap.push PySem.W.emptyDict).get? s.heap.objs.size=some PySem.W.emptyDict:=aaz s.heap rfl;have e2:((s.heap.push PySem.W.emptyDict).push (PySem.W.instObj C s.heap.objs.size)).get? (s.heap.objs.size+1)=some (PySem.W.instObj C s.heap.objs.size):=by
  have:=aaz (s.heap.push PySem.W.emptyDict) (o:=PySem.W.instObj C s.heap.objs.size) rfl
  rwa [abm]at this
 have e3:(s.heap.push PySem.W.emptyDict).Ns s.heap.objs.size (fun _=>none):=⟨PySem.W.emptyDict,#[],_,e1,rfl,(fun e he=>absurd he (by simp)),fun _=>rfl⟩;have I1:=I.laid (a:=s.heap.objs.size) (o:=.own (s.heap.objs.size+1)) (h':=s.heap.push PySem.W.emptyDict) (t':=s.toks) (fun b u q=>aam _ q) (aar _) ⟨_,e1⟩;refine I1.laid (a:=s.heap.objs.size+1) (o:=.ins C s.heap.objs.size []) (t':=s.toks) (fun b u q=>aam _ q) (acg (abm _ _)) ?_;have ne:s.heap.objs.size≠s.heap.objs.size+1:=aa1 (abI _);refine⟨by rw[bw ne,dF],aaW _,ne,e2,fun _=>none,(Heap.Ns1.of_empty e3).at fun o q=>aam _ q,fun _=>True.intro,fun y hy=>absurd rfl hy⟩
theorem G1{env:Env}{e:Expr}(hb:attributeBase e f env (eval e env)=eval e env)(h:wpAny (model prog w) A (eval e env) (fun o bG=>wpAny (model prog w) A (getAttr o f true) Q E bG) E s):wpAny (model prog w) A (eval (.Attribute e f pos) env) Q E s :=
 Attribute_any_ h (by rw[arm_eval_Attribute,hb])
end
def LM(K:zn)(ta:TE)(f:Str):TE:=fun σ H Q=>ta σ H fun x H1=>∃ a C dx fs v,x=.ref a/\H1 a=some (.ins C dx fs)/\lX K C/\cu K C f/\fs.lookup f=some v/\Q v H1
def LN(K:zn)(ta tv:TE)(f:Str):TS:=fun D σ H=>tv σ H fun y H1=>ta σ H1 fun x H2=>∃ a C dx fs,x=.ref a/\H2 a=some (.ins C dx fs)/\lX K C/\cu K C f/\fs.length < 1000 /\
 D.nx σ (upd H2 a (.ins C dx (gg f y fs)))
def Us(X:Cx)(op:Operator)(rd:V->V->Hp->VK->Prop):Prop :=
 ∀(pins:yp) (s:Shared) (σ:St) (H:Hp) (x y:V) (u v:Value) (Q:VK),Inv X pins σ H s->RelV x u->RelV y v->rd x y H Q->wpAny (model X.prog X.w) X.A (inplaceOp op u v) (EP X pins σ Q) X.xe s
def qY(K:zn)(ta tv:TE)(rd:V->V->Hp->VK->Prop)(f:Str):TS:=fun D σ H=>ta σ H fun x H1=>∃ a C dx fs v,x=.ref a/\H1 a=some (.ins C dx fs)/\lX K C/\cu K C f/\fs.lookup f=some v /\
 tv σ H1 fun y H2=>rd v y H2 fun z H3=>∃ Ut ff,H3 a=some (.ins C Ut ff)/\ff.length < 1000/\D.nx σ (upd H3 a (.ins C Ut (gg f z ff)))
section
variable {e value:Expr}{f:Str}{pos' CI:Pos}{tv:TE}
theorem LP(he:PE X e ta)(hb:attributeBase e f X.env (eval e X.env)=eval e X.env):PE X (.Attribute e f pos) (LM X.K ta f):=by
 intro pins s σ H Q I h;refine G1 hb (cP (he pins s σ H _ I h) fun u s1 ⟨x,H1,I1,rx,a,C,dx,fs,v,ex,ea,c,n,l,q⟩=>?_);subst ex;obtain rfl:u=Value.ref a:=rx;exact mX I1 ea c n l fun u' s2 I2 ru=>⟨v,H1,I2,ru,q⟩
theorem LQ(ha:PE X o ta)(hv:PE X value tv)(hs:swapsWith value (some (.Attribute o f pos')) pos.line X.env=pure false):PS X (.Assign [.Attribute o f pos'] value pos) (LN X.K ta tv f):=by
 intro pins s σ H D I h;refine plainObj_wpAny_Assign_Attribute (cP (hv pins s σ H _ I h) fun u s1 ⟨y,H1,I1,ry,q⟩=>cP (ha pins s1 σ H1 _ I1 q) fun ov s2 ⟨x,H2,I2,rx,a,C,dx,fs,ex,ea,c,n,l,q2⟩=>?_) hs;subst ex;obtain rfl:ov=Value.ref a:=rx;exact mZ I2 ea c n l ry fun s3 I3=>⟨σ,_,I3,q2⟩
theorem Az{op:Operator}{rd:V->V->Hp->VK->Prop}(ha:PE X o ta)(hv:PE X value tv)(Uu:Us X op rd):PS X (.AugAssign (.Attribute o f CI) op value pos) (qY X.K ta tv rd f):=by
 intro pins s σ H D I h;refine wpAny_AugAssign_AttributeAny (cP (ha pins s σ H _ I h) fun ov s1 ⟨x,H1,I1,rx,a,C,dx,fs,v,ex,ea,c,n,l,q⟩=>?_);subst ex;obtain rfl:ov=Value.ref a:=rx;refine mX I1 ea c n l fun u s2 I2 ru=>cP (hv pins s2 σ H1 _ I2 q) fun w3 s3 ⟨y,H2,I3,ry,q3⟩=>cP (Uu pins s3 σ H2 v y u w3 _ I3 ru ry q3) fun w4 s4 ⟨z,H3,I4,rz,Ut,ff,ZD,l',q4⟩=>?_;exact mZ I4 ZD c n l' rz fun s5 I5=>⟨σ,_,I5,q4⟩
end
section
variable {c:Value}{b:Bool}
inductive jD (K:zn) (H:Hp):V->Value->Prop where
 | cS:jD K H .cS (.type "NoneType")
 | bl (x:Bool):jD K H (.bl x) (.type "bool")
 | int (i:Int):jD K H (.int i) (.type "int")
 | str (x:Str):jD K H (.str x) (.type "str")
 | GJ (x:UInt64):jD K H (.GJ x) (.type "float")
 | lst {a:Addr} {xs:List V} (e:H a=some (.lst xs)):jD K H (.ref a) (.type "list")
 | ku {a:Addr} {o:Obj} {xs:List V} (e:H a=some (.ku o (.lst xs))):jD K H (.ref a) (.type "list")
 | tup {a:Addr} {xs:List V} (e:H a=some (.tup xs)):jD K H (.ref a) (.type "tuple")
 | dK {a:Addr} {bO:List (Key×V)} (e:H a=some (.dK bO)):jD K H (.ref a) (.type "dict")
 | dT {a:Addr} {bO:List (List Key×V)} (e:H a=some (.dT bO)):jD K H (.ref a) (.type "dict")
 | ins {a C dx:Addr} {fs:List (Str×V)} (e:H a=some (.ins C dx fs)) (cl:lX K C) (ha:PySem.W.findIn K (.ref C) "__class__"=some (some (.builtin "object.__class__")))
   (hn:PySem.W.specialIn K (.builtin "object.__class__") "__get__"=some (some (.builtin "getset_descriptor.__get__"))) (XA:PySem.W.takesIn K (.builtin "object.__class__")=some true)
   (hm:PySem.W.mroIn K C (.type "object")=some true):jD K H (.ref a) (.ref C)
theorem AA{x:V}{t:Value}(I:Inv X pins σ H s)(rx:RelV x u)(ty:jD X.K H x t)(e:PySem.W.kitOne X.K t c=some b)(h:∀ tk,Q (.bool b) { s with toks:=tk }) :
  wpAny (model X.prog X.w) A (call (.builtin "isinstance") [u,c]) Q E s:=by
 cases ty with
 | cS=>cases (show u=Value.none from rx);exact abx PySem.W.kitx_none I.lC True.intro e (fun z=>nomatch z) h
 | bl y=>cases (show u=Value.bool y from rx);exact abx PySem.W.kitx_bool I.lC True.intro e (fun z=>nomatch z) h
 | int i=>obtain⟨t,q⟩:=(show ∃ t,u=Value.int i t from rx);cases q;exact abx PySem.W.kitx_int I.lC True.intro e (fun z=>nomatch z) h
 | str y=>obtain⟨t,q⟩:=(show ∃ t,u=Value.str y t from rx);cases q;exact abx PySem.W.kitx_str I.lC True.intro e (fun z=>nomatch z) h
 | GJ y=>obtain⟨t,q⟩:=(show ∃ t,u=Value.float y t from rx);cases q;exact abx PySem.W.kitx_float I.lC True.intro e (fun z=>nomatch z) h
 | @lst a xs ea =>
  cases (show u=Value.ref a from rx);obtain⟨_,_,n,_,h1⟩:=(show cK X.prog X.w H s.heap a (.lst xs) from I.ck a _ ea);exact abx PySem.W.kitx_list I.lC ⟨_,h1,rfl⟩ e (fun z=>nomatch z) h
 | @ku a ob xs ea =>
  cases (show u=Value.ref a from rx);obtain⟨_,_,_,n,_,h1⟩:=(show cK X.prog X.w H s.heap a (.ku ob (.lst xs)) from I.ck a _ ea);exact abx PySem.W.kitx_list I.lC ⟨_,h1,rfl⟩ e (fun z=>nomatch z) h
 | @tup a xs ea =>
  cases (show u=Value.ref a from rx);obtain⟨_,_,_,p⟩:=(show cK X.prog X.w H s.heap a (.tup xs) from I.ck a _ ea);obtain⟨o,h1,h2,_⟩:=p;exact abx PySem.W.kitx_tuple I.lC ⟨o,h1,h2⟩ e (fun z=>nomatch z) h
 | @dK a bO ea =>
  cases (show u=Value.ref a from rx);obtain⟨_,_,vs,_,p⟩:=(show cK X.prog X.w H s.heap a (.dK bO) from I.ck a _ ea);obtain⟨o,es,ep,h1,h2,_⟩:=p;exact abx PySem.W.kitx_dict I.lC ⟨o,h1,h2.1⟩ e (fun z=>nomatch z) h
 | @dT a bO ea =>
  cases (show u=Value.ref a from rx);obtain⟨_,_,xs,_,o,es,ep,h1,h2,_⟩:=(show cK X.prog X.w H s.heap a (.dT bO) from I.ck a _ ea);exact abx PySem.W.kitx_dict I.lC ⟨o,h1,h2.1⟩ e (fun z=>nomatch z) h
 | @ins a C dx fs ea cl ha hn XA hm =>
  cases (show u=Value.ref a from rx);obtain⟨mA,O,_⟩:=mr I.ck ea;obtain⟨od,J,_⟩:=O.look;exact abx (PySem.W.kitx_own (cl.get _) cl.hd ha hn XA hm) I.lC J e (fun z=>nomatch z) h
end
structure cT(k:Nat)(A:sK):Prop where
 hd:A.handled=none
 dp:A.depth+3 * k+5 < recursionLimit
 un:A.units+16 * k+200 < cLine
theorem cT.mono{j:Nat}(r:cT k A)(h:j<=k):cT j A:=⟨r.hd,by have:=r.dp;omega,by have:=r.un;omega⟩
theorem cT.deeper(r:cT (k+1) A)(env:Env):cT k (A.deeper env) :=
 ⟨r.hd,by have:=r.dp;show A.depth+1+3 * k+5 < _;omega,by have:=r.un;show A.units+3+16 * k+200 < _;omega⟩
theorem wD:(A.under (.builtin "type.__call__" ⟨.ref C::us,kw⟩)).depth=A.depth+1:=by
 first | rfl | simp[Around.under,Code.weight,Code.isCreation,Code.isGuard,Code.isCaller,Code.frames,Code.isFrame,guardIds]
theorem wF:(A.under (.builtin "type.__call__" ⟨.ref C::us,kw⟩)).units=A.units+1:=by
 first | rfl | simp[Around.under,Code.cUnits,Code.frames,Code.isFrame]
theorem cT.make(r:cT (k+1) A)(C:Addr)(us:wf)(kw:List (Str×Value)):cT k (A.under (.builtin "type.__call__" ⟨.ref C::us,kw⟩)) :=
 ⟨r.hd,by have:=r.dp;rw[wD];omega,by have:=r.un;rw[wF];omega⟩
theorem cT.depth(r:cT k A):A.depth < recursionLimit:=by have:=r.dp;omega
theorem cT.units(r:cT k A):A.units+64 < cLine:=by have:=r.un;omega
def ue:TA:=fun _ H Q=>Q [] H
def nc(ta:TE)(tr:TA):TA:=fun σ H Q=>ta σ H fun x H1=>tr σ H1 fun xs H2=>Q (x::xs) H2
section
variable {e:Expr}{t:TA}
theorem wG:PA X [] ue:=fun _ _ _ _ H Q I h=>adE ⟨[],H,I,.nil,h⟩
theorem mw(ha:PE X e te)(hr:PA X es t)(hs:autoParam (starEach (e::es) X.env=(false,eval e X.env)::starEach es X.env) ra0):PA X (e::es) (nc te t):=by
 intro pos pins s σ H Q I h;rw[hs];show wpAny _ _ (spliced ((false,eval e X.env)::backTo pos (starEach es X.env))) _ _ s;refine adw (cP (ha pins s σ H _ I h) fun u s1 ⟨x,H1,I1,r1,q1⟩=>?_);exact cP (hr pos pins s1 σ H1 _ I1 q1) fun us s2 ⟨xs,H2,I2,r2,q2⟩=>⟨x::xs,H2,I2,.cons r1 r2,q2⟩
def LR(t:TA):TE:=fun σ H Q=>t σ H fun xs H1=>xs.length<=sizeLine/\∀ p,H1 p=none->Q (.ref p) (upd H1 p (.tup xs))
def G2(t:TA):TE:=fun σ H Q=>t σ H fun xs H1=>xs.length<=sizeLine/\∀ p,H1 p=none->Q (.ref p) (upd H1 p (.lst xs))
theorem LU{x1}(h:PA X es t):PE X (.Tuple es x1 pos) (LR t):=by
 intro pins s σ H Q I hq;refine wpAny_Tuple_spliced (cP (h pos pins s σ H _ I hq) fun us s1 ⟨xs,H1,I1,r,z,q⟩=>⟨by rw[<- r.length];exact z,?_⟩);have hf:H1 s1.heap.objs.size=none:=I1.ck.fresh (aar _);refine⟨.ref s1.heap.objs.size,upd H1 s1.heap.objs.size (.tup xs),I1.laid (t':=s1.toks) (fun b u e=>aam _ e) (aar _) ?_,rfl,q _ hf⟩;exact⟨z,us,r,⟨_,aaz _ rfl,rfl,_,rfl⟩⟩
theorem LV(h:PA X es t):PE X (.List es pos) (G2 t):=by
 intro pins s σ H Q I hq;refine wpAny_List_spliced (cP (h pos pins s σ H _ I hq) fun us s1 ⟨xs,H1,I1,r,z,q⟩=>⟨by rw[<- r.length];exact z,?_⟩);have hf:H1 s1.heap.objs.size=none:=I1.ck.fresh (aar _);refine⟨.ref s1.heap.objs.size,upd H1 s1.heap.objs.size (.lst xs),I1.laid (t':=s1.toks) (fun b u e=>aam _ e) (aar _) ?_,rfl,q _ hf⟩;exact⟨z,us,0,r,aaz _ rfl⟩
end
abbrev Sp:=List V->Hp->VK->XK->Prop
abbrev AB:=List Env->Hp->Shared->XK->Value->Shared->Prop
variable {CX:AB}
structure wH(P:sB)(w:World)(K:zn)(mg:xL)(base:Heap)(A:sK)(outer:List Env)(s:Shared)(H:Hp):Prop where
 frames:A.frames=some outer
 mod:Mod K mg base
 bs:∀ b o,base.get? b=some o->s.heap.get? b=some o/\H b=none
 Jv:base.objs.size<=s.heap.objs.size
 lW:s.heap.FunFrames base outer
 Gs:∀ b∈iG outer,H b=none
 ck:eF P w H s.heap
 bare:AllBare s.gens
def CE(outer:List Env)(P:sB)(w:World)(H:Hp)(s:Shared)(Q:VK)(u:Value)(s':Shared):Prop :=
 ∃ v H',s'.os=s.os/\AllBare s'.gens/\Un (iG outer) [] H H' s.heap s'.heap/\eF P w H' s'.heap/\RelV v u/\Q v H'
def CR(CX:AB)(outer:List Env)(P:sB)(w:World)(H:Hp)(s:Shared)(Q:VK)(E:XK)(r:Result)(s':Shared):Prop :=
 match r with
 | .ok (.ret u)=>CE outer P w H s Q u s'
 | .ok _=>False
 | .error e=>CX outer H s E e s'
structure ba(P:sB)(w:World)(K:zn)(mg:xL)(base:Heap)(CX:AB)(k:Nat)(f:Addr)(fd:wT)(ps:wv)(sp:Sp):Prop where
 len:∀ vs H Q E,sp vs H Q E->vs.length=ps.length
 run:∀(A:sK) (outer:List Env) (s:Shared) (H:Hp) (args:Args) (us:wf) (vs:List V) (Q:VK) (E:XK),cT k A->wH P w K mg base A outer s H->BindsTo s fd args (ps.zip us)->Vals vs us->sp vs H Q E ->
  codeAny (model P w) A (.call (.ref f) args) (CR CX outer P w H s Q E) s
theorem ba.mono{P:sB}{w:World}{K:zn}{mg:xL}{base:Heap}{CX:AB}{j k:Nat}{f:Addr}{fd:wT}{ps:wv}{sp:Sp}(F:ba P w K mg base CX j f fd ps sp)(h:j<=k) :
  ba P w K mg base CX k f fd ps sp:=⟨F.len,fun A outer s H args us vs Q E hr=>F.run A outer s H args us vs Q E (hr.mono h)⟩
theorem wH.make{K:zn}{outer:List Env}(e:wH P w K mg base A outer s H)(C:Addr)(us:wf)(kw:List (Str×Value)) :
  wH P w K mg base (A.under (.builtin "type.__call__" ⟨.ref C::us,kw⟩)) outer s H:=⟨by first | exact e.frames | (simpa [Around.under,Code.envs,Code.isFrame,pushEnvs] using e.frames),e.mod,e.bs,e.Jv,e.lW,e.Gs,e.ck,e.bare⟩
theorem Inv.Pz(I:Inv X pins σ H s):wH X.prog X.w X.K X.mg X.base X.A X.stack s H :=
 ⟨I.ok.frames,I.ok.mod,I.bs,aaA I.ok.Jv I.sz,I.stack,I.qV,I.ck,I.bare⟩
theorem Inv.after{Q:VK}(I:Inv X pins σ H s)(h:CE X.stack X.prog X.w H s Q u s'):EP X pins σ Q u s':=by
 obtain⟨v,H',os,bare,un,ck,r,q⟩:=h;obtain⟨hh,g,d,t,ZE⟩:=s';obtain rfl:ZE=s.os:=os;exact⟨v,H',I.call (h':=hh) (g':=g) (d':=d) (t':=t) (ch:=[]) un ck bare (fun b z=>absurd z (by simp)),r,q⟩
def yI(sp:Sp)(aK:List V)(E:XK)(t:TA):TE:=fun σ H Q=>t σ H fun vs H1=>sp (vs++aK) H1 Q E
def uf(C:Addr)(m:Str)(sp:Sp)(aK:List V)(E:XK)(ta:TE)(t:TA):TE:=fun σ H Q=>ta σ H fun x H1=>∃ a dx fs,x=.ref a/\H1 a=some (.ins C dx fs)/\fs.lookup m=none /\
 t σ H1 fun vs H2=>sp (x::(vs++aK)) H2 Q E
def CJ(C:Addr)(sp:Sp)(aK:List V)(E:XK)(t:TA):TE:=fun σ H Q=>t σ H fun vs H1=>∀ x dx,H1 x=none->H1 dx=none->dx≠x ->
 sp (.ref x::(vs++aK)) (upd (upd H1 dx (.own x)) x (.ins C dx [])) (fun v H2=>v=.cS/\Q (.ref x) H2) E
def Binds(K:zn)(fd:wT)(ps:wv)(ds:wf):Prop :=
 ∀(s:Shared) (us:wf),K.In s.heap->(us++ds).length=ps.length->BindsTo s fd ⟨us,[]⟩ (ps.zip (us++ds))
theorem Binds.all{K:zn}(h:∀ us:List Value,us.length=ps.length->bindArgs fd ⟨us,[]⟩=pure (ps.zip us)):Binds K fd ps []:=fun s us _ hl=>by
 rw[ace]at hl ⊢;exact .of_eq (h us hl)
def Passes(CX:AB)(X:Cx)(E:XK):Prop:=∀(pins:yp) (σ:St) (H:Hp) (s:Shared) (e:Value) (s':Shared),Inv X pins σ H s->CX X.stack H s E e s'->X.xe e s'
section
variable {f:Addr}{sp:Sp}{aK:List V}{ds:wf}{E:XK}{m:Str}{apos:Pos}{e:Expr}{t:TA}
theorem wI{Q:VK}(F:ba X.prog X.w X.K X.mg X.base CX k f fd ps sp)(hr:cT k X.A)(hb:Binds X.K fd ps ds)(hd:Vals aK ds)(hx:Passes CX X E)(I:Inv X pins σ H s)(r:Vals vs us)(h:sp (vs++aK) H Q E):wpAny (model X.prog X.w) X.A (call (.ref f) us) (EP X pins σ Q) X.xe s:=by
 have r2:Vals (vs++aK) (us++ds):=r.append hd;have hl:(us++ds).length=ps.length:=by rw[<- r2.length];exact F.len _ _ _ _ h
 refine wpAny_call (acs (F.run X.A X.stack s H ⟨us,[]⟩ (us++ds) (vs++aK) Q E hr I.Pz (hb s us I.lC hl) r2 h) fun r s' hq=>?_);cases r with
 | error e=>exact hx pins σ H s e s' I hq
 | ok fl =>
  cases fl with
  | ret u=>exact I.after hq
  | next=>exact False.elim hq
  | brk=>exact False.elim hq
  | cont=>exact False.elim hq
theorem G3(F:ba X.prog X.w X.K X.mg X.base CX k f fd ps sp)(hr:cT k X.A)(hg:Gl X x)(hm:X.mg x=some (.ref f))(hk:PySem.W.keepIn X.K (.ref f)=true)(hb:Binds X.K fd ps ds)(hd:Vals aK ds)(hx:Passes CX X E)(ha:PA X (e::es) t)(ug:autoParam ((x == ("__debug__":Str))=false) ra1)(he:autoParam (starEach (e::es) X.env=(false,eval e X.env)::starEach es X.env) ra0)(qZ:autoParam ((backTo pos (starEach es X.env)).any (·.1)=false) ra0) :
  PE X (.Call (.Name x p) (e::es) [] pos) (yI sp aK E t):=by
 intro pins s σ H Q I h;refine ab1 (mq I hg hm ?_ ug);refine adx (h₀:=X.base) I.ok.mod.OK hk (cP (ha pos pins s σ H _ I h) fun us s1 ⟨vs,H1,I1,r,q⟩=>⟨I1.lC,?_⟩) he qZ;exact wI F hr hb hd hx I1 r q
theorem G4(he:PE X o ta)(c:lX X.K C)(hm:Meth X.K C m f)(F:ba X.prog X.w X.K X.mg X.base CX k f fd ps sp)(hr:cT k X.A)(hb:Binds X.K fd ps ds)(hd:Vals aK ds)(hx:Passes CX X E)(ha:PA X (e::es) t)(ud:autoParam (starEach (e::es) X.env=(false,eval e X.env)::starEach es X.env) ra0)(qZ:autoParam ((backTo pos (starEach es X.env)).any (·.1)=false) ra0)(ht:eval (.Call (.Attribute o m apos) (e::es) [] pos) X.env=(do
   let ov <- eval o X.env
   standAt apos.atName
   let (f,first) <- holding [ov] (getMethod ov m pl)
   callWith pos f first (backTo pos (starEach (e::es) X.env)) (backToKw pos (keywordEach [] X.env))):=by rfl) :
  PE X (.Call (.Attribute o m apos) (e::es) [] pos) (uf C m sp aK E ta t):=by
 intro pins s σ H Q I h;refine PySem.W.methodCall_KW (pl:=pl) (cP (he pins s σ H _ I h) fun u s1 ⟨x,H1,I1,rx,a,dx,fs,ex,ea,l,q⟩=>?_) ht;subst ex;obtain rfl:u=Value.ref a:=rx;refine mY I1 ea c hm l ?_;refine adx (first:=[.ref a]) (h₀:=X.base) I.ok.mod.OK hm.kp (cP (ha pos pins s1 σ H1 _ I1 q) fun us s2 ⟨vs,H2,I2,r,q2⟩=>⟨I2.lC,?_⟩) ud qZ;exact wI (us:=.ref a::us) (vs:=.ref a::vs) F hr hb hd hx I2 (.cons rfl r) q2
theorem CK(he:PE X o ta)(c:lX X.K C)(hm:Meth X.K C m f)(F:ba X.prog X.w X.K X.mg X.base CX k f fd ps sp)(hr:cT k X.A)(hb:Binds X.K fd ps ds)(hd:Vals aK ds)(hx:Passes CX X E)(ht:eval (.Call (.Attribute o m apos) [] [] pos) X.env=(do
   let ov <- eval o X.env
   standAt apos.atName
   let (f,first) <- holding [ov] (getMethod ov m pl)
   callWith pos f first (backTo pos (starEach [] X.env)) (backToKw pos (keywordEach [] X.env))):=by rfl) :
  PE X (.Call (.Attribute o m apos) [] [] pos) (uf C m sp aK E ta ue):=by
 intro pins s σ H Q I h;refine PySem.W.methodCall_KW (pl:=pl) (cP (he pins s σ H _ I h) fun u s1 ⟨x,H1,I1,rx,a,dx,fs,ex,ea,l,q⟩=>?_) ht;subst ex;obtain rfl:u=Value.ref a:=rx;refine mY I1 ea c hm l ?_;exact PySem.W.callWith_K0 (first:=[.ref a]) I1.lC hm.kp (wI (us:=[.ref a]) (vs:=[.ref a]) F hr hb hd hx I1 (.cons rfl .nil) q)
structure Mk(K:zn)(C f:Addr):Prop where
 makes:PySem.W.makesIn K C=true
 init:PySem.W.findIn K (.ref C) "__init__"=some (some (.ref f))
 fn:PySem.W.isFn K (.ref f)=true
 kp:PySem.W.keepIn K (.ref C)=true
theorem CL{Q:VK}(M:Mk X.K C f)(F:ba X.prog X.w X.K X.mg X.base CX k f fd ps sp)(hr:cT (k+1) X.A)(hb:Binds X.K fd ps ds)(hd:Vals aK ds)(hx:Passes CX X E)(I:Inv X pins σ H s)(r:Vals vs us)(h:∀ x dx,H x=none->H dx=none->dx≠x->sp (.ref x::(vs++aK)) (upd (upd H dx (.own x)) x (.ins C dx [])) (fun v H2=>v=.cS/\Q (.ref x) H2) E) :
  wpAny (model X.prog X.w) X.A (call (.ref C) us) (EP X pins σ Q) X.xe s:=by
 have hq:=h (s.heap.objs.size+1) s.heap.objs.size (I.ck.fresh (abM _)) (I.ck.fresh (aar _)) (aa1 (abI _));have I2:=Inv.made (C:=C) I;have r2:Vals (V.ref (s.heap.objs.size+1)::(vs++aK)) (Value.ref (s.heap.objs.size+1)::(us++ds)):=.cons rfl (r.append hd);have hl:(Value.ref (s.heap.objs.size+1)::us++ds).length=ps.length:=by
  have e:=r2.length;rw[F.len _ _ _ _ hq]at e;exact e.symm
 refine wpAny_call (CH (f:=f) I.lC M.makes M.init (acq.mp M.fn) (acs (F.run _ X.stack _ _ ⟨Value.ref (s.heap.objs.size+1)::us,[]⟩ (Value.ref (s.heap.objs.size+1)::(us++ds)) _ _ E (hr.make C us [])
  (I2.Pz.make C us []) (hb _ (Value.ref (s.heap.objs.size+1)::us) I2.lC hl) r2 hq) fun r s' PB=>?_))
 cases r with
 | error e=>exact hx pins σ _ _ e s' I2 PB
 | ok fl =>
  cases fl with
  | ret u =>
   obtain⟨v,H',I3,rv,ev,q3⟩:=I2.after PB;subst ev;exact⟨rv,⟨V.ref (s.heap.objs.size+1),H',I3,rfl,q3⟩⟩
  | next=>exact False.elim PB
  | brk=>exact False.elim PB
  | cont=>exact False.elim PB
theorem G5(M:Mk X.K C f)(F:ba X.prog X.w X.K X.mg X.base CX k f fd ps sp)(hr:cT (k+1) X.A)(hg:Gl X x)(hm:X.mg x=some (.ref C))(hb:Binds X.K fd ps ds)(hd:Vals aK ds)(hx:Passes CX X E)(ha:PA X (e::es) t)(ug:autoParam ((x == ("__debug__":Str))=false) ra1)(he:autoParam (starEach (e::es) X.env=(false,eval e X.env)::starEach es X.env) ra0)(qZ:autoParam ((backTo pos (starEach es X.env)).any (·.1)=false) ra0) :
  PE X (.Call (.Name x p) (e::es) [] pos) (CJ C sp aK E t):=by
 intro pins s σ H Q I h;refine ab1 (mq I hg hm ?_ ug);refine adx (h₀:=X.base) I.ok.mod.OK M.kp (cP (ha pos pins s σ H _ I h) fun us s1 ⟨vs,H1,I1,r,q⟩=>⟨I1.lC,?_⟩) he qZ;exact CL M F hr hb hd hx I1 r q
end
section
variable {f:Addr}{ks:wv}{sp:Sp}{E:XK}{m:Str}{apos ZF:Pos}{e:Expr}{kws:List Keyword}{t tk:TA}{nm:Option Str}
variable {g:wf->wf->wf}{gV:List V->List V->List V}
end
structure av(N P:wv)(sc:Scope):Prop where
 kind:sc.kind=.function
 co:sc.isCoroutine=false
 gen:sc.isGenerator=false
 nd:N.Nodup
 pre:N.take P.length=P
 par:∀ x∈P,sc.names.lookup x=some .local\/sc.names.lookup x=some .cell
 LW:∀ y∈sc.names,y.2≠.free
theorem pT{kindOf:Str->Option NameKind}{x:Str}:∀{binds:List (Str×Value)} {m:xL},(∀ v,(x,v) ∉ binds)->bindL kindOf binds m x=m x
 | [],_,_=>rfl
 | (n,v)::r,m,h=>by
  unfold bindL;rw[pT fun w hw=>h w (aaw _ hw)];split
  ·have:x≠n:=by rintro rfl;exact h v aax
   simp[this]
  ·rfl
theorem pU{kindOf:Str->Option NameKind}{x:Str}:∀{binds:List (Str×Value)} {m:xL},(∀ v,(x,v) ∉ binds)->bindC kindOf binds m x=m x
 | [],_,_=>rfl
 | (n,v)::r,m,h=>by
  unfold bindC;rw[pU fun w hw=>h w (aaw _ hw)];split
  ·rfl
  ·have:x≠n:=by rintro rfl;exact h v aax
   simp[this]
theorem pV{kindOf:Str->Option NameKind}{x:Str}{v:Value}:∀{P:wv} {vs:wf} {i:Nat} {m:xL},P.Nodup->P[i]?=some x->vs[i]?=some v->kindOf x=some .local ->
  bindL kindOf (P.zip vs) m x=some v
 | [],_,_,_,_,h,_,_=>by simp at h
 | _::_,[],_,_,_,_,h,_=>by simp at h
 | p::P,w::vs,0,m,nd,h1,h2,hk=>by
  simp at h1 h2;subst h1;subst h2;show bindL kindOf ((p,w)::P.zip vs) m p=_;unfold bindL;rw[pT fun v hv=>(abD.mp nd).1 (acM hv).1,aaN hk];simp
 | p::P,w::vs,i+1,m,nd,h1,h2,hk=>by
  show bindL kindOf ((p,w)::P.zip vs) m x=_;unfold bindL;exact pV (i:=i) (abD.mp nd).2 (by simpa using h1) (by simpa using h2) hk
theorem pW{kindOf:Str->Option NameKind}{x:Str}{v:Value}:∀{P:wv} {vs:wf} {i:Nat} {m:xL},P.Nodup->P[i]?=some x->vs[i]?=some v->kindOf x≠some .local ->
  bindC kindOf (P.zip vs) m x=some v
 | [],_,_,_,_,h,_,_=>by simp at h
 | _::_,[],_,_,_,_,h,_=>by simp at h
 | p::P,w::vs,0,m,nd,h1,h2,hk=>by
  simp at h1 h2;subst h1;subst h2;show bindC kindOf ((p,w)::P.zip vs) m p=_;unfold bindC;rw[pU fun v hv=>(abD.mp nd).1 (acM hv).1,aaD hk];simp
 | p::P,w::vs,i+1,m,nd,h1,h2,hk=>by
  show bindC kindOf ((p,w)::P.zip vs) m x=_;unfold bindC;exact pW (i:=i) (abD.mp nd).2 (by simpa using h1) (by simpa using h2) hk
def start(N:wv)(vs:List V):St:=vs.map some++List.replicate (N.length - vs.length) none
noncomputable def eW(CX:AB)(P:sB)(w:World)(K:zn)(mg:xL)(base:Heap)(N:wv)(qual:Str)(scope:Scope)(f:Addr)(cd:Value)(A:sK)(outer:List Env)(s:Shared)(H:Hp)(E:XK):Cx where
 prog:=P
 w:=w
 K:=K
 mg:=mg
 base:=base
 A:=A.deeper (envOfC qual scope s.heap.objs.size f cd)
 N:=N
 a9:=s
 bA:=H
 env:=envOfC qual scope s.heap.objs.size f cd
 outer:=outer
 stack:=envOfC qual scope s.heap.objs.size f cd::outer
 ex:=[]
 calm:=true
 fn:=fun _=>true
 pn:=[]
 xe:=fun e s'=>wpAny (model P w) (A.deeper (envOfC qual scope s.heap.objs.size f cd)) (leaving (envOfC qual scope s.heap.objs.size f cd) e) (fun _ OP=>CX outer H s E e OP) (fun e' OP=>CX outer H s E e' OP) s'
theorem uh{sc:Scope}{n:Nat}(h:sc.names.lookup x=some .cell):∃ c,(cellsFrom n sc.names []).lookup x=some c:=by
 have q:=PySem.W.cellsFrom_some sc.names n [] (.inl h);exact abC.mp q
theorem AD{K:zn}{qual:Str}{scope:Scope}{f:Addr}{cd:Value}{outer:List Env}{s1:Shared}{E:XK}(S:av N ps scope)(hd:A.handled=none)(e0:wH P w K mg base A outer s H)(hl:vs.length=ps.length)(r:Vals vs us)(x:InCallC s s.heap.objs.size (bindL (envOfC qual scope s.heap.objs.size f cd).kindOf (ps.zip us) fun _=>none) (cellsFrom (s.heap.objs.size+1) scope.names []) (bindC (envOfC qual scope s.heap.objs.size f cd).kindOf (ps.zip us) fun _=>none) s1) :
  Inv (eW CX P w K mg base N qual scope f cd A outer s H E) [] (start N vs) H s1:=by
 have qZ:ps.length<=N.length:=by have:=abJ List.length S.pre;rw[aa8]at this;omega
 obtain⟨h1,tk,rfl,hk⟩:=x.done;have PF:∀ b:Addr,b ∉ (eW CX P w K mg base N qual scope f cd A outer s H E).ex:=fun b z=>absurd (show b∈([]:ww) from z) (by simp);refine⟨⟨e0.mod,S.kind,rfl,rfl,aar _,fun y z c h1 h2=>?_,fun y hy=>?_,fun y c _ h=>?_,fun _=>hd,Around.frames_deeper e0.frames,.inr ⟨rfl,rfl⟩,fun b z=>absurd z (PF b),e0.bs,e0.Jv,fun b _ _=>PF b,fun b z=>absurd z (PF b),e0.lW,e0.Gs⟩,
  rfl,e0.bare,Un.kept hk,⟨_,x.toInCall.ns,fun i y v h1 h2 h3=>?_⟩,fun y c h=>⟨_,x.cell y c h⟩,e0.ck.fresh (aar _),fun y c h=>?_,fun p hp=>absurd (show p∈([]:yp) from hp) (by simp),e0.ck.kept hk,?_⟩
 ·exact name_of_addr x.apart (aci h1) (aci h2)
 ·have hy:scope.names.lookup y=some .cell\/scope.names.lookup y=some .free:=hy;rcases hy with hy | hy
  ·exact uh hy
  ·exact absurd rfl (S.LW _ (aci hy))
 ·exact aaJ (x.above y c (aci h))
 ·have hi:i < vs.length:=by
   unfold start at h2
   by_cases hi:i < vs.length
   ·exact hi
   ·rw[abt (by simpa using hi)]at h2;rw[List.getElem?_replicate]at h2;split at h2<;>cases h2
  have ha:vs[i]?=some v:=by
   unfold start at h2;rw[ab6 (by simpa using hi),aap]at h2;cases e:vs[i]? with
   | none=>rw[e]at h2;cases h2
   | some a=>rw[e]at h2;cases h2;rfl
  obtain⟨u,hu,rv⟩:=r.get ha;have hp:ps[i]?=some y:=by
   rw[<- S.pre,abR (by omega)];exact h1
  have XB:ps.Nodup:=by rw[<- S.pre];exact S.nd.sublist (List.take_sublist _ _)
  refine⟨u,rv,?_⟩;rcases S.par y (aa0 hp)with k | k
  ·exact .inl ⟨k,pV XB hp hu k⟩
  ·obtain⟨c,e⟩:=uh (n:=s.heap.objs.size+1) k;refine .inr ⟨.inl k,c,e,?_⟩;have q:=x.cell y c e;rw[pW XB hp hu (by show scope.names.lookup y≠_;rw[k];decide)]at q;exact q
 ·exact e0.ck.fresh (aaJ (x.above y c (aci h)))
 ·unfold start;show _=N.length;rw[aaP,aal,ac1];omega
theorem JC{K:zn}{f:Addr}{name qual:Str}{params:Arguments}{scope:Scope}{dV kV doc pm bC ct oc:Value}{an od:wS}{wJ:Array wP}{sp:Sp}(lk:K.lookup f=some ⟨oc,od,.func (PySem.W.fnOf name qual params body scope dV kV doc pm an bC ct),wJ⟩)(An:PySem.W.codeIn K bC qual=true)(S:av N ps scope)(len:∀ vs H Q E,sp vs H Q E->vs.length=ps.length)(c7:∀(A:sK) (outer:List Env) (s:Shared) (H:Hp) (vs:List V) (Q:VK) (E:XK),cT k (A.deeper (envOfC qual scope s.heap.objs.size f bC))->sp vs H Q E ->
   ∃ t,yy (eW CX P w K mg base N qual scope f bC A outer s H E) body t/\t { nx:=fun _ H'=>Q .cS H',rt:=Q } (start N vs) H) :
  ba P w K mg base CX (k+1) f (PySem.W.fnOf name qual params body scope dV kV doc pm an bC ct) ps sp:=by
 refine⟨len,fun A outer s H args us vs Q E hr e0 hb r pB=>?_⟩;have hl:=len _ _ _ _ pB;have KX:K.In s.heap:=e0.mod.OK.keeps fun b o e=>(e0.bs b o e).1;have lim:s.heap.NoLimit:=e0.mod.nolimit.keeps fun b o e=>(e0.bs b o e).1;have PH:∀ y∈ps.zip us,scope.names.lookup y.1=some .local\/(scope.names.lookup y.1=some .cell/\((cellsFrom (s.heap.objs.size+1) scope.names []).lookup y.1).isSome=true):=fun⟨n,v⟩ hy=>by
  rcases S.par n (acM hy).1 with q | q
  ·exact .inl q
  ·exact .inr ⟨q,PySem.W.cellsFrom_some _ _ _ (.inl q)⟩
 refine codeAny_call_function hr.depth (KX _ _ lk) rfl S.co S.gen rfl (PySem.W.codeRec_of KX An) (hb _ _ _ _ ?_);refine wpAny_newFunctionEnv_cells S.kind PH fun env he s1 x=>?_;subst he;refine⟨lim.keeps x.toInCall.keep,codeAny_func ?_⟩;obtain⟨t,ht,hq⟩:=c7 A outer s H vs Q E (hr.deeper _) pB;have I:Inv (eW CX P w K mg base N qual scope f bC A outer s H E) [] (start N vs) H s1:=AD S hr.hd e0 hl r x;refine abB (ht [] s1 (start N vs) H _ I hq) (fun fl s' hs=>?_) fun e s' hs=>hs;have fin:∀{bB:St} {H':Hp} {v:V} {u:Value},Inv (eW CX P w K mg base N qual scope f bC A outer s H E) [] bB H' s'->RelV v u->Q v H'->CE outer P w H s Q u s' :=
  fun{bB H' v u} J rv q=>⟨v,H',J.os,J.bare,J.base,J.ck,rv,q⟩
 cases fl with
 | ret u =>
  obtain⟨v,bB,H',J,rv,q⟩:=hs;exact fin J rv q
 | next =>
  obtain⟨bB,H',J,q⟩:=hs;exact fin (v:=V.cS) (u:=Value.none) J rfl q
 | brk =>
  obtain⟨_,_,_,q⟩:=hs;exact False.elim q
 | cont =>
  obtain⟨_,_,_,q⟩:=hs;exact False.elim q
section
variable {e:Expr}{t:TA}{id T:String}{r:List V->Hp->VK->Prop}
def LX(r:List V->Hp->VK->Prop)(t:TA):TE:=fun σ H Q=>t σ H fun vs H1=>r vs H1 Q
theorem ui(hc:dG X (.builtin id) r)(hg:Gl X x)(hm:X.mg x=none)(hv:bootBuiltins x=some (.builtin id))(ha:PA X (e::es) t)(hn:autoParam (x ≠ "__name__") ra1)(ug:autoParam ((x == ("__debug__":Str))=false) ra1)(he:autoParam (starEach (e::es) X.env=(false,eval e X.env)::starEach es X.env) ra0)(qZ:autoParam ((backTo pos (starEach es X.env)).any (·.1)=false) ra0):PE X (.Call (.Name x p) (e::es) [] pos) (LX r t):=by
 intro pins s σ H Q I h;refine ab1 (jr I hg hm hv ?_ hn ug);exact ac2 (cP (ha pos pins s σ H _ I h) fun us s1 ⟨vs,H1,I1,r1,q1⟩=>hc pins s1 σ H1 vs us Q I1 r1 q1) he qZ
theorem AE(hc:dG X (.type T) r)(hg:Gl X x)(hm:X.mg x=none)(hv:bootBuiltins x=some (.type T))(ha:PA X (e::es) t)(hn:autoParam (x ≠ "__name__") ra1)(ug:autoParam ((x == ("__debug__":Str))=false) ra1)(he:autoParam (starEach (e::es) X.env=(false,eval e X.env)::starEach es X.env) ra0)(qZ:autoParam ((backTo pos (starEach es X.env)).any (·.1)=false) ra0):PE X (.Call (.Name x p) (e::es) [] pos) (LX r t):=by
 intro pins s σ H Q I h;refine ab1 (jr I hg hm hv ?_ hn ug);exact abX (cP (ha pos pins s σ H _ I h) fun us s1 ⟨vs,H1,I1,r1,q1⟩=>hc pins s1 σ H1 vs us Q I1 r1 q1) he qZ
end
section
variable {κ:Type}[DecidableEq κ]
def nh(bO:List (κ×V))(k:κ):Option V:=(bO.find? fun kv=>decide (kv.1=k)).map (·.2)
theorem uj{p:κ×V}{r:List (κ×V)}{k:κ}(e:p.1=k):nh (p::r) k=some p.2:=by simp[nh,acu,e]
theorem nj{p:κ×V}{r:List (κ×V)}{k:κ}(e:¬ p.1=k):nh (p::r) k=nh r k:=by simp[nh,acu,e]
theorem KV.val{bO:List (κ×V)}{vs:List (κ×Value)}(r:KV bO vs)(k:κ):lV (nh bO k) (valueAt vs k):=by
 unfold KV at r;induction r with
 | nil=>exact True.intro
 | @cons p q ps qs h t ih =>
  obtain⟨h1,h2⟩:=h
  by_cases e:p.1=k
  ·have e':q.1=k:=h1.symm.trans e;have b:valueAt (q::qs) k=some q.2:=by simp[valueAt,acu,e']
   rw[uj e,b];exact h2
  ·have e':¬ q.1=k:=fun z=>e (h1.trans z);have b:valueAt (q::qs) k=valueAt qs k:=by simp[valueAt,acu,e']
   rw[nj e,b];exact ih
theorem KV.keys{bO:List (κ×V)}{vs:List (κ×Value)}(r:KV bO vs):bO.map (·.1)=vs.map (·.1):=by
 unfold KV at r;induction r with
 | nil=>rfl
 | cons h t ih=>rw[aaZ,aaZ,ih,h.1]
end
theorem PJ{k:Key}(r:RelV (kV k) u):(fA P w).is k u=true:=by
 cases k with
 | inl i=>obtain⟨t,e⟩:=(show ∃ t,u=Value.int i t from r);subst e;exact tV P w i t
 | inr x=>obtain⟨t,e⟩:=(show ∃ t,u=Value.str x t from r);subst e;exact tW P w x t
def G6(i:Expr):Prop:=∀ ov iv,subscripted i false ov iv=operate [ov,iv] (getItem ov iv)
theorem G7{env:Env}{value slice:Expr}{T id:String}(hl:typeLookup (.type T) "__getitem__"=pure (some (.builtin id)))(hs:G6 slice)(h:wpAny (model prog w) A (eval value env) (fun o bG=>wpAny (model prog w) A (eval slice env) (fun i bh=>bh.TypeIs o T/\wpAny (model prog w) A (getItem o i) Q E bh) E bG) E s) :
  wpAny (model prog w) A (eval (.Subscript value slice pos) env) Q E s:=by
 refine Subscript_ (abB h (fun o bG eM=>abB eM (fun i bh gQ=>?_) fun _ _ x=>x) fun _ _ x=>x);obtain⟨hT,gQ⟩:=gQ;unfold subscriptTail;refine aak ?_;rw[getitemInPython_of_ne hT.not_modules];refine aak (wpAny_specialOf hT hl ?_);have fin:wpAny (model prog w) A (subscripted slice false o i) (fun r s₃=>wpAny (model prog w) A (letTemporaryGo value o r >>= fun _=>pure r) Q E s₃) E bh:=by
  rw[hs o i];exact wpAny_operating (abB gQ (fun r s₃ nq=>aak (wpAny_letTemporaryGo (aao nq))) fun _ _ x=>x)
 first
  | exact aao (aak fin)
  | exact aak (aao (aak fin))
  | exact aak fin
end L2
namespace HT
open PySem PyProof.Rows
section
open PySem.SeqAt
open PySem.AutoSeq1 (wpAny_loadPart')
open PySem.MeetsSeq PySem.MeetsSeq2 PySem.MeetsSeq3
end
section
variable {prog:sB}{w:World}{A:sK}{E:xz}{s:Shared}
theorem G8{t b:Addr}{vs ws:wf}{Q:xz}(ht:IsTup s.heap t vs.toArray)(hb:IsTup s.heap b ws.toArray)(hv:vs≠[])(h1:ws=[]->Q (.ref t) s)(h2:ws≠[]->Q (.ref s.heap.objs.size) { s with heap:=s.heap.push { cls:=.type "tuple",data:=.seq (vs++ws).toArray } })(vW:vs.length+ws.length<=sizeLine):wpAny (model prog w) A (binaryOp .Add (.ref t) (.ref b)) Q E s:=by
 obtain⟨⟨cls,dd,data,sl⟩,ho,hc,n,hd⟩:=id ht;obtain⟨⟨Uv,S7,data2,S8⟩,jE,B2,n2,hd2⟩:=id hb;simp only at hc hd B2 hd2;subst hc hd B2 hd2;have e:vs.toArray++ws.toArray=(vs++ws).toArray:=by simp
 by_cases hw:ws=[]
 ·exact concat_meets ⟨_,ho,rfl⟩ ⟨_,jE,rfl⟩ noFill_tuple_add seq_tuple_add acV acN (acK _ _)
   (tuple_addW1 t b vs.toArray ws.toArray n n2 dd S7 sl S8 (by simpa using hv) (by simp[hw])) ⟨ho,jE,h1 hw⟩
 ·refine concat_meets ⟨_,ho,rfl⟩ ⟨_,jE,rfl⟩ noFill_tuple_add seq_tuple_add acV acN (acK _ _)
   (tuple_addW2 t b vs.toArray ws.toArray n n2 dd S7 sl S8 (by simpa using hv) (by simpa using hw) (by rw[aaE,aaE];exact vW)) ⟨ho,jE,?_⟩
  rw[e];exact h2 hw
def dN(n d:Nat):v0->Nat
 | none=>d
 | some v=>if v < 0 then(v+(n:Int)).toNat else min v.toNat n
theorem nr(n d:Nat):dN n d none=d:=rfl
theorem my(n d k:Nat):dN n d (some (k:Int))=min k n:=by
 show(if(k:Int) < 0 then((k:Int)+(n:Int)).toNat else min (k:Int).toNat n)=min k n;rw[aaD (by omega),aaB]
theorem LY(n d:Nat)(hd:d<=n)(o:v0):dN n d o<=n:=by
 cases o with
 | none=>exact hd
 | some v =>
  show(if v < 0 then(v+(n:Int)).toNat else min v.toNat n)<=n
  by_cases hv:v < 0
  ·rw[aaN hv];omega
  ·rw[aaD hv];exact adR _ _
theorem yJ(v:Int)(n d:Nat):(if v < 0 then max (v+(n:Int)) 0 else min v (n:Int))=((dN n d (some v):Nat):Int):=by
 show(if v < 0 then max (v+(n:Int)) 0 else min v (n:Int))=(((if v < 0 then(v+(n:Int)).toNat else min v.toNat n):Nat):Int)
 by_cases hv:v < 0
 ·simp only[aaN hv];omega
 ·simp only[aaD hv];omega
theorem wL(lo hi:v0)(n:Nat):Builtin.Slice.sliceAdjust lo hi 1 (n:Int)=(((dN n 0 lo:Nat):Int),((dN n n hi:Nat):Int)):=by
 have h1:¬ ((1:Int) < 0):=by omega
 unfold Builtin.Slice.sliceAdjust;simp only[h1,ady];refine Prod.ext ?_ ?_
 ·cases lo with
  | none=>rfl
  | some v=>exact yJ v n 0
 ·cases hi with
  | none=>rfl
  | some v=>exact yJ v n n
theorem wM(i j:Nat):Builtin.Slice.slicePlaces (i:Int) (j:Int) 1=j - i:=by
 unfold Builtin.Slice.slicePlaces;have h1:(1:Int) > 0:=by omega
 simp only[h1,acW,Int.ediv_one];split<;>omega
theorem nu{v:Value}{o:v0}{Q:v0->Shared->Prop}(p:IsPart v o)(h:Q o s):wpAny (model prog w) A (Builtin.Slice.slicePartIndex v) Q E s:=by
 cases p with
 | none=>exact slicePart_none h
 | int i t=>exact slicePart_int h
theorem kD{sl:Addr}{vl vu:Value}{lo hi:v0}{n:Nat}{Q:Int×Int×Nat->Shared->Prop}(hs:s.heap.IsSliceOf sl vl vu .none)(pl:IsPart vl lo)(pu:IsPart vu hi)(h:Q (((dN n 0 lo:Nat):Int),1,dN n n hi - dN n 0 lo) s):wpAny (model prog w) A (Builtin.Slice.sliceApplied (.ref sl) (pure (n:Int))) Q E s:=by
 obtain⟨os,PK,XC,S9⟩:=id hs;unfold Builtin.Slice.sliceApplied Builtin.Slice.sliceFields;refine aak (aak (abE PK S9 (x:=vl) rfl (aak (abE PK S9 (x:=vu) rfl (aak (abE PK S9 (x:=.none) rfl (aao ?_)))))));refine aak (slicePart_none ?_);show wpAny _ _ (if((1:Int) == 0)=true then _ else _) _ _ s;rw[aaD (by decide)];refine aak (nu pl (aak (nu pu (aak (aao ?_)))));show wpAny _ _ (match Builtin.Slice.sliceAdjust lo hi 1 (n:Int)with | (lo,hi)=>pure (lo,(1:Int),Builtin.Slice.slicePlaces lo hi 1)) _ _ s;rw[wL lo hi n];show wpAny _ _ (pure (((dN n 0 lo:Nat):Int),(1:Int),Builtin.Slice.slicePlaces ((dN n 0 lo:Nat):Int) ((dN n n hi:Nat):Int) 1)) _ _ s;rw[wM];exact aao h
theorem CM(xs:Array Value)(i k:Nat):((List.range k).filterMap fun(m:Nat)=>xs[((i:Int)+(m:Int) * 1).toNat]?).toArray=((xs.toList.drop i).take k).toArray:=by
 have e:(fun(m:Nat)=>xs[((i:Int)+(m:Int) * 1).toNat]?)=fun m=>xs[i+m]?:=by
  funext m;have:((i:Int)+(m:Int) * 1).toNat=i+m:=by omega
  rw[this]
 rw[e];have:=pick_run xs i k;rw[List.filterMap_map]at this;have e2:((fun x=>xs[x]?) ∘ fun x=>i+x)=fun m=>xs[i+m]?:=rfl;rw[e2]at this;rw[this]
theorem jF{t sl:Addr}{items:Array Value}{vl vu:Value}{lo hi:v0}{Q:xz}(ht:IsTup s.heap t items)(hs:s.heap.IsSliceOf sl vl vu .none)(pl:IsPart vl lo)(pu:IsPart vu hi)(hw:¬ (dN items.size 0 lo=0/\dN items.size items.size hi=items.size))(h:Q (.ref s.heap.objs.size) { s with heap:=s.heap.push { cls:=.type "tuple",data:=.seq ((items.toList.drop (dN items.size 0 lo)).take (dN items.size items.size hi - dN items.size 0 lo)).toArray } })(vW:items.size<=sizeLine):wpAny (model prog w) A (getItem (.ref t) (.ref sl)) Q E s:=by
 have yK:sizeOk (.seq ((items.toList.drop (dN items.size 0 lo)).take (dN items.size items.size hi - dN items.size 0 lo)).toArray):=by
  show((items.toList.drop (dN items.size 0 lo)).take (dN items.size items.size hi - dN items.size 0 lo)).toArray.size<=sizeLine;rw[aaE,aa8,abZ,aaO];omega
 have hj:dN items.size items.size hi<=items.size:=LY _ _ (aar _) hi;obtain⟨os,PK,XC,S9⟩:=id hs;have ZG:s.TypeIs (.ref sl) "slice":=⟨os,PK,XC⟩;unfold getItem
 try with_reducible refine abj ?_
 first | refine aak (aao ?_) | skip
 refine aak (wpAny_sequenceKey ht.typeIs (by decide) ?_);refine aak (abr (name:=Str.ofString "__getitem__") ht.typeIs acf
  (abq acf ht.typeIs entry_tuple_getitem ?_ (args_tuple_getitem _ _)))
 show wpAny _ _ (Builtin.Tuple.tupleItemsOf (.ref t) >>= _) _ _ s;refine aak (tupleItemsOf_ ht ?_);refine aak (wpAny_typeOf ZG ?_);rw[aaN (by decide)];refine aak (kD hs pl pu ?_);have Uw:¬ ((((dN items.size 0 lo:Nat):Int) == 0&&(1:Int) == 1&&(dN items.size items.size hi - dN items.size 0 lo) == items.size)=true):=by
  intro q;rw[aaK,aaK]at q;have q1:((dN items.size 0 lo:Nat):Int)=0:=eq_of_beq q.1.1;have q2:dN items.size items.size hi - dN items.size 0 lo=items.size:=eq_of_beq q.2;exact hw ⟨by omega,by omega⟩
 show wpAny _ _ (if(((dN items.size 0 lo:Nat):Int) == 0&&(1:Int) == 1&&(dN items.size items.size hi - dN items.size 0 lo) == items.size)=true then _ else _) _ _ s;rw[aaD Uw,CM]
 first
  | exact aak (m:=Builtin.Tuple.tupleExact _) (abn (aao ⟨_,rfl,aao h⟩) yK)
  | exact aak (m:=Builtin.Tuple.tupleExact _) (abn (aak (aao (aao ⟨_,rfl,aao h⟩))) yK)
  | exact aak (aak (m:=Builtin.Tuple.tupleExact _) (abn (aao (aao ⟨_,rfl,aao h⟩)) yK))
  | exact aak (aak (m:=Builtin.Tuple.tupleExact _) (abn (aao ⟨_,rfl,aao h⟩) yK))
end
end HT
namespace L2
open PySem PySem.Spec PyProof.Rows
variable {X:Cx}{xs:List V}{pins:yp}{s:Shared}{aQ:wf}{A:sK}{v:Value}
abbrev TO:=St->Hp->(Option Int->Hp->Prop)->Prop
def PO(X:Cx)(e:Option Expr)(t:TO):Prop :=
 ∀(pins:yp) (s:Shared) (σ:St) (H:Hp) (Q:v0->Hp->Prop),Inv X pins σ H s->t σ H Q ->
  wpAny (model X.prog X.w) X.A (evalPart e X.env) (fun u s'=>∃ o H',Inv X pins σ H' s'/\IsPart u o/\Q o H') X.xe s
def rh:TO:=fun _ H Q=>Q none H
def CN(t:TE):TO:=fun σ H Q=>t σ H fun x H1=>∃ i,x=.int i/\Q (some i) H1
theorem intsAre_of{ns:wn}:∀{us:wf},Vals (ns.map V.int) us->IntsAre us ns:=by
 induction ns with
 | nil=>intro us r;rw[List.map_nil]at r;cases r;exact .nil
 | cons n ns ih =>
  intro us r;rw[aaZ]at r;cases r with
  | cons r1 r2 =>
   obtain⟨t,e⟩:=r1;subst e;exact .cons n t (ih r2)
section
variable {e:Expr}{te:TE}{lo hi:Option Expr}{tl th:TO}{pos p2:Pos}
theorem G9:PO X none rh:=by
 intro pins s σ H Q I h;rw[evalPart_none];exact aao ⟨none,H,I,.none,h⟩
theorem Ha(h:PE X e te):PO X (some e) (CN te):=by
 intro pins s σ H Q I hw;rw[evalPart_some];refine cP (h pins s σ H _ I hw) fun u s1 ⟨x,H1,I1,r1,q1⟩=>?_;obtain⟨i,rfl,q⟩:=q1;obtain⟨t,rfl⟩:=r1;exact⟨some i,H1,I1,.int i t,q⟩
def Tb(X:Cx)(r:V->v0->v0->Hp->VK->Prop):Prop :=
 ∀(pins:yp) (s:Shared) (σ:St) (H:Hp) (x:V) (v vl vu:Value) (lo hi:v0) (sl:Addr) (Q:VK),Inv X pins σ H s->RelV x v->s.heap.IsSliceOf sl vl vu .none->IsPart vl lo->IsPart vu hi->r x lo hi H Q ->
  ∃ T id,typeLookup (.type T) "__getitem__"=pure (some (.builtin id))/\s.TypeIs v T/\wpAny (model X.prog X.w) X.A (getItem v (.ref sl)) (EP X pins σ Q) X.xe s
def Ux(r:V->v0->v0->Hp->VK->Prop)(te:TE)(tl th:TO):TE:=fun σ H Q=>te σ H fun x H1=>tl σ H1 fun l H2=>th σ H2 fun u H3=>r x l u H3 Q
theorem CO{r:V->v0->v0->Hp->VK->Prop}(hr:Tb X r)(he:PE X e te)(hl:PO X lo tl)(hu:PO X hi th):PE X (.Subscript e (.Slice lo hi none p2) pos) (Ux r te tl th):=by
 intro pins s σ H Q I h;refine Subscript_ (cP (he pins s σ H _ I h) fun v s1 ⟨x,H1,I1,r1,q1⟩=>?_);refine wpAny_Slice (cP (hl pins s1 σ H1 _ I1 q1) fun vl s2 ⟨l,H2,I2,pl,q2⟩=>cP (hu pins s2 σ H2 _ I2 q2) fun vu s3 ⟨u,H3,I3,pu,q3⟩=>?_);rw[evalPart_none];refine aao ?_;have I4:Inv X pins σ H3 { s3 with heap:=s3.heap.push { cls:=.type "slice",data:=.fields #[vl,vu,.none] } }:=I3.kept (t':=s3.toks) fun b ob q=>aam _ q;obtain⟨T,id,hT,ht,hg⟩:=hr pins { s3 with heap:=s3.heap.push { cls:=.type "slice",data:=.fields #[vl,vu,.none] } } σ H3 x v vl vu l u s3.heap.objs.size Q I4 r1 (Heap.IsSliceOf.new ..) pl pu q3;show wpAny (model X.prog X.w) X.A (subscriptTail e (.Slice lo hi none p2) v (.ref s3.heap.objs.size)) (EP X pins σ Q) X.xe { s3 with heap:=s3.heap.push { cls:=.type "slice",data:=.fields #[vl,vu,.none] } };exact tail_any (ops:=[.ref s3.heap.objs.size,v]) ht hT hg (by with_unfolding_all rfl)
def nv(xs:List V)(lo hi:v0):List V:=(xs.drop (HT.dN xs.length 0 lo)).take (HT.dN xs.length xs.length hi - HT.dN xs.length 0 lo)
theorem lH(xs:List V)(lo hi:v0):(nv xs lo hi).length<=xs.length:=by
 unfold nv;rw[aa8,abZ];omega
def PL(K:zn):V->v0->v0->Hp->VK->Prop:=fun x lo hi H Q=>∃ a xs,x=.ref a/\fg K H a xs /\
 ¬ (HT.dN xs.length 0 lo=0/\HT.dN xs.length xs.length hi=xs.length)/\∀ p,H p=none->Q (.ref p) (upd H p (.tup (nv xs lo hi)))
theorem rj:Tb X (PL X.K):=by
 intro pins s σ H x v vl vu lo hi sl Q I rx hs pl pu h;obtain⟨a,xs,rfl,hx,hw,q⟩:=h;cases rx;obtain⟨aQ,r,ht,hz⟩:=I.tuple hx;have hlen:aQ.toArray.size=xs.length:=by rw[aaE];exact r.length.symm
 refine⟨"tuple",_,acf.lookup,ht.typeIs,?_⟩;refine HT.jF ht hs pl pu (by rw[hlen];exact hw) ?_ (by rw[hlen];exact hz);rw[hlen];refine⟨.ref s.heap.objs.size,_,I.laid (t':=s.toks) (o:=.tup (nv xs lo hi)) (fun b ob q=>aam _ q) (aar _) ?_,rfl,q _ (I.ck.fresh (aar _))⟩;exact⟨aaA (lH xs lo hi) hz,_,(r.drop (HT.dN xs.length 0 lo)).take (HT.dN xs.length xs.length hi - HT.dN xs.length 0 lo),IsTup.new _ _⟩
theorem Vals.mz{us:wf}(r:Vals xs us):us=[]↔xs=[]:=by
 cases r with
 | nil=>simp
 | cons _ _=>simp
end
def yL(n:Nat)(i:Int):Option Nat:=if 0<=i then(if i < n then some i.toNat else none)else if -(n:Int)<=i then some (i+n).toNat else none
def gF{α:Type}(xs:List α)(i:Int):Option α:=(yL xs.length i).bind fun j=>xs[j]?
theorem yM{n:Nat}{i:Int}{j:Nat}(h:yL n i=some j):seqIndex? i n=some j/\j < n/\-(n:Int)<=i/\i < n:=by
 unfold yL at h
 by_cases h0:0<=i
 ·rw[aaN h0]at h
  by_cases h1:i < n
  ·rw[aaN h1]at h;have e:i.toNat=j:=aa5 h;exact⟨by rw[seqIndex_of h0 h1,e],by omega,by omega,h1⟩
  ·rw[aaD h1]at h;cases h
 ·rw[aaD h0]at h
  by_cases h1:-(n:Int)<=i
  ·rw[aaN h1]at h;have e:(i+n).toNat=j:=aa5 h;exact⟨by rw[seqIndex_neg (by omega) h1,e],by omega,h1,by omega⟩
  ·rw[aaD h1]at h;cases h
theorem rk{α:Type}{xs:List α}{i:Int}{v:α}(h:gF xs i=some v):∃ j,seqIndex? i xs.length=some j/\xs[j]?=some v/\j < xs.length/\-(xs.length:Int)<=i/\i < xs.length:=by
 unfold gF at h;cases e:yL xs.length i with
 | none=>rw[e]at h;cases h
 | some j =>
  rw[e]at h;obtain⟨h1,h2,h3,h4⟩:=yM e;exact⟨j,h1,h,h2,h3,h4⟩
theorem aX{α:Type}{xs:List α}{j:Nat}{v:α}(h:xs[j]?=some v):gF xs (j:Int)=some v:=by
 have hj:j < xs.length:=(aan.mp h).1;have e:yL xs.length (j:Int)=some j:=by
  unfold yL;rw[aaN (by omega),aaN (by omega)];simp
 unfold gF;rw[e];exact h
def yN(b:Expr):Prop:=∀ o i,subscripted b false o i=operate [o,i] (getItem o i)
def Hb(X:Cx)(r:R2):Prop :=
 ∀(value slice:Expr) (pins:yp) (s:Shared) (σ:St) (H:Hp) (x y:V) (v u:Value) (Q:VK),Inv X pins σ H s->RelV x v->RelV y u->r x y H Q ->
  subscripted slice false v u=operate [v,u] (getItem v u)->wpAny (model X.prog X.w) X.A (subscriptTail value slice v u) (EP X pins σ Q) X.xe s
def XD(X:Cx)(id:String)(r:V->List V->Hp->VK->Prop):Prop :=
 ∀(pins:yp) (s:Shared) (σ:St) (H:Hp) (x:V) (xs:List V) (v:Value) (us:wf) (Q:VK),Inv X pins σ H s->RelV x v->Vals xs us->r x xs H Q ->
  wpAny (model X.prog X.w) X.A (call (.builtin id) (v::us)) (EP X pins σ Q) X.xe s
section
variable {a b:Expr}{ta tb:TE}{pos:Pos}
theorem Hb.or{r r':R2}(h:Hb X r)(h':Hb X r'):Hb X (fun x y H Q=>r x y H Q\/r' x y H Q):=by
 intro value slice pins s σ H x y v u Q I rx ry q hs;rcases q with q | q
 ·exact h value slice pins s σ H x y v u Q I rx ry q hs
 ·exact h' value slice pins s σ H x y v u Q I rx ry q hs
theorem PM{r:R2}(hr:Hb X r)(ha:PE X a ta)(hb:PE X b tb)(hs:yN b):PE X (.Subscript a b pos) (B1 r ta tb):=by
 intro pins s σ H Q I h;exact Subscript_ (LF ha hb I h fun v u s2 x y H2 I2 rx ry q=>hr a b pins s2 σ H2 x y v u Q I2 rx ry q (hs _ _))
def PN(K:zn):R2:=fun x y H Q=>∃ p xs i v,x=.ref p/\y=.int i/\eE K H p xs/\gF xs i=some v/\Q v H
def PQ(K:zn):R2:=fun x y H Q=>∃ p xs i v,x=.ref p/\y=.int i/\fg K H p xs/\gF xs i=some v/\Q v H
def PR:R2:=fun x y H Q=>∃ z i c,x=.str z/\y=.int i/\z.length<=sizeLine/\gF z.cps.toList i=some c/\Q (.str ⟨#[c]⟩) H
theorem Hc:Hb X (PN X.K):=by
 intro value slice pins s σ H x y v u Q I rx ry h hs;obtain⟨p,xs,i,z,rfl,rfl,hq,he,q⟩:=h;cases rx;obtain⟨t,rfl⟩:=ry;obtain⟨aQ,r,pl,hz⟩:=I.list hq;obtain⟨j,h1,h2,h3,h4,h5⟩:=rk he;obtain⟨w,ew,Hd⟩:=r.get h2;have hl:=r.length;have hn:=mW;have fin:EP X pins σ Q w s:=⟨z,H,I,Hd,q⟩
 by_cases h0:0<=i
 ·have hj:i.toNat=j:=by
   rw[seqIndex_of h0 h5]at h1;exact aa5 h1
  exact item_listR pl.isList h0 (by omega) (by rw[hj];simpa using ew) fin hs
 ·have hj:(i+(aQ.toArray.size:Int)).toNat=j:=by
   rw[seqIndex_neg (by omega) h4]at h1;rw[aaE,<- hl];exact aa5 h1
  exact subscriptTail_builtinR (x:=w) pl.isList.typeIs slot_list_getitem.lookup
   (wpAny_getItem_list_neg (Q:=fun r s'=>r=w/\EP X pins σ Q r s') pl.isList (by omega) (by rw[aaE]<;>omega) (by omega) (by rw[hj];simpa using ew) ⟨rfl,fin⟩) hs
theorem LZ:Hb X (PQ X.K):=by
 intro value slice pins s σ H x y v u Q I rx ry h hs;obtain⟨p,xs,i,z,rfl,rfl,hq,he,q⟩:=h;cases rx;obtain⟨t,rfl⟩:=ry;obtain⟨aQ,r,pl,hz⟩:=I.tuple hq;obtain⟨j,h1,h2,h3,h4,h5⟩:=rk he;obtain⟨w,ew,Hd⟩:=r.get h2;have hl:=r.length;have hn:=mW;have fin:EP X pins σ Q w s:=⟨z,H,I,Hd,q⟩;exact subscriptTail_builtinR (x:=w) pl.typeIs acf.lookup
  (getItem_tuple (j:=j) (Q:=fun r s'=>r=w/\EP X pins σ Q r s') pl (by omega) (by omega) (by rw[aaE,<- hl];exact h1) (by simpa using ew) ⟨rfl,fin⟩) hs
theorem L0:Hb X PR:=by
 intro value slice pins s σ H x y v u Q I rx ry h hs;obtain⟨z,i,c,rfl,rfl,hz,he,q⟩:=h;obtain⟨t,rfl⟩:=rx;obtain⟨t',rfl⟩:=ry;obtain⟨j,h1,h2,h3,h4,h5⟩:=rk he;have hl:z.cps.toList.length=z.length:=by simp[Str.length]
 rw[hl]at h1 h4 h5;have hn:=mW;exact tail_any (typeIs_str s z t) slot_str_getitem.lookup (getItem_str (c:=c) (by
  have e1:decide (i < -(2 ^ 63:Int))=false:=aaF (by omega);have e2:decide (i ≥ 2 ^ 63)=false:=aaF (by omega);rw[e1,e2,Bool.or_false]) (by rw[h1];simpa using h2) ⟨.str ⟨#[c]⟩,H,I.tok _,⟨_,rfl⟩,q⟩) hs
def Tc(K:zn):R2:=fun x y H Q=>PN K x y H Q\/PQ K x y H Q\/PR x y H Q
theorem L1:Hb X (Tc X.K):=Hc.or (LZ.or L0)
theorem wN(aQ:wf)(n j:Nat)(u:Value):Obj.mapSeq (·.setIfInBounds j u) { cls:=.type "list",data:=.seq aQ.toArray n }={ cls:=.type "list",data:=.seq (aQ.set j u).toArray n }:=by
 simp[Obj.mapSeq]
theorem Inv.lst{pins:yp}{σ:St}{H:Hp}{s:Shared}{p:Addr}{xs:List V}(I:Inv X pins σ H s)(h:H p=some (.lst xs)) :
  ∃(aQ:wf) (n:Nat),Vals xs aQ/\s.heap.get? p=some { cls:=.type "list",data:=.seq aQ.toArray n }/\xs.length<=sizeLine:=by
 obtain⟨z,aQ,n,r,e⟩:=I.ck p _ h;exact⟨aQ,n,r,e,z⟩
theorem Inv.L3{σ:St}{H:Hp}{p:Addr}{ys:List V}{its':wf}{n n':Nat}{f:Obj->Obj}(I:Inv X pins σ H s)(h:H p=some (.lst xs))(ho:s.heap.get? p=some { cls:=.type "list",data:=.seq aQ.toArray n })(hf:f { cls:=.type "list",data:=.seq aQ.toArray n }={ cls:=.type "list",data:=.seq its'.toArray n' })(r:Vals ys its')(hz:ys.length<=sizeLine)(t:Nat) :
  Inv X pins σ (upd H p (.lst ys)) { s with heap:=s.heap.update p f,toks:=t }:=by
 have e:(s.heap.update p f).get? p=some { cls:=.type "list",data:=.seq its'.toArray n' }:=by
  rw[abh f ho (by rw[hf]<;>rfl),hf]
 refine I.write (x:=p) (e:=p) (by rw[h];trivial) (.inl rfl) (fun b u hb q=>(abw _ _ (abi hb)).trans q) ⟨_,e⟩ ?_;exact⟨hz,its',n',r,e⟩
def JD:V->V->V->Hp->(Hp->Prop)->Prop:=fun o i v H Q=>∃ p xs k j,o=.ref p/\i=.int k/\H p=some (.lst xs)/\yL xs.length k=some j/\Q (upd H p (.lst (xs.set j v)))
theorem set_list:Ls X JD:=by
 intro pins s σ H o i v ov iv u Q I ro ri rv h;obtain⟨p,xs,k,j,rfl,rfl,hp,hj,q⟩:=h;cases ro;obtain⟨t,rfl⟩:=ri;obtain⟨aQ,n,r,ho,hz⟩:=I.lst hp;obtain⟨h1,h2,h3,h4⟩:=yM hj;have hl:=r.length;have hn:=mW;have I':Inv X pins σ (upd H p (.lst (xs.set j v))) { s with heap:=s.heap.update p (Obj.mapSeq (·.setIfInBounds j u)) } :=
  I.L3 hp ho (wN aQ n j u) (r.set rv j) (by rw[adW];exact hz) s.toks
 by_cases h0:0<=k
 ·have hk:k.toNat=j:=by
   rw[seqIndex_of h0 h4]at h1;exact aa5 h1
  exact PySem.W.ki_setAt ho h0 (by omega) (by rw[aaE,<- hl];exact h4) (by rw[hk];exact⟨_,I',q⟩)
 ·have hk:(k+(aQ.toArray.size:Int)).toNat=j:=by
   rw[seqIndex_neg (by omega) h3]at h1;rw[aaE,<- hl];exact aa5 h1
  exact PySem.W.ki_setBack ho (by omega) (by rw[aaE,<- hl];exact h3) (by omega) (by rw[hk];exact⟨_,I',q⟩)
theorem rq(lo hi:v0)(n:Nat):(sliceBounds lo hi none n).1=((HT.dN n 0 lo:Nat):Int)/\(sliceBounds lo hi none n).2.1=((HT.dN n n hi:Nat):Int)/\(sliceBounds lo hi none n).2.2=1:=by
 refine⟨?_,?_,rfl⟩
 ·cases lo with
  | none=>simp[sliceBounds,HT.dN]
  | some i =>
   simp only[sliceBounds,HT.dN,Option.getD_none,show(1:Int) > 0 by decide,acW]
   by_cases h:i < 0
   ·simp only[h,acW]<;>omega
   ·simp only[h,ady]<;>omega
 ·cases hi with
  | none=>simp[sliceBounds,HT.dN]
  | some i =>
   simp only[sliceBounds,HT.dN,Option.getD_none,show(1:Int) > 0 by decide,acW]
   by_cases h:i < 0
   ·simp only[h,acW]<;>omega
   ·simp only[h,ady]<;>omega
theorem pC(aQ:wf)(lo hi:v0):slicePick aQ.toArray lo hi none=((aQ.drop (HT.dN aQ.length 0 lo)).take (HT.dN aQ.length aQ.length hi - HT.dN aQ.length 0 lo)).toArray:=by
 obtain⟨h1,h2,h3⟩:=rq lo hi aQ.toArray.size;unfold slicePick;rw[h1,h2,h3];simp only[sliceRange_one,pick_run,aaE]<;>rfl
def PU(K:zn):V->v0->v0->Hp->VK->Prop:=fun x lo hi H Q=>∃ a xs,x=.ref a/\eE K H a xs/\∀ p,H p=none->Q (.ref p) (upd H p (.lst (nv xs lo hi)))
theorem gR:Tb X (PU X.K):=by
 intro pins s σ H x v vl vu lo hi sl Q I rx hs pl pu h;obtain⟨a,xs,rfl,hx,q⟩:=h;cases rx;obtain⟨aQ,r,ht,hz⟩:=I.list hx;have hlen:=r.length;refine⟨"list",_,slot_list_getitem.lookup,ht.isList.typeIs,?_⟩;refine wpAny_getItem_list_slice ht.isList hs pl pu .none (by simp) ?_ (by rw[aaE]<;>omega);rw[pC,<- hlen];refine⟨.ref s.heap.objs.size,_,I.laid (t':=s.toks) (o:=.lst (nv xs lo hi)) (fun b ob q=>aam _ q) (aar _) ?_,rfl,q _ (I.ck.fresh (aar _))⟩;exact⟨aaA (lH xs lo hi) hz,_,0,(r.drop (HT.dN xs.length 0 lo)).take (HT.dN xs.length xs.length hi - HT.dN xs.length 0 lo),aaz _ rfl⟩
def dq:V->Bool
 | .cS=>true
 | .bl _=>true
 | .int _=>true
 | .str _=>true
 | _=>false
def He:V->V->Bool
 | .cS,.cS=>true
 | .bl a,.bl b=>a == b
 | .bl a,.int b=>(if a then 1 else 0) == b
 | .int a,.bl b=>a == (if b then 1 else 0)
 | .int a,.int b=>a == b
 | .str a,.str b=>a == b
 | _,_=>false
theorem L4{y x:V}{u:Value}(ry:RelV y u)(rx:RelV x v)(fy:dq y=true)(fx:dq x=true):SeqAt.EqAt A s u v (He y x):=by
 cases y with
 | cS =>
  cases ry;cases x with
  | cS=>cases rx;exact SeqAt.EqAt.same _
  | bl b=>cases rx;exact SeqAt.EqAt.none_bool b
  | int b=>obtain⟨t,rfl⟩:=rx;exact SeqAt.EqAt.none_int b t
  | str b=>obtain⟨t,rfl⟩:=rx;exact SeqAt.EqAt.none_str b t
  | _=>exact absurd (show false=true from fx) aaC
 | bl a =>
  cases ry;cases x with
  | cS=>cases rx;exact SeqAt.EqAt.bool_none a
  | bl b=>cases rx;exact SeqAt.EqAt.bool_bool a b
  | int b=>obtain⟨t,rfl⟩:=rx;exact SeqAt.EqAt.bool_int a b t
  | str b=>obtain⟨t,rfl⟩:=rx;exact SeqAt.EqAt.bool_str a b t
  | _=>exact absurd (show false=true from fx) aaC
 | int a =>
  obtain⟨t',rfl⟩:=ry;cases x with
  | cS=>cases rx;exact SeqAt.EqAt.int_none a t'
  | bl b=>cases rx;exact SeqAt.EqAt.int_bool a t' b
  | int b=>obtain⟨t,rfl⟩:=rx;exact SeqAt.EqAt.int_int a t' b t
  | str b=>obtain⟨t,rfl⟩:=rx;exact SeqAt.EqAt.int_str a t' b t
  | _=>exact absurd (show false=true from fx) aaC
 | str a =>
  obtain⟨t',rfl⟩:=ry;cases x with
  | cS=>cases rx;exact SeqAt.EqAt.str_none a t'
  | bl b=>cases rx;exact SeqAt.EqAt.str_bool a t' b
  | int b=>obtain⟨t,rfl⟩:=rx;exact SeqAt.EqAt.str_int a t' b t
  | str b=>obtain⟨t,rfl⟩:=rx;exact SeqAt.EqAt.str_str a t' b t
  | _=>exact absurd (show false=true from fx) aaC
 | _=>exact absurd (show false=true from fy) aaC
noncomputable def wO(x:V)(u:Value):Bool:=match u with
 | .none=>He .cS x
 | .bool b=>He (.bl b) x
 | .int i _=>He (.int i) x
 | .str z _=>He (.str z) x
 | _=>false
theorem CP{x y:V}{u:Value}(r:RelV y u)(f:dq y=true):wO x u=He y x:=by
 cases y with
 | cS=>cases r;rfl
 | bl b=>cases r;rfl
 | int i=>obtain⟨t,rfl⟩:=r;rfl
 | str z=>obtain⟨t,rfl⟩:=r;rfl
 | _=>exact absurd (show false=true from f) aaC
theorem jG{x:V}:∀{xs:List V} {us:wf},Vals xs us->xs.all dq=true->us.any (wO x)=xs.any fun y=>He y x
 | _,_,.nil,_=>rfl
 | y::xs,u::us,.cons r t,f=>by
  rw[aba,aaK]at f;rw[acj,acj,CP r f.1,jG t f.2]
theorem iI{A:sK}{s:Shared}{x:V}{v:Value}(rx:RelV x v)(fx:dq x=true):∀{xs:List V} {us:wf},Vals xs us->xs.all dq=true->∀ u∈us,SeqAt.EqAt A s u v (wO x u)
 | _,_,.nil,_=>fun u hu=>by cases hu
 | y::xs,u::us,.cons r t,f=>fun u' hu=>by
  rw[aba,aaK]at f;rcases aat.mp hu with rfl | hu
  ·rw[CP r f.1];exact L4 r rx f.1 fx
  ·exact iI rx fx t f.2 u' hu
def Td(x:V)(xs:List V):Bool:=xs.any fun y=>He y x
def Uy(K:zn)(neg:Bool):R2:=fun x y H Q=>∃ p xs,y=.ref p/\(eE K H p xs\/fg K H p xs)/\dq x=true/\xs.all dq=true/\Q (.bl (if neg then !Td x xs else Td x xs)) H
theorem AF:gE X (compareOp .In) (Uy X.K false):=by
 intro pins s σ H x y v u Q I rx ry h;obtain⟨p,xs,rfl,hq,fx,fs,q⟩:=h;cases ry;rcases hq with hq | hq
 ·obtain⟨aQ,r,pl,hz⟩:=I.list hq;refine SeqAt.in_listAt (wO x) pl.isList (fun w hw=>iI rx fx r fs w (by simpa using hw)) ⟨.bl _,H,I,rfl,?_⟩;rw[show aQ.toArray.any (wO x)=aQ.any (wO x) by simp,jG r fs];exact q
 ·obtain⟨aQ,r,pl,hz⟩:=I.tuple hq;refine SeqAt.in_tupleAt (wO x) pl (fun w hw=>iI rx fx r fs w (by simpa using hw)) ⟨.bl _,H,I,rfl,?_⟩;rw[show aQ.toArray.any (wO x)=aQ.any (wO x) by simp,jG r fs];exact q
theorem rA:gE X (compareOp .NotIn) (Uy X.K true):=by
 intro pins s σ H x y v u Q I rx ry h;obtain⟨p,xs,rfl,hq,fx,fs,q⟩:=h;cases ry;rcases hq with hq | hq
 ·obtain⟨aQ,r,pl,hz⟩:=I.list hq;refine SeqAt.notIn_listAt (wO x) pl.isList (fun w hw=>iI rx fx r fs w (by simpa using hw)) ⟨.bl _,H,I,rfl,?_⟩;rw[show aQ.toArray.any (wO x)=aQ.any (wO x) by simp,jG r fs];exact q
 ·obtain⟨aQ,r,pl,hz⟩:=I.tuple hq;refine SeqAt.notIn_tupleAt (wO x) pl (fun w hw=>iI rx fx r fs w (by simpa using hw)) ⟨.bl _,H,I,rfl,?_⟩;rw[show aQ.toArray.any (wO x)=aQ.any (wO x) by simp,jG r fs];exact q
theorem rB:dG X (.builtin "len") (fun xs H Q=>∃ p ys,xs=[.ref p]/\(eE X.K H p ys\/fg X.K H p ys)/\Q (.int ys.length) H):=by
 intro pins s σ H xs us Q I r h;obtain⟨p,ys,rfl,hq,q⟩:=h;obtain⟨u,rfl,rx⟩:=vals1 r;cases rx;have hn:=mW;rcases hq with hq | hq
 ·obtain⟨aQ,r',pl,hz⟩:=I.list hq;have hlen:=r'.length;exact Calls.call_len_list pl.isList (by simp only[aaE]<;>omega) ⟨.int ys.length,H,I.tok _,⟨s.toks+1,by rw[aaE,hlen]⟩,q⟩
 ·obtain⟨aQ,r',pl,hz⟩:=I.tuple hq;have hlen:=r'.length;exact len_tuple pl (by simp only[aaE]<;>omega) ⟨.int ys.length,H,I.tok _,⟨s.toks+1,by rw[aaE,hlen]⟩,q⟩
theorem rC:dG X (.type "list") (fun xs H Q=>∃ p ys,xs=[.ref p]/\(eE X.K H p ys\/fg X.K H p ys)/\∀ l,H l=none->Q (.ref l) (upd H l (.lst ys))):=by
 intro pins s σ H xs us Q I r h;obtain⟨p,ys,rfl,hq,q⟩:=h;obtain⟨u,rfl,rx⟩:=vals1 r;cases rx;have fin:∀(aQ:wf),Vals ys aQ->ys.length<=sizeLine->∀(h':Heap) (c':Nat),(∀ b o',s.heap.get? b=some o'->h'.get? b=some o') ->
   h'.get? s.heap.objs.size=some { cls:=.type "list",dict:=none,data:=.seq aQ.toArray c',slots:=#[] }->EP X pins σ Q (.ref s.heap.objs.size) { s with heap:=h' }:=fun aQ r' hz h' c' kp e =>
  ⟨.ref s.heap.objs.size,_,I.laid (t':=s.toks) kp (aar _) (show cK X.prog X.w _ h' _ (.lst ys) from ⟨hz,aQ,c',r',e⟩),rfl,q _ (I.ck.fresh (aar _))⟩
 rcases hq with hq | hq
 ·obtain⟨aQ,r',pl,hz⟩:=I.list hq;have hlen:=r'.length;obtain⟨o,ho,hc,n,hd⟩:=pl.isList;exact call_list_seq p (.inl rfl) ho hc hd (fun h' c' kp e=>fin aQ r' hz h' c' kp e) (by simp only[aaE]<;>omega)
 ·obtain⟨aQ,r',pl,hz⟩:=I.tuple hq;have hlen:=r'.length;obtain⟨o,ho,hc,n,hd⟩:=pl;exact call_list_seq p (.inr rfl) ho hc hd (fun h' c' kp e=>fin aQ r' hz h' c' kp e) (by simp only[aaE]<;>omega)
theorem pD:dG X (.type "tuple") (fun xs H Q=>∃ p ys,xs=[.ref p]/\((eE X.K H p ys/\∀ l,H l=none->Q (.ref l) (upd H l (.tup ys)))\/(fg X.K H p ys/\Q (.ref p) H))):=by
 intro pins s σ H xs us Q I r h;obtain⟨p,ys,rfl,h⟩:=h;obtain⟨u,rfl,rx⟩:=vals1 r;cases rx;rcases h with⟨hq,q⟩ | ⟨hq,q⟩
 ·obtain⟨aQ,r',pl,hz⟩:=I.list hq;have hlen:=r'.length;refine call_tuple_list pl.isList (fun h' kp=>?_) (by simp only[aaE]<;>omega);have I1:Inv X pins σ H { s with heap:=h' }:=I.kept (t':=s.toks) kp;have I2:Inv X pins σ (upd H h'.objs.size (.tup ys)) { s with heap:=h'.push { cls:=.type "tuple",data:=.seq aQ.toArray } } :=
   I1.laid (t':=s.toks) (fun b o e=>aam _ e) (aar _) (show cK X.prog X.w _ _ _ (.tup ys) from ⟨hz,aQ,r',IsTup.new _ _⟩)
  exact⟨.ref h'.objs.size,_,I2,rfl,q _ (I1.ck.fresh (aar _))⟩
 ·obtain⟨aQ,r',pl,hz⟩:=I.tuple hq;exact call_tuple_same pl ⟨.ref p,H,I,rfl,q⟩
def Uz(K:zn)(T:String)(x:V)(H:Hp):Prop:=match x with
 | .str _=>T = "str"
 | .int _=>T = "int"
 | .ref p=>(T = "list"/\∃ xs,eE K H p xs)\/(T = "tuple"/\∃ o,K.lookup p=some o/\o.cls=.type "tuple"/\o.dict=none) \/
   (T = "dict"/\((∃ bO,H p=some (.dK bO))\/∃ bO,H p=some (.dT bO)))\/(T = "set"/\∃ S n,H p=some (.set S n))
 | _=>False
theorem L5{σ:St}{H:Hp}{T:String}{x:V}(I:Inv X pins σ H s)(r:RelV x v)(ty:Uz X.K T x H) :
  s.TypeIs v T/\∀ a,v=.ref a->∃ ob,s.heap.get? a=some ob/\ob.dict=none:=by
 cases x with
 | str z =>
  obtain⟨t,rfl⟩:=r;cases (show T = "str" from ty);exact⟨typeIs_str s z t,fun _ e=>nomatch e⟩
 | int i =>
  obtain⟨t,rfl⟩:=r;cases (show T = "int" from ty);exact⟨typeIs_int s i t,fun _ e=>nomatch e⟩
 | ref p =>
  cases r;rcases ty with⟨rfl,xs,hq⟩ | ⟨rfl,o,hk,hc,hd⟩ | ⟨rfl,hk⟩ | ⟨rfl,S,n,hk⟩
  ·obtain⟨aQ,_,pl,_⟩:=I.list hq;refine⟨pl.isList.typeIs,fun a e=>?_⟩;cases e;obtain⟨o,n,e,c,hd,_⟩:=pl;exact⟨o,e,hd⟩
  ·refine⟨⟨o,I.lC p o hk,hc⟩,fun a e=>?_⟩;cases e;exact⟨o,I.lC _ o hk,hd⟩
  ·have z:∃ o,s.heap.get? p=some o/\o.ExactDict:=by
    rcases hk with⟨bO,hk⟩ | ⟨bO,hk⟩
    ·obtain⟨_,_,_,_,o,_,_,e,ex,_⟩:=I.ck p _ hk;exact⟨o,e,ex⟩
    ·obtain⟨_,_,_,_,o,_,_,e,ex,_⟩:=I.ck p _ hk;exact⟨o,e,ex⟩
   obtain⟨o,e,ex⟩:=z;refine⟨⟨o,e,ex.1⟩,fun a e2=>?_⟩;cases e2;exact⟨o,e,ex.2.1⟩
  ·obtain⟨o,_,_,_,e,ex,_⟩:=I.ck p _ hk;refine⟨⟨o,e,ex.1⟩,fun a e2=>?_⟩;cases e2;exact⟨o,e,ex.2.1⟩
 | _=>exact False.elim ty
def UA(K:zn)(T:String)(r:V->List V->Hp->VK->Prop)(to:TE)(t:TA):TE:=fun σ H Q=>to σ H fun x H1=>Uz K T x H1/\t σ H1 fun xs H2=>r x xs H2 Q
variable {o e:Expr}{es:ut}{to:TE}{t:TA}{name:Str}{apos eY:Pos}{T id:String}{r:V->List V->Hp->VK->Prop}
theorem PV(pa:PlainAttrs T)(slot:Slot T name id)(UB:typeOf (.builtin id)=pure (.type "method_descriptor"))(hm:XD X id r)(ho:PE X o to)(ha:PA X (e::es) t)(CQ:autoParam (attributeBase o name X.env (eval o X.env)=eval o X.env) ra0)(L6:((backTo eY (starEach (e::es) X.env)).all (fun x=>!x.1)&&(backToKw eY (keywordEach [] X.env)).all (fun x=>x.1.isSome)
   && decide ((e::es).length+([]:List Keyword).length+(if([]:List Keyword).isEmpty then 0 else 1) < 30))=true:=by rfl)(CS:(apos.endLine == eY.line)=true:=by rfl)(hs:starEach (e::es) X.env=(false,eval e X.env)::starEach es X.env:=by rfl)(L7:(backTo eY (starEach es X.env)).any (·.1)=false:=by rfl) :
  PE X (.Call (.Attribute o name apos) (e::es) [] eY) (UA X.K T r to t):=by
 intro pins s σ H Q I h;refine wpAny_Call_method_late CQ L6 CS rfl (cP (ho pins s σ H _ I h) fun v s1 ⟨x,H1,I1,r1,ty,q1⟩=>?_);obtain⟨h1,h2⟩:=L5 I1 r1 ty;refine⟨T,id,pa,slot,UB,h1,h2,?_⟩;have hA:=ha eY pins s1 σ H1 _ I1 q1;rw[hs]at hA ⊢;refine Calls.callWith_builtin (by show(false||(backTo eY (starEach es X.env)).any (·.1))=false;rw[L7]<;>rfl) (Calls.evalArgs_plain ?_);exact cP hA fun us s2 ⟨vs,H2,I2,r2,q2⟩=>hm pins s2 σ H2 x vs v us Q I2 r1 r2 q2
end
def Te(X:Cx)(id:String)(r:V->List V->Hp->VK->Prop):Prop :=
 ∀(pins:yp) (s:Shared) (σ:St) (H:Hp) (x:V) (xs:List V) (v:Value) (us:wf) (Q:VK),Inv X pins σ H s->RelV x v->Vals xs us->r x xs H Q ->
  wpAny (model X.prog X.w) X.A (call (.builtin id) (v::us)) (EP X pins σ Q) X.xe s
theorem Vals.one:∀{x:V} {us:wf},Vals [x] us->∃ u,us=[u]/\RelV x u
 | _,_,.cons r .nil=>⟨_,rfl,r⟩
theorem Vals.two:∀{x y:V} {us:wf},Vals [x,y] us->∃ u v,us=[u,v]/\RelV x u/\RelV y v
 | _,_,_,.cons r (.cons q .nil)=>⟨_,_,rfl,r,q⟩
theorem Vals.eraseIdx:∀{xs:List V} {us:wf} (i:Nat),Vals xs us->Vals (xs.eraseIdx i) (us.eraseIdx i)
 | _,_,_,.nil=>.nil
 | _,_,0,.cons _ t=>t
 | _,_,i+1,.cons r t=>.cons r (Vals.eraseIdx i t)
theorem pX{α:Type}:∀(l:List α) (i:Nat),(l.eraseIdx i).length<=l.length
 | [],_=>aar _
 | _::_,0=>abM _
 | _::r,i+1=>Nat.succ_le_succ (pX r i)
section
variable {σ:St}{H:Hp}{l b:Addr}{ys zs:List V}
theorem Inv.L8{its':wf}{n:Nat}{f:Array Value->Array Value}{t':Nat}(I:Inv X pins σ H s)(hH:H l=some (.lst xs))(e:s.heap.get? l=some { cls:=.type "list",data:=.seq aQ.toArray n })(hf:f aQ.toArray=its'.toArray)(hv:Vals ys its')(hz:ys.length<=sizeLine) :
  Inv X pins σ (upd H l (.lst ys)) { s with heap:=s.heap.update l (Obj.mapSeq f),toks:=t' }:=by
 have q:=PySem.IsL.update e f;rw[hf]at q;refine I.write (x:=l) (e:=l) (by rw[hH];exact trivial) (.inl rfl) (fun b' u hb hu=>(abw s.heap (Obj.mapSeq f) (abi hb)).trans hu) ⟨_,q⟩ ?_;exact⟨hz,its',_,hv,q⟩
theorem Inv.UC{t':Nat}(I:Inv X pins σ H s)(hv:Vals ys aQ)(hz:ys.length<=sizeLine) :
  Inv X pins σ (upd H s.heap.objs.size (.lst ys)) { s with heap:=s.heap.push { cls:=.type "list",data:=.seq aQ.toArray },toks:=t' } :=
 I.laid (fun _ _ q=>aam _ q) (aar _) ⟨hz,aQ,0,hv,aaz _ rfl⟩
theorem Inv.fresh(I:Inv X pins σ H s):H s.heap.objs.size=none:=I.ck.fresh (aar _)
theorem Inv.CT(I:Inv X pins σ H s)(hH:H l=some (.lst xs)):xs.length<=sizeLine/\∃(aQ:wf) (n:Nat),Vals xs aQ/\xs.length=aQ.length/\s.heap.get? l=some { cls:=.type "list",data:=.seq aQ.toArray n }:=by
 obtain⟨z,aQ,n,r,e⟩:=I.ck l _ hH;exact⟨z,aQ,n,r,r.length,e⟩
end
def yO:V->List V->Hp->VK->Prop:=fun x vs H Q=>∃ l xs y,x=.ref l/\vs=[y]/\H l=some (.lst xs)/\xs.length < sizeLine/\Q .cS (upd H l (.lst (xs++[y])))
theorem bQ:Te X "list.append" yO:=by
 intro pins s σ H x vs v us Q I rx rv h;obtain⟨l,xs,y,rfl,rfl,hH,hz,q⟩:=h;cases rx;obtain⟨u,rfl,ru⟩:=rv.one;obtain⟨z,aQ,n,r,hl,e⟩:=I.CT hH;refine call_meets aaQ ⟨_,e,rfl⟩ F.entry_list_append (F.args_list_append_2 _ _) (PySem.list_append l aQ.toArray n u (by rw[aaE];omega)) ⟨e,?_⟩;refine⟨.cS,_,I.L8 (its':=aQ++[u]) hH e (by simp) (r.append (.cons ru .nil)) ?_,rfl,q⟩;rw[aaP,acv];omega
def CU:V->List V->Hp->VK->Prop:=fun x vs H Q=>∃ l xs i k y,x=.ref l/\vs=[.int i]/\H l=some (.lst xs)/\-(2 ^ 63)<=i/\i < 2 ^ 63/\seqIndex? i xs.length=some k/\xs[k]?=some y/\Q y (upd H l (.lst (xs.eraseIdx k)))
theorem CV:Te X "list.pop" CU:=by
 intro pins s σ H x vs v us Q I rx rv h;obtain⟨l,xs,i,k,y,rfl,rfl,hH,h1,h2,hk,hy,q⟩:=h;cases rx;obtain⟨u,rfl,ru⟩:=rv.one;obtain⟨t,rfl⟩:=ru;obtain⟨z,aQ,n,r,hl,e⟩:=I.CT hH;obtain⟨w,hw,Hd⟩:=r.get hy;refine call_meets F.slot_list_pop ⟨_,e,rfl⟩ F.entry_list_pop (F.args_list_pop_2 _ _)
  (MeetsSeq.list_pop_at l aQ.toArray n i t k w (fitsIndex_both h1 h2) (by rw[aaE,<- hl];exact hk) (by rw[<- abO];exact hw) (by rw[aaE];omega)) ⟨e,?_⟩
 refine⟨y,_,I.L8 (its':=aQ.eraseIdx k) hH e ?_ (r.eraseIdx k) ?_,Hd,q⟩
 ·show aQ.toArray.eraseIdxIfInBounds k=(aQ.eraseIdx k).toArray;rw[List.eraseIdxIfInBounds_toArray]
 ·have:=pX xs k;omega
def PX:R2:=fun x y H Q=>∃ l b xs zs,x=.ref l/\y=.ref b/\H l=some (.lst xs)/\H b=some (.lst zs)/\xs.length+zs.length<=sizeLine/\∀ p,H p=none->Q (.ref p) (upd H p (.lst (xs++zs)))
theorem jt:gE X (binaryOp .Add) PX:=by
 intro pins s σ H x y v u Q I rx ry h;obtain⟨l,b,xs,zs,rfl,rfl,hH,hB,hz,q⟩:=h;cases rx;cases ry;obtain⟨z,aQ,n,r,hl,e⟩:=I.CT hH;obtain⟨z2,wQ,n2,r2,pY,e2⟩:=I.CT hB;refine PySem.P.add_list e e2 ?_ (by rw[aaE,aaE];omega);have ea:aQ.toArray++wQ.toArray=(aQ++wQ).toArray:=by simp
 rw[ea];exact⟨.ref _,_,I.UC (t':=s.toks) (r.append r2) (by rw[aaP];omega),rfl,q _ I.fresh⟩
section
variable {prog:sB}{w:World}{E:xz}
set_option maxRecDepth 100000 in
end
end L2
namespace Att
open PySem PySem.W PySem.Calls PyProof.Rows
theorem lZ{P:Params}{h:Heap}:∀(ns:wn) (vs:wf),WellAll P h vs (ns.map WData.int)->IntsAre vs ns:=by
 intro ns;induction ns with
 | nil =>
  intro vs w;rw[List.map_nil]at w;cases w;exact .nil
 | cons n ns ih =>
  intro vs w;rw[aaZ]at w;cases w with
  | cons a b =>
   cases a;exact .cons _ _ (ih _ b)
theorem AG{l:OpenLaw}{n:Nat}(hn:l.most=some n){P:Params}{h:Heap}{args:List WData}{vals:wf}(Hf:l.row.toRowW.claim.pre args=true)(JE:WellAll P h vals args) :
  ∃ a vs ns,vals=[Value.ref a]/\args=[WData.list (ns.map WData.int)]/\h.get? a=some { cls:=.type "list",data:=.seq vs.toArray }/\IntsAre vs ns/\ns.length<=n:=by
 have ZH:WShape.hasAll [] args [.list .int]=true:=(pre_splitW Hf).1;have hc:l.pre.holds [] { args:=args }=true:=(pre_splitW Hf).2;obtain⟨d,r,rfl,h1,h2⟩:=hasAllW_cons ZH;obtain rfl:=hasAllW_nil h2;obtain⟨xs,rfl,h3⟩:=hasW_list h1;obtain⟨ns,rfl⟩:=items_int h3;have hlen:ns.length<=n:=by
  unfold OpenLaw.pre at hc;have h4:(WTm.not (.lt (.lit (.int (n:Int))) (.len (.arg 0)))).holds [] { args:=[.list (ns.map .int)] }=true:=by
   have h4:=(holds_andW hc).1;rw[hn]at h4;exact h4
  have h5:=condW_of h4 (w_not (w_lt w_lit (w_len_list (w_arg rfl))));rw[aal]at h5;refine Nat.le_of_not_lt fun q=>?_;have q':(n:Int) < ((ns.length:Nat):Int):=by omega
  first
   | (rw[aaM q']at h5;exact absurd h5 (by decide))
   | (simp at h5;omega)
 cases JE with
 | cons w1 w2 =>
  cases w2;cases w1 with
  | list ho pE=>exact⟨_,_,ns,rfl,rfl,ho,lZ ns _ pE,hlen⟩
theorem AH(l:OpenLaw)(args:List WData):l.row.toRowW.claim.post args (.bool true) args=true :=
 postW_of (r:=l.row.toRowW) (X:=(true == true))
  (show WShape.has [] (.bool true) .bool=true by first | rfl | decide | simp[WShape.has,WShape.arms,WShape.armsAll])
  (show(WTm.eq .res (.lit (.bool true))).value [] { args:=args,res:=some (.bool true),after:=args }=some (.bool (true == true)) from w_eq_bool (w_res rfl) w_lit) rfl
theorem uk{l:OpenLaw}{n:Nat}{q:sB}{loose:wv}{XP:(Str->wP)->Heap->Prop}{YP:World->Heap->Prop}{d:DefRec}(hn:l.most=some n)(PY:d.params.defaults=[])(call:∀(w:World) (a9 bG:Shared) (mg mb:xL) (fa:Addr) (o:Obj) (pm cd doc:Value) (a:Addr) (vs:wf) (ns:wn),
   Ground q loose [] XP w a9 mg mb bG.heap->YP w bG.heap ->
   bG.heap.get? fa=some o->o.data=.func (docDef d.name d.params d.body d.scope pm cd doc)->bG.heap.CodeRec cd d.name->mg d.name=some (.ref fa) ->
   bG.heap.get? a=some { cls:=.type "list",data:=.seq vs.toArray }->IntsAre vs ns->ns.length<=n->bG.gens=#[] ->
   codeAny (model l.prog w) callerA (.call (.ref fa) ⟨[.ref a],[]⟩) (fun r s'=>r=.ok (.ret (.bool true))/\OldK bG.heap s'.heap/\s'.os=bG.os/\AllBare s'.gens) bG) :
  WalkO q loose XP YP l.row.toRowW d [] (fun f vs=>PySem.call f vs):=by
 intro w a9 bG mg mb G Y fa o pm cd doc dV kV ho hd An hD PZ hg args vals as Hf ZI UD JE Tf;obtain rfl:dV=.none:=Dflts.none hD PY;obtain rfl:kV=.none:=Dflts.noKw hD;obtain⟨a,vs,ns,rfl,rfl,L9,hints,hlen⟩:=AG hn Hf JE;refine enter_call (acs (call w a9 bG mg mb fa o pm cd doc a vs ns G Y ho (fd_plain hd) An PZ L9 hints hlen hg) fun r s' hq=>?_);obtain⟨rfl,h2,h3,h4⟩:=hq;exact⟨.inl ⟨.bool true,.bool true,[],rfl,fun _=>rfl,.bool true,AH l _,fun _=>⟨List.Pairwise.nil,fun _ hm=>(nomatch hm)⟩⟩,h2,h3,h4⟩
end Att
namespace L2
open PySem PySem.Spec PyProof.Rows
variable {fd:wT}{x:Str}
theorem pZ:∀{vs:wf} {ns:wn},IntsAre vs ns->Vals (ns.map V.int) vs
 | _,_,.nil=>.nil
 | _,_,.cons n t h=>.cons ⟨t,rfl⟩ (pZ h)
def Ma(H:Hp):Prop:=∀ b,H b=none\/∃ o xs,H b=some (.ku o (.lst xs))
theorem CW{P:sB}{w:World}{K:zn}{mg mb:xL}{CX:AB}{k:Nat}{fa a:Addr}{sp:Sp}{bG:Shared}{vs:wf}{ns:wn}(KX:K.In bG.heap)(OQ:bG.heap.Ns mainGlobals mg)(hb:bG.heap.Ns builtinsNs mb)(ZJ:∀ x:Str,x ≠ "__name__"->mb x=bootBuiltins x)(UE:bG.heap.NoLimit)(hg:bG.gens=#[])(ha:bG.heap.get? a=some { cls:=.type "list",data:=.seq vs.toArray })(hi:IntsAre vs ns)(hl:ns.length<=sizeLine)(hr:cT k callerA)(F:∀ base:Heap,K.In base->base.Ns mainGlobals mg->ba P w K mg base CX k fa fd [x] sp)(P0:∀(s:Shared) (u:Value),BindsTo s fd ⟨[u],[]⟩ [(x,u)])(pB:∀ H:Hp,Ma H->eE K H a (ns.map V.int)->sp [.ref a] H (fun v _=>v=.bl true) fun _ _ _=>False)(UG:∀ H e s',CX [] H bG (fun _ _ _=>False) e s'->False) :
  codeAny (model P w) callerA (.call (.ref fa) ⟨[.ref a],[]⟩) (fun r s'=>r=.ok (.ret (.bool true))/\OldK bG.heap s'.heap/\s'.os=bG.os/\AllBare s'.gens) bG:=by
 have rv:=pZ hi;have UH:=hi.length
 -- from an abstract heap in XE nothing but ON Mb may be tracked
 have core:∀ H:Hp,Ma H->eE K H a (ns.map V.int)->eF P w H bG.heap->(∀ b,H b≠none->b=a)->(H a≠none->K.lookup a=none) ->
   codeAny (model P w) callerA (.call (.ref fa) ⟨[.ref a],[]⟩) (fun r s'=>r=.ok (.ret (.bool true))/\OldK bG.heap s'.heap/\s'.os=bG.os/\AllBare s'.gens) bG:=by
  intro H hO hS ck hA hK;have yP:∀{b:Addr} {o:Obj},bG.heap.get? b=some o->H b=none->(qU bG.heap H).get? b=some o:=fun e n=>B9 e n;have PF:∀{b:Addr} {o:Obj} {es:Array DictEntry} {ep:Nat},bG.heap.get? b=some o->o.data=.dict es ep->H b=none:=fun{b o es ep} e d=>by
   cases q:H b with
   | none=>rfl
   | some u =>
    have e':b=a:=hA b (by rw[q];simp);subst e';rw[ha]at e;cases e;have d':Data.seq vs.toArray _=Data.dict es ep:=d;cases d'
  have Tg:∀{b:Addr} {m:xL},bG.heap.Ns b m->(qU bG.heap H).Ns b m:=fun{b m} ⟨o,es,ep,e,d,r⟩=>⟨o,es,ep,yP e (PF e d),d,r⟩;have XF:K.In (qU bG.heap H):=fun b o e=>yP (KX b o e) (by
   cases q:H b with
   | none=>rfl
   | some u =>
    have e':b=a:=hA b (by rw[q];simp);subst e';rw[hK (by rw[q];simp)]at e;cases e)
  have hM:Mod K mg (qU bG.heap H):=⟨XF,Tg OQ,⟨mb,Tg hb,ZJ⟩,let ⟨mc,h1,h2⟩:=UE;⟨mc,Tg h1,h2⟩⟩;have e0:wH P w K mg (qU bG.heap H) callerA [] bG H:=⟨rfl,hM,fun b o e=>GL e,acg (Al _ _),trivial,fun b hb=>absurd (show b∈([]:ww) from hb) (by simp),ck,.of_eq hg⟩;refine acs ((F _ XF (Tg OQ)).run callerA [] bG H ⟨[.ref a],[]⟩ [.ref a] [.ref a] _ _ hr e0 (P0 bG (.ref a)) (.cons rfl .nil) (pB H hO hS)) fun r s' h=>?_;cases r with
  | error e=>exact(UG H e s' h).elim
  | ok fl =>
   cases fl with
   | next=>exact False.elim h
   | brk=>exact False.elim h
   | cont=>exact False.elim h
   | ret u =>
    obtain⟨v,H',os,bare,un,UI,r',q⟩:=h;have q':v=.bl true:=q;subst q';obtain rfl:u=Value.bool true:=r';refine⟨rfl,OldK.of_keep fun b o e=>?_,os,bare⟩;cases q:H b with
    | none=>exact un.keep b o e q (by intro z;exact absurd (show b∈([]:ww) from z) (by simp)) (by simp)
    | some u =>
     rcases hO b with z | ⟨ob,xs,z⟩
     ·rw[q]at z;cases z
     ·have z2:=un.px b ob _ z;obtain⟨e1,_⟩:=ck b _ z;obtain⟨e2,_⟩:=UI b _ z2;rw[e]at e1;cases e1;exact e2
 cases hk:K.lookup a with
 | some o =>
  -- ON Mb is one of ON P1 own objects
  have e:=KX a o hk;rw[ha]at e;cases e;refine core (fun _=>none) (fun _=>.inl rfl) (.inr ⟨_,vs.toArray,_,hk,rfl,rfl,rfl,by rw[aaE,UH];exact hl,by simpa using rv⟩) (fun b u z=>by have z':(none:Option HO)=some u:=z;cases z') (fun b z=>absurd rfl z) fun z=>absurd rfl z
 | none =>
  refine core (fun b=>if b=a then some (.ku { cls:=.type "list",data:=.seq vs.toArray } (.lst (ns.map V.int)))else none) (fun b=>?_) (.inl (.inr ⟨{ cls:=.type "list",data:=.seq vs.toArray },aaN rfl⟩)) (fun b u z=>?_) (fun b z=>?_) fun _=>hk
  ·by_cases hb:b=a
   ·exact .inr ⟨_,_,aaN hb⟩
   ·exact .inl (aaD hb)
  ·by_cases hb:b=a
   ·have z':=(aaN hb).symm.trans z;cases z';subst hb;exact⟨ha,by rw[aal];exact hl,vs,_,rv,ha⟩
   ·have z':=(aaD hb).symm.trans z;cases z'
  ·by_cases hb:b=a
   ·exact hb
   ·exact absurd (aaD hb) z
theorem Hg{l:PySem.W.OpenLaw}{n k:Nat}{q:sB}{loose:wv}{XP:(Str->wP)->Heap->Prop}{YP:World->Heap->Prop}{d:DefRec}{K:Params->zn}{CX:World->AB}{sp:World->Sp}(hn:l.most=some n)(Gx:n<=sizeLine)(PY:d.params.defaults=[])(hr:cT k callerA)(hY:∀(w:World) (h:Heap),YP w h->(K w.params).In h)(F:∀(w:World) (mg:xL) (fa:Addr) (h:Heap),(K w.params).In h->h.Ns mainGlobals mg->mg d.name=some (.ref fa) ->
   ∃ fd:wT,(∀(s:Shared) (u:Value),BindsTo s fd ⟨[u],[]⟩ [(x,u)]) /\
    ∀ base:Heap,(K w.params).In base->base.Ns mainGlobals mg->ba l.prog w (K w.params) mg base (CX w) k fa fd [x] (sp w))(pB:∀(w:World) (H:Hp) (a:Addr) (ns:wn),ns.length<=n->Ma H->eE (K w.params) H a (ns.map V.int)->sp w [.ref a] H (fun v _=>v=.bl true) fun _ _ _=>False)(UG:∀(w:World) (H:Hp) (s:Shared) (e:Value) (s':Shared),CX w [] H s (fun _ _ _=>False) e s'->False) :
  PySem.W.WalkO q loose XP YP l.row.toRowW d [] (fun f vs=>PySem.call f vs):=by
 refine Att.uk hn PY fun w a9 bG mg mb fa o pm cd doc a vs ns G Y ho hd An PZ L9 hints hlen hg=>?_;have KX:=hY w _ Y;obtain⟨fd,hb,hF⟩:=F w mg fa _ KX G.T.g PZ;exact CW KX G.T.g G.T.b G.T.builtins G.T.nolimit hg L9 hints (aaA hlen Gx) hr hF hb (fun H hO hS=>pB w H a ns hlen hO hS) fun H e s'=>UG w H bG e s'
abbrev cU:AB:=fun _ _ _ _ _ _=>False
abbrev E0:XK:=fun _ _ _=>False
theorem yQ{X:Cx}:Passes cU X E0:=fun _ _ _ _ _ _ _ h=>h.elim
structure cL(K:zn)(x qual:Str)(st:Stmt)(f:Addr)(fd:wT):Prop where
 ex:∃(oc:Value) (od:wS) (kV doc pm:Value) (an:wS) (bC ct:Value) (wJ:Array wP),
  fd=PySem.W.fnOf x qual (defArgs st) (defBody st) (defScope st) .none kV doc pm an bC ct/\K.lookup f=some ⟨oc,od,.func fd,wJ⟩/\PySem.W.codeIn K bC qual=true
 kp:PySem.W.keepIn K (.ref f)=true
section
variable {P:sB}{w:World}{K:zn}{mg:xL}{base:Heap}
theorem cL.ok{qual:Str}{st:Stmt}{f:Addr}{N ps:wv}{k:Nat}{sp:Sp}(F:cL K x qual st f fd)(S:av N ps (defScope st))(len:∀ vs H Q E,sp vs H Q E->vs.length=ps.length)(c7:∀(bC:Value) (A:sK) (outer:List Env) (s:Shared) (H:Hp) (vs:List V) (Q:VK) (E:XK),cT k (A.deeper (envOfC qual (defScope st) s.heap.objs.size f bC))->sp vs H Q E ->
   ∃ t,yy (eW cU P w K mg base N qual (defScope st) f bC A outer s H E).Ap (defBody st) t/\t { nx:=fun _ H'=>Q .cS H',rt:=Q } (start N vs) H):ba P w K mg base cU (k+1) f fd ps sp:=by
 obtain⟨oc,od,kV,doc,pm,an,bC,ct,wJ,rfl,lk,An⟩:=F.ex;refine JC lk An S len fun A outer s H vs Q E hr pB=>?_;obtain⟨t,h,q⟩:=c7 bC A outer s H vs Q E hr pB;exact⟨t,h.Ap,q⟩
theorem cL.binds{qual:Str}{st:Stmt}{f:Addr}{ps:wv}(F:cL K x qual st f fd)(h:∀(kV doc pm:Value) (an:wS) (bC ct:Value) (us:wf),us.length=ps.length->bindArgs (PySem.W.fnOf x qual (defArgs st) (defBody st) (defScope st) .none kV doc pm an bC ct) ⟨us,[]⟩=pure (ps.zip us)):Binds K fd ps []:=by
 obtain⟨oc,od,kV,doc,pm,an,bC,ct,wJ,rfl,lk,An⟩:=F.ex;exact .all (h kV doc pm an bC ct)
theorem kE{qual:Str}{st:Stmt}{f:Addr}{oc:Value}{od an:wS}{wJ:Array wP}{kV doc pm bC ct:Value}(l:K.lookup f=some ⟨oc,od,.func (PySem.W.fnOf x qual (defArgs st) (defBody st) (defScope st) .none kV doc pm an bC ct),wJ⟩)(c:PySem.W.codeIn K bC qual=true)(k:PySem.W.keepIn K (.ref f)=true):cL K x qual st f (PySem.W.fnOf x qual (defArgs st) (defBody st) (defScope st) .none kV doc pm an bC ct):=⟨⟨oc,od,kV,doc,pm,an,bC,ct,wJ,rfl,l,c⟩,k⟩
end
theorem bb{n:Nat}(h:n<=1000):n < sizeLine:=acO h (by decide)
def aM(H H':Hp):Prop:=∀ b o,H b=some o->H' b=some o
theorem aM.refl(H:Hp):aM H H:=fun _ _ h=>h
theorem aM.trans{H H1 H2:Hp}(a:aM H H1)(b:aM H1 H2):aM H H2:=fun c o h=>b c o (a c o h)
theorem aM.seq{K:zn}{H H':Hp}{a:Addr}{xs:List V}(e:aM H H')(h:eE K H a xs):eE K H' a xs:=by
 rcases h with(h | ⟨o,h⟩) | h
 ·exact .inl (.inl (e _ _ h))
 ·exact .inl (.inr ⟨o,e _ _ h⟩)
 ·exact .inr h
end L2
set_option maxHeartbeats 4000000
namespace L2
open PySem PySem.Spec PyProof.Rows
variable {H:Hp}{w:World}
def P2(i j:Int):Prop:=0 < j/\j < 2 ^ 64
theorem log2_small{n:Nat}(h:n < 2 ^ 64):n.log2 < 9000:=by
 by_cases h0:n=0
 ·subst h0;decide
 ·exact aaL ((Nat.log2_lt h0).mpr h) (by decide)
theorem um{X:Cx}:gE X (binaryOp .FloorDiv) (rI P2 fun i j=>.int (i / j)):=S6 fun i j _ _ _ _ _ hc q=>by
 have h1:(0:Int) < j:=hc.1;have h2:j < 2 ^ 64:=hc.2;exact floordiv_int (by omega) (by rw[Int.fdiv_eq_ediv_of_nonneg i (by omega)];exact q) (.inl (PyProof.noPylong_of_log2 (log2_small (by omega))))
mutual
def Rep(H:Hp):PyData->V->Prop
 | .none,v=>v=.cS
 | .bool b,v=>v=.bl b
 | .int i,v=>v=.int i
 | .str x,v=>v=.str x
 | .list ds,v=>∃ a xs,v=.ref a/\H a=some (.lst xs)/\ak H ds xs
 | .tuple ds,v=>∃ a xs,v=.ref a/\H a=some (.tup xs)/\ak H ds xs
 | .dict _,_=>False
def ak(H:Hp):wE->List V->Prop
 | [],xs=>xs=[]
 | d::ds,xs=>∃ y ys,xs=y::ys/\Rep H d y/\ak H ds ys
end
mutual
theorem Rep.mono{H H':Hp}(s:aM H H'):∀{d:PyData} {v:V},Rep H d v->Rep H' d v
 | .none,_,h=>h
 | .bool _,_,h=>h
 | .int _,_,h=>h
 | .str _,_,h=>h
 | .list _,_,⟨a,xs,e,h,r⟩=>⟨a,xs,e,s a _ h,ak.mono s r⟩
 | .tuple _,_,⟨a,xs,e,h,r⟩=>⟨a,xs,e,s a _ h,ak.mono s r⟩
 | .dict _,_,h=>h
theorem ak.mono{H H':Hp}(s:aM H H'):∀{ds:wE} {xs:List V},ak H ds xs->ak H' ds xs
 | [],_,h=>h
 | _::_,_,⟨y,ys,e,r,rs⟩=>⟨y,ys,e,Rep.mono s r,ak.mono s rs⟩
end
theorem ak.length{H:Hp}:∀{ds:wE} {xs:List V},ak H ds xs->ds.length=xs.length
 | [],_,h=>by cases h;rfl
 | _::_,_,⟨_,_,e,_,rs⟩=>by subst e;simp[rs.length]
theorem ak.get{H:Hp}:∀{ds:wE} {xs:List V} {i:Nat} {d:PyData},ak H ds xs->ds[i]?=some d->∃ x,xs[i]?=some x/\Rep H d x
 | [],_,_,_,_,e=>by simp at e
 | _::_,_,0,_,⟨y,ys,e1,r,_⟩,e=>by simp at e;subst e e1;exact⟨y,rfl,r⟩
 | _::_,_,i+1,d,⟨y,ys,e1,_,rs⟩,e=>by
  obtain⟨x,h1,h2⟩:=ak.get (i:=i) (d:=d) rs (by simpa using e);subst e1;exact⟨x,by simpa using h1,h2⟩
mutual
theorem Rep.reads{P:sB}{w:World}{H:Hp}{h:Heap}(ok:eF P w H h):∀{d:PyData} {v:V} {u:Value},Rep H d v->RelV v u->∃ as,Reads h u d as
 | .none,_,_,e,r=>by cases e;cases (show _=Value.none from r);exact⟨_,.none⟩
 | .bool b,_,_,e,r=>by cases e;cases (show _=Value.bool b from r);exact⟨_,.bool b⟩
 | .int i,_,_,e,r=>by cases e;obtain⟨t,rfl⟩:=(show ∃ t,_=Value.int i t from r);exact⟨_,.int i t⟩
 | .str x,_,_,e,r=>by cases e;obtain⟨t,rfl⟩:=(show ∃ t,_=Value.str x t from r);exact⟨_,.str x t⟩
 | .list ds,_,_,⟨a,xs,e,hh,rs⟩,r=>by
  subst e;cases (show _=Value.ref a from r);obtain⟨_,aQ,n,rv,ho⟩:=(show cK P w H h a (.lst xs) from ok a _ hh);obtain⟨as,q⟩:=ak.reads ok rs rv;exact⟨_,.list ho rfl rfl q⟩
 | .tuple ds,_,_,⟨a,xs,e,hh,rs⟩,r=>by
  subst e;cases (show _=Value.ref a from r);obtain⟨_,aQ,rv,o,ho,hc,n,hd⟩:=(show cK P w H h a (.tup xs) from ok a _ hh);obtain⟨as,q⟩:=ak.reads ok rs rv;exact⟨_,.tuple ho hc hd q⟩
 | .dict _,_,_,e,_=>e.elim
theorem ak.reads{P:sB}{w:World}{H:Hp}{h:Heap}(ok:eF P w H h):∀{ds:wE} {xs:List V} {us:wf},ak H ds xs->Vals xs us->∃ as,ReadsAll h us ds as
 | [],_,_,e,r=>by cases e;cases r;exact⟨_,.nil⟩
 | d::ds,_,us,⟨y,ys,e,hr,hs⟩,r=>by
  subst e;cases r with
  | cons r1 r2 =>
   obtain⟨as,q⟩:=Rep.reads ok hr r1;obtain⟨bs,q'⟩:=ak.reads ok hs r2;exact⟨_,.cons q q'⟩
end
section
variable {X:Cx}
def P4:R2:=fun x y H Q=>∃ d1 d2:PyData,Rep H d1 x/\Rep H d2 y/\d1.canLay0=true/\d2.canLay0=true/\min d1.depth d2.depth<=64/\Q (.bl (PyData.eqv d1 d2)) H
def P5:R2:=fun x y H Q=>∃ d1 d2:PyData,Rep H d1 x/\Rep H d2 y/\d1.canLay0=true/\d2.canLay0=true/\min d1.depth d2.depth<=64/\Q (.bl (!PyData.eqv d1 d2)) H
theorem Mc(hu:X.A.units+64 < cLine):gE X (compareOp .Eq) P4:=by
 intro pins s σ H x y v u Q I rx ry ⟨d1,d2,r1,r2,c1,c2,hd,q⟩;obtain⟨as,q1⟩:=r1.reads I.ck rx;obtain⟨bs,q2⟩:=r2.reads I.ck ry;exact SeqAt.rcAt_reads q1 q2 c1 c2 (by omega) _ _ _ _ ⟨.bl _,H,I,rfl,q⟩
theorem Md(hu:X.A.units+64 < cLine):gE X (compareOp .NotEq) P5:=by
 intro pins s σ H x y v u Q I rx ry ⟨d1,d2,r1,r2,c1,c2,hd,q⟩;obtain⟨as,q1⟩:=r1.reads I.ck rx;obtain⟨bs,q2⟩:=r2.reads I.ck ry;exact SeqAt.rcNeAt_reads q1 q2 c1 c2 (by omega) _ _ _ _ ⟨.bl _,H,I,rfl,q⟩
theorem uo:dG X (.builtin "isinstance") (fun xs H Q=>∃ x T t b,xs=[x,.ty T]/\jD X.K H x t/\PySem.W.kitOne X.K t (.type T)=some b/\Q (.bl b) H):=by
 intro pins s σ H xs us Q I rv ⟨x,T,t,b,e,ty,hk,q⟩;subst e;obtain⟨u,w',rfl,r1,r2⟩:=vals2 rv;cases (show w'=Value.type T from r2);exact AA I r1 ty hk fun tk=>⟨.bl _,H,I.tok tk,rfl,q⟩
end
section
variable {prog:sB}{A:sK}{E:xz}{s:Shared}
theorem jH{it l:Addr}{i:Nat}{items}{x:Value}{Q:xz}(hit:s.heap.IsTupleIter it l i)(hl:s.heap.IsTuple l items)(hx:items[i]?=some x)(hQ:∀ h',h'.IsTupleIter it l (i+1)->Heap.SameBut it s.heap h'->Q x { s with heap:=h' }) :
  wpAny (model prog w) A (Builtin.SmallTypes.nextOf (.ref it)) Q E s:=by
 obtain⟨o,ho,hc,hd⟩:=id hit;obtain⟨ol,OR,_,nl,UJ⟩:=hl;unfold Builtin.SmallTypes.nextOf;refine aak (abr (name:=Str.ofString "__next__") hit.typeIs abY
  (abq abY hit.typeIs F.entry_tuple_iterator_next ?_ (F.args_tuple_iterator_next_1 _)))
 show wpAny _ _ (field (.ref it) 0 >>= _) _ _ s;refine aak (abE ho hd (x:=.ref l) rfl ?_);show wpAny _ _ (if(Value.ref l == Value.none)=true then _ else _) _ _ s;rw[aaD (show ¬ ((Value.ref l == Value.none)=true) from aaC)];show wpAny _ _ (field (.ref it) 1 >>= _) _ _ s;refine aak (abE ho hd (x:=.int i 0) rfl ?_);show wpAny _ _ (seqItems? (.ref l) >>= _) _ _ s;refine aak (ab7 OR UJ ?_);simp only[aaB,hx];refine aak (ab8 ho hd (by simp) (aao ⟨x,rfl,aao (hQ _ ?_ (aa9 ..))⟩));exact⟨_,abh _ ho (ab2 (abf hd _)),(acX ..).trans hc,by
  rw[abf hd];simp[rawInt]⟩
theorem kF{it l:Addr}{i:Nat}{items}{Q:xz}(hh:A.handled=none)(hit:s.heap.IsTupleIter it l i)(hl:s.heap.IsTuple l items)(hx:items[i]?=none)(hE:∀ h' e,Heap.ExtBut it s.heap h'->(∃ o,h'.get? e=some o/\o.cls=.type "StopIteration")->E (.ref e) { s with heap:=h' }) :
  wpAny (model prog w) A (Builtin.SmallTypes.nextOf (.ref it)) Q E s:=by
 obtain⟨o,ho,hc,hd⟩:=id hit;obtain⟨ol,OR,_,nl,UJ⟩:=hl;unfold Builtin.SmallTypes.nextOf;refine aak (abr (name:=Str.ofString "__next__") hit.typeIs abY
  (abq abY hit.typeIs F.entry_tuple_iterator_next ?_ (F.args_tuple_iterator_next_1 _)))
 show wpAny _ _ (field (.ref it) 0 >>= _) _ _ s;refine aak (abE ho hd (x:=.ref l) rfl ?_);show wpAny _ _ (if(Value.ref l == Value.none)=true then _ else _) _ _ s;rw[aaD (show ¬ ((Value.ref l == Value.none)=true) from aaC)];show wpAny _ _ (field (.ref it) 1 >>= _) _ _ s;refine aak (abE ho hd (x:=.int i 0) rfl ?_);show wpAny _ _ (seqItems? (.ref l) >>= _) _ _ s;refine aak (ab7 OR UJ ?_);simp only[aaB,hx];refine aak (acy (aak (ab8 ho hd (by simp) ?_)));show wpAny _ _ (newExc (.type "StopIteration") [] >>= _) _ _ _;refine aak ?_;simp only[newExc,newTuple];refine aak (abn ?_ (by size_fits));refine aak (m:=firstArgMember _ _) (wpAny_of_eq (a:=Value.none) (by first | rfl | (simp only[firstArgMember];rfl)) ?_);refine abn ?_ (by size_fits);simp only[raiseNew];refine aak (wpAny_handled ?_)
 first | rw[show A.in1.handled=none from hh] | rw[hh]
 refine aak (aao (wpAny_throw ?_));exact hE _ _ (((aa9 ..).extBut.push _).push _) ⟨_,aaz _ rfl,rfl⟩
end
end L2
namespace L2
open PySem PySem.Spec PyProof.Rows
variable {prog P:sB}{w:World}{A:sK}{E:xz}{s:Shared}{z i1 i2 l1 l2 a:Addr}{k1 k2:Nat}{AJ pA:Heap->Nat->wP->Prop}{yR pR:Nat->Heap->Prop}{b:Value}{X:Cx}{pins:yp}{H:Hp}{pos:Pos}
structure Nx(prog:sB)(w:World)(it l:Addr)(has:Heap->Nat->wP->Prop)(st:Nat->Heap->Prop):Prop where
 obj:∀ i h,st i h->∃ o,h.get? it=some o/\∀ v,o.data≠.cell v
 keep:∀ i h h',st i h->(∀ o,h.get? it=some o->h'.get? it=some o)->st i h'
 ny:∀ i x h h',has h i x->(∀ o,h.get? l=some o->h'.get? l=some o)->has h' i x
 item:∀(A:sK) (E:xz) (i:Nat) (s:Shared) (x:Value) (Q:xz),st i s.heap->has s.heap i (some x) ->
  (∀ h',st (i+1) h'->Heap.SameBut it s.heap h'->Q x { s with heap:=h' })->wpAny (model prog w) A (Builtin.SmallTypes.nextOf (.ref it)) Q E s
 done:∀(A:sK) (E:xz) (i:Nat) (s:Shared) (Q:xz),A.handled=none->st i s.heap->has s.heap i none ->
  (∀ h' e,Heap.ExtBut it s.heap h'->(∃ o,h'.get? e=some o/\o.cls=.type "StopIteration")->E (.ref e) { s with heap:=h' })->wpAny (model prog w) A (Builtin.SmallTypes.nextOf (.ref it)) Q E s
def P6(l:Addr)(h:Heap)(i:Nat)(x:wP):Prop:=∃ aQ:Array Value,h.IsList l aQ/\aQ[i]?=x
def P7(l:Addr)(h:Heap)(i:Nat)(x:wP):Prop:=∃ aQ:Array Value,h.IsTuple l aQ/\aQ[i]?=x
theorem Hh(it l:Addr):Nx prog w it l (P6 l) (fun i h=>h.IsListIter it l i) where
 obj:=fun i h st=>by
  obtain⟨o,e,c,d⟩:=st;exact⟨o,e,fun v z=>by rw[d]at z;cases z⟩
 keep:=fun i h h' st k=>st.at k
 ny:=fun i x h h' ⟨aQ,hl,e⟩ k=>⟨aQ,hl.at k,e⟩
 item:=fun A E i s x Q st ⟨aQ,hl,e⟩ hQ=>wpAny_nextOf_list_item st hl e hQ
 done:=fun A E i s Q hh st ⟨aQ,hl,e⟩ hE=>wpAny_nextOf_list_end hh st hl e hE
theorem Me(it l:Addr):Nx prog w it l (P7 l) (fun i h=>h.IsTupleIter it l i) where
 obj:=fun i h st=>by
  obtain⟨o,e,c,d⟩:=st;exact⟨o,e,fun v z=>by rw[d]at z;cases z⟩
 keep:=fun i h h' ⟨o,e,c⟩ k=>⟨o,k _ e,c⟩
 ny:=fun i x h h' ⟨aQ,⟨o,e1,c⟩,e⟩ k=>⟨aQ,⟨o,k _ e1,c⟩,e⟩
 item:=fun A E i s x Q st ⟨aQ,hl,e⟩ hQ=>jH st hl e hQ
 done:=fun A E i s Q hh st ⟨aQ,hl,e⟩ hE=>kF hh st hl e hE
theorem AI{TI TO:Addr}{x y a:Value}{Q:xz}(D:ZipApart z TI TO i1 i2 l1 l2)(N1:Nx prog w i1 l1 AJ yR)(N2:Nx prog w i2 l2 pA pR)(hz:IsZip s.heap z TI TO .none)(ur:IsPair s.heap TI (.ref i1) (.ref i2))(vX:IsPair s.heap TO a b)(h1:yR k1 s.heap)(h2:pR k2 s.heap)(hx:AJ s.heap k1 (some x))(hy:pA s.heap k2 (some y))(hQ:∀ h',IsZip h' z TI TO (rawInt s.heap.objs.size)->IsPair h' TO x y->yR (k1+1) h'->pR (k2+1) h'->IsPair h' s.heap.objs.size x y->h'.objs.size=s.heap.objs.size+1 ->
   (∀ c o,c≠z->c≠TO->c≠i1->c≠i2->s.heap.get? c=some o->h'.get? c=some o)->Q (.ref s.heap.objs.size) { s with heap:=h' }) :
  wpAny (model prog w) A (Builtin.«zip.__next__» ⟨[.ref z],[]⟩) (fun fin s'=>∃ v,fin=.done (.ret v)/\Q v s') E s:=by
 show wpAny _ _ (field (.ref z) 2 >>= _) _ _ _;refine aak (abE hz rfl (x:=.bool false) rfl ?_);show wpAny _ _ (field (.ref z) 3 >>= _) _ _ _;refine aak (abE hz rfl (x:=.ref TI) rfl ?_);refine aak (ab7 ur rfl ?_);show wpAny _ _ (Builtin.SmallTypes.ownedTupleIsFree (.ref z) >>= _) _ _ _;refine aak ?_;unfold Builtin.SmallTypes.ownedTupleIsFree;refine aak (abE hz rfl (x:=.none) rfl (aao ?_));simp only[acW];refine aak (acy ?_);refine aak (abE hz rfl (x:=.ref TO) rfl ?_);refine aak (ab3 hz (by simp) fun eM lI c8=>?_);replace lI:IsZip eM z TI TO .ellipsis:=lI;refine aak ?_;simp only[List.zipIdx_cons,List.zipIdx_nil,adX,ad3];refine aak (aak (adQ ?_));show wpAny _ _ (Builtin.SmallTypes.nextOf (.ref i1) >>= _) _ _ _;refine aak (N1.item _ _ k1 { s with heap:=eM } x _ (N1.keep _ _ _ h1 fun o e=>c8.extBut _ _ D.i1z e) (N1.ny _ _ _ _ hx fun o e=>c8.extBut _ _ D.l1z e) fun gQ JF eO=>aao ?_);have nA:IsPair gQ TO a b:=eO.extBut _ _ D.TOi1 (c8.extBut _ _ D.TOz vX);refine aak (ab7 nA rfl ?_);refine aak (adi nA fun nq rD gm=>?_);replace rD:IsPair nq TO x b:=rD;refine aak (wpAny_letGo (aao ?_));refine aak (aak (adQ ?_));show wpAny _ _ (Builtin.SmallTypes.nextOf (.ref i2) >>= _) _ _ _;refine aak (N2.item _ _ k2 { s with heap:=nq } y _ (N2.keep _ _ _ h2 fun o e=>gm.extBut _ _ D.TOi2.symm (eO.extBut _ _ D.i12.symm (c8.extBut _ _ D.i2z e)))
  (N2.ny _ _ _ _ hy fun o e=>gm.extBut _ _ D.l2TO (eO.extBut _ _ D.l2i1 (c8.extBut _ _ D.l2z e))) fun CY P8 lJ=>aao ?_)
 have CZ:IsPair CY TO x b:=lJ.extBut _ _ D.TOi2 rD;refine aak (ab7 CZ rfl ?_);refine aak (adi CZ fun gG nB lL=>?_);replace nB:IsPair gG TO x y:=nB;refine aak (wpAny_letGo (aao (aao ?_)));refine aak (ab7 nB rfl ?_);refine aak (wpAny_newTuple ?_);have vW:gG.objs.size=s.heap.objs.size:=by rw[lL.1,lJ.1,gm.1,eO.1,c8.1]
 have JG:IsZip gG z TI TO .ellipsis:=lL.extBut _ _ D.TOz.symm (lJ.extBut _ _ D.i2z.symm (gm.extBut _ _ D.TOz.symm (eO.extBut _ _ D.i1z.symm lI)));have P9:∀ c o,c≠z->c≠TO->c≠i1->c≠i2->s.heap.get? c=some o->gG.get? c=some o:=fun c o c1 c2 c3 c4 e =>
  lL.extBut _ _ c2 (lJ.extBut _ _ c4 (gm.extBut _ _ c2 (eO.extBut _ _ c3 (c8.extBut _ _ c1 e))))
 have Qa:yR (k1+1) gG:=N1.keep _ _ _ JF fun o e=>lL.extBut _ _ D.TOi1.symm (lJ.extBut _ _ D.i12 (gm.extBut _ _ D.TOi1.symm e));have Qb:pR (k2+1) gG:=N2.keep _ _ _ P8 fun o e=>lL.extBut _ _ D.TOi2.symm e;have Qc:z < gG.objs.size:=aay JG;have XG:TO < gG.objs.size:=aay nB;show wpAny _ _ (Builtin.SmallTypes.ownedTupleHandOut (.ref z) (.ref gG.objs.size) >>= _) _ _ _;refine aak ?_;unfold Builtin.SmallTypes.ownedTupleHandOut;have Qe:IsZip (gG.push { cls:=.type "tuple",data:=.seq #[x,y] }) z TI TO .ellipsis:=aam _ JG;refine aak (ab3 Qe (by simp) fun UK C1 C3=>?_);replace C1:IsZip UK z TI TO (rawInt gG.objs.size):=C1;refine ab3 C1 (by simp) fun C4 yS C5=>?_;replace yS:IsZip C4 z TI TO (rawInt gG.objs.size):=yS;have up:∀ c o,c≠z->gG.get? c=some o->C4.get? c=some o:=fun c o c1 e=>C5.extBut _ _ c1 (C3.extBut _ _ c1 (aam _ e));have JH:IsPair C4 gG.objs.size x y:=C5.extBut _ _ (ab0 Qc) (C3.extBut _ _ (ab0 Qc) (aaz _ rfl));have XH:C4.objs.size=gG.objs.size+1:=by rw[C5.1,C3.1,abm]
 rw[vW]at yS JH XH;refine aao ⟨_,rfl,?_⟩;show Q (.ref gG.objs.size) _;rw[vW];exact hQ C4 yS (up _ _ D.TOz nB) (N1.keep _ _ _ Qa fun o e=>up _ o D.i1z e) (N2.keep _ _ _ Qb fun o e=>up _ o D.i2z e) JH XH fun c o c1 c2 c3 c4 e=>up c o c1 (P9 c o c1 c2 c3 c4 e)
theorem C6{TI TO:Addr}{a:Value}{Q:Fin->Shared->Prop}(hh:A.handled=none)(D:ZipApart z TI TO i1 i2 l1 l2)(N1:Nx prog w i1 l1 AJ yR)(N2:Nx prog w i2 l2 pA pR)(hz:IsZip s.heap z TI TO .none)(ur:IsPair s.heap TI (.ref i1) (.ref i2))(vX:IsPair s.heap TO a b)(h1:yR k1 s.heap)(h2:pR k2 s.heap)(uu:AJ s.heap k1 none\/(∃ x,AJ s.heap k1 (some x))/\pA s.heap k2 none)(hE:∀ h' e,(∀ c o,c≠z->c≠TO->c≠i1->c≠i2->s.heap.get? c=some o->h'.get? c=some o)->(∃ o,h'.get? e=some o/\o.cls=.type "StopIteration")->E (.ref e) { s with heap:=h' }) :
  wpAny (model prog w) A (Builtin.«zip.__next__» ⟨[.ref z],[]⟩) Q E s:=by
 show wpAny _ _ (field (.ref z) 2 >>= _) _ _ _;refine aak (abE hz rfl (x:=.bool false) rfl ?_);show wpAny _ _ (field (.ref z) 3 >>= _) _ _ _;refine aak (abE hz rfl (x:=.ref TI) rfl ?_);refine aak (ab7 ur rfl ?_);show wpAny _ _ (Builtin.SmallTypes.ownedTupleIsFree (.ref z) >>= _) _ _ _;refine aak ?_;unfold Builtin.SmallTypes.ownedTupleIsFree;refine aak (abE hz rfl (x:=.none) rfl (aao ?_));simp only[acW];refine aak (acy ?_);refine aak (abE hz rfl (x:=.ref TO) rfl ?_);refine aak (ab3 hz (by simp) fun eM lI c8=>?_);replace lI:IsZip eM z TI TO .ellipsis:=lI;refine aak ?_;simp only[List.zipIdx_cons,List.zipIdx_nil,adX,ad3];refine aak (aak (adQ ?_));show wpAny _ _ (Builtin.SmallTypes.nextOf (.ref i1) >>= _) _ _ _;rcases uu with hx | ⟨⟨x,hx⟩,hy⟩
 ·refine aak (N1.done _ _ k1 { s with heap:=eM } _ hh (N1.keep _ _ _ h1 fun o e=>c8.extBut _ _ D.i1z e) (N1.ny _ _ _ _ hx fun o e=>c8.extBut _ _ D.l1z e) fun gQ e eO he=>?_);obtain⟨oe,Mf,Qf⟩:=he;have JI:IsZip gQ z TI TO .ellipsis:=eO _ _ D.i1z.symm lI;have UL:e≠z:=fun x=>by subst x;rw[JI]at Mf;cases Mf;simp at Qf
  refine ab3 JI (by simp) fun nq _ gm=>hE nq e (fun c o c1 _ c3 _ x=>gm.extBut _ _ c1 (eO _ _ c3 (c8.extBut _ _ c1 x))) ⟨oe,gm.extBut _ _ UL Mf,Qf⟩
 ·refine aak (N1.item _ _ k1 { s with heap:=eM } x _ (N1.keep _ _ _ h1 fun o e=>c8.extBut _ _ D.i1z e) (N1.ny _ _ _ _ hx fun o e=>c8.extBut _ _ D.l1z e) fun gQ JF eO=>aao ?_);have nA:IsPair gQ TO a b:=eO.extBut _ _ D.TOi1 (c8.extBut _ _ D.TOz vX);refine aak (ab7 nA rfl ?_);refine aak (adi nA fun nq rD gm=>?_);refine aak (wpAny_letGo (aao ?_));refine aak (aak (adQ ?_));show wpAny _ _ (Builtin.SmallTypes.nextOf (.ref i2) >>= _) _ _ _;refine aak (N2.done _ _ k2 { s with heap:=nq } _ hh (N2.keep _ _ _ h2 fun o e=>gm.extBut _ _ D.TOi2.symm (eO.extBut _ _ D.i12.symm (c8.extBut _ _ D.i2z e)))
   (N2.ny _ _ _ _ hy fun o e=>gm.extBut _ _ D.l2TO (eO.extBut _ _ D.l2i1 (c8.extBut _ _ D.l2z e))) fun CY e lJ he=>?_)
  obtain⟨oe,Mf,Qf⟩:=he;have JJ:IsZip CY z TI TO .ellipsis:=lJ _ _ D.i2z.symm (gm.extBut _ _ D.TOz.symm (eO.extBut _ _ D.i1z.symm lI));have UL:e≠z:=fun x=>by subst x;rw[JJ]at Mf;cases Mf;simp at Qf
  refine ab3 JJ (by simp) fun gG _ lL=>hE gG e (fun c o c1 c2 c3 c4 x=>lL.extBut _ _ c1 (lJ _ _ c4 (gm.extBut _ _ c2 (eO.extBut _ _ c3 (c8.extBut _ _ c1 x))))) ⟨oe,lL.extBut _ _ UL Mf,Qf⟩
theorem kG{TI TO:Addr}{x y a:Value}{Q:wP->Shared->Prop}(D:ZipApart z TI TO i1 i2 l1 l2)(N1:Nx prog w i1 l1 AJ yR)(N2:Nx prog w i2 l2 pA pR)(hz:IsZip s.heap z TI TO .none)(ur:IsPair s.heap TI (.ref i1) (.ref i2))(vX:IsPair s.heap TO a b)(h1:yR k1 s.heap)(h2:pR k2 s.heap)(hx:AJ s.heap k1 (some x))(hy:pA s.heap k2 (some y))(hQ:∀ h',IsZip h' z TI TO (rawInt s.heap.objs.size)->IsPair h' TO x y->yR (k1+1) h'->pR (k2+1) h'->IsPair h' s.heap.objs.size x y->h'.objs.size=s.heap.objs.size+1 ->
   (∀ c o,c≠z->c≠TO->c≠i1->c≠i2->s.heap.get? c=some o->h'.get? c=some o)->Q (some (.ref s.heap.objs.size)) { s with heap:=h' }) :
  wpAny (model prog w) A (pyNext (.ref z)) Q E s:=by
 have hT:s.TypeIs (.ref z) "zip":=⟨_,hz,rfl⟩;unfold pyNext;exact aak (adk (abr (name:=Str.ofString "__next__") hT ads
  (abq ads hT F.entry_zip_next
   (AI D N1 N2 hz ur vX h1 h2 hx hy fun h' a1 a2 a3 a4 a5 a6 a7=>aao (hQ h' a1 a2 a3 a4 a5 a6 a7)) (F.args_zip_next_1 _))))
theorem l4{TI TO:Addr}{a:Value}{Q:wP->Shared->Prop}(hh:A.handled=none)(D:ZipApart z TI TO i1 i2 l1 l2)(N1:Nx prog w i1 l1 AJ yR)(N2:Nx prog w i2 l2 pA pR)(hz:IsZip s.heap z TI TO .none)(ur:IsPair s.heap TI (.ref i1) (.ref i2))(vX:IsPair s.heap TO a b)(h1:yR k1 s.heap)(h2:pR k2 s.heap)(uu:AJ s.heap k1 none\/(∃ x,AJ s.heap k1 (some x))/\pA s.heap k2 none)(hQ:∀ h',(∀ c o,c≠z->c≠TO->c≠i1->c≠i2->s.heap.get? c=some o->h'.get? c=some o)->Q none { s with heap:=h' }):wpAny (model prog w) A (pyNext (.ref z)) Q E s:=by
 have hT:s.TypeIs (.ref z) "zip":=⟨_,hz,rfl⟩;unfold pyNext;refine aak (adk (abr (name:=Str.ofString "__next__") hT ads
  (abq ads hT F.entry_zip_next (C6 hh D N1 N2 hz ur vX h1 h2 uu fun h' e hk he=>?_) (F.args_zip_next_1 _))))
 obtain⟨o,ho,hc⟩:=he;refine aak (wpAny_isInstance (T := "StopIteration") (b:=true) ⟨o,ho,hc⟩ isSubtype_stop ?_);exact aao (hQ _ hk)
def bT(T:String)(l:Addr):Obj:={ cls:=.type T,data:=.fields #[.ref l,.int 0 0] }
noncomputable def gz(h:Heap)(o1 o2:Obj):Heap :=
 ((((h.push o1).push o2).push { cls:=.type "tuple",data:=.seq #[.ref h.objs.size,.ref (h.objs.size+1)] }).push { cls:=.type "tuple",data:=.seq #[.none,.none] }).push
  { cls:=.type "zip",data:=.fields #[.none,.bool false,.bool false,.ref (h.objs.size+2),.ref (h.objs.size+3)] }
theorem uv(l1 l2:Addr)(xs ys:Array Value) :
  Meets (Builtin.«zip.__new__» ⟨[.type "zip",.ref l1,.ref l2],[]⟩) (fun _ R s=>s.heap.IsTuple l1 xs/\s.heap.IsTuple l2 ys /\
   R (.ok (.ret (.ref (s.heap.objs.size+4)))) { s with heap:=gz s.heap (bT "tuple_iterator" l1) (bT "tuple_iterator" l2) }) :=
 .of_wp fun prog w A R s h=>by
  obtain⟨hp,g,d,tk,os⟩:=s;obtain⟨pG,pY,h⟩:=h;have Hi:=sub_zip;have Mg:Heap.IsTuple (Shared.heap ⟨hp,g,d,tk,os⟩) l1 xs:=pG;have Mh:Heap.IsTuple (Shared.heap ⟨hp.push { cls:=.type "tuple_iterator",data:=.fields #[.ref l1,.int 0 0] },g,d,tk,os⟩) l2 ys:=Heap.IsTuple.push pY _
  wp_walk using acP Mg,acP Mh
  refine⟨_,rfl,?_⟩;have e:∀(h:Heap) (o:Obj),(h.push o).objs.size=h.objs.size+1:=fun h o=>abm ..;simp only[gz,bT,e]at h ⊢;exact h
section
variable {σ:St}{h':Heap}
theorem Inv.yT{t':Nat}{ch:ww}(I:Inv X pins σ H s)(hf:∀ b∈ch,jB X pins H b)(k:∀ b o,b ∉ ch->s.heap.get? b=some o->h'.get? b=some o):Inv X pins σ H { s with heap:=h',toks:=t' }:=by
 have Pe:∀ b u,H b=some u->b ∉ ch:=fun b u e z=>by rw[(hf b z).1]at e;cases e
 refine I.step (g':=s.gens) (d':=s.drawn) (ch:=ch) (fun b hb=>?_) (fun b o _ _ hc e _=>k b o hc e) (fun b o _ _ hc e _=>⟨o.slots,k b o hc e⟩) (fun _ _ _ _ n=>n)
  (fun b o hc e=>⟨o,k b o hc e⟩) (fun _ _ e=>e) (fun _ _ _ e=>e) (fun b ps e=>⟨#[],by rw[e];simp⟩) (fun m hm=>?_) (fun b u e=>?_) I.bare
 ·obtain⟨_,f1,f2,f3,f4,f5⟩:=hf b hb;exact⟨f3,f1,f4,f5⟩
 ·obtain⟨o,es,ep,ho,r⟩:=hm;exact⟨o,es,ep,k _ o (fun z=>(hf _ z).2.1 rfl) ho,r⟩
 ·refine(I.ck b u e).tX (fun c v hc q=>k c v ?_ q) (fun _ q=>q) fun _ _ q=>q;rcases hc with z | z
  ·rw[z];exact Pe b u e
  ·exact Pe c _ z
theorem Inv.JK{t':Nat}{T:Addr}{o:HO}(I:Inv X pins σ H s)(hf:jB X pins H T)(new:cK X.prog X.w (upd H T o) s.heap T o):Inv X pins σ (upd H T o) { s with toks:=t' }:=by
 have hn:=hf.1;refine I.step (h':=s.heap) (g':=s.gens) (d':=s.drawn) (ch:=[T]) (fun b hb=>?_) (fun b o _ _ _ e _=>e) (fun b o _ _ _ e _=>⟨o.slots,e⟩) (fun b o hc _ n=>?_)
  (fun b o _ e=>⟨o,e⟩) (fun b xs e=>?_) (fun b o u e=>?_) (fun b ps e=>⟨#[],?_⟩) (fun m hm=>hm) (fun b u e=>?_) I.bare
 ·obtain⟨_,f1,f2,f3,f4,f5⟩:=hf;have e:b=T:=by simpa using hb
  subst e;exact⟨f3,f1,f4,f5⟩
 ·rw[bw (fun z=>hc (by simp[z]))];exact n
 ·rw[bw (bV e hn)];exact e
 ·rw[bw (bV e hn)];exact e
 ·rw[bw (bV e hn),e];simp
 ·by_cases hb:b=T
  ·subst hb;rw[dF]at e;cases e;exact new
  ·rw[bw hb]at e;exact(I.ck b u e).tX (fun c v _ q=>q) (fun c q=>by rw[bw (bV q hn)];exact q) fun c xs q=>by rw[bw (bV q hn)];exact q
end
inductive SK where
 | L | T
def wR(K:zn):SK->Hp->Addr->List V->Prop
 | .L=>eE K
 | .T=>fg K
def rE:SK->Addr->Heap->Nat->wP->Prop
 | .L=>P6
 | .T=>P7
def stK:SK->Addr->Addr->Nat->Heap->Prop
 | .L=>fun it l i h=>h.IsListIter it l i
 | .T=>fun it l i h=>h.IsTupleIter it l i
def nE:SK->String
 | .L => "list_iterator"
 | .T => "tuple_iterator"
theorem B3:∀(k:SK) (it l:Addr),Nx prog w it l (rE k l) (stK k it l)
 | .L,it,l=>Hh it l
 | .T,it,l=>Me it l
section
variable {σ:St}{xs ys:List V}
theorem Inv.AK(I:Inv X pins σ H s):∀{k:SK},wR X.K k H a xs->∃ aQ:List Value,Vals xs aQ/\xs.length<=sizeLine/\∀ i,rE k a s.heap i aQ[i]?
 | .L,h=>by
  obtain⟨aQ,r,p,z⟩:=I.list h;obtain⟨o,n,ho,hc,hd,UM⟩:=p;exact⟨aQ,r,z,fun i=>⟨aQ.toArray,⟨o,ho,hc,n,UM⟩,by simp⟩⟩
 | .T,h=>by
  obtain⟨aQ,r,p,z⟩:=I.tuple h;exact⟨aQ,r,z,fun i=>⟨aQ.toArray,p,by simp⟩⟩
theorem Inv.JL(I:Inv X pins σ H s):∀{k:SK},wR X.K k H a xs->wR X.K k H a ys->xs=ys
 | .L,h,h'=>I.uc h h'
 | .T,h,h'=>I.Ao h h'
end
theorem aM.new{p:Addr}(h:H p=none)(o:HO):aM H (upd H p o):=fun b u q=>by rw[bw (bV q h)];exact q
theorem uw(l1 l2:Addr)(xs ys:Array Value) :
  Meets (Builtin.«zip.__new__» ⟨[.type "zip",.ref l1,.ref l2],[]⟩) (fun _ R s=>s.heap.IsList l1 xs/\s.heap.IsList l2 ys /\
   R (.ok (.ret (.ref (s.heap.objs.size+4)))) { s with heap:=gz s.heap (bT "list_iterator" l1) (bT "list_iterator" l2) }) :=
 .of_wp fun prog w A R s h=>by
  obtain⟨hp,g,d,tk,os⟩:=s;obtain⟨pG,pY,h⟩:=h;have Hi:=sub_zip;have Mg:Heap.IsList (Shared.heap ⟨hp,g,d,tk,os⟩) l1 xs:=pG;have Mh:Heap.IsList (Shared.heap ⟨hp.push { cls:=.type "list_iterator",data:=.fields #[.ref l1,.int 0 0] },g,d,tk,os⟩) l2 ys:=Heap.IsList.push pY _
  wp_walk using abL Mg,abL Mh
  refine⟨_,rfl,?_⟩;have e:∀(h:Heap) (o:Obj),(h.push o).objs.size=h.objs.size+1:=fun h o=>abm ..;simp only[gz,bT,e]at h ⊢;exact h
theorem ux(l1 l2:Addr)(xs ys:Array Value) :
  Meets (Builtin.«zip.__new__» ⟨[.type "zip",.ref l1,.ref l2],[]⟩) (fun _ R s=>s.heap.IsTuple l1 xs/\s.heap.IsList l2 ys /\
   R (.ok (.ret (.ref (s.heap.objs.size+4)))) { s with heap:=gz s.heap (bT "tuple_iterator" l1) (bT "list_iterator" l2) }) :=
 .of_wp fun prog w A R s h=>by
  obtain⟨hp,g,d,tk,os⟩:=s;obtain⟨pG,pY,h⟩:=h;have Hi:=sub_zip;have Mg:Heap.IsTuple (Shared.heap ⟨hp,g,d,tk,os⟩) l1 xs:=pG;have Mh:Heap.IsList (Shared.heap ⟨hp.push { cls:=.type "tuple_iterator",data:=.fields #[.ref l1,.int 0 0] },g,d,tk,os⟩) l2 ys:=Heap.IsList.push pY _
  wp_walk using acP Mg,abL Mh
  refine⟨_,rfl,?_⟩;have e:∀(h:Heap) (o:Obj),(h.push o).objs.size=h.objs.size+1:=fun h o=>abm ..;simp only[gz,bT,e]at h ⊢;exact h
theorem uy(l1 l2:Addr)(xs ys:Array Value) :
  Meets (Builtin.«zip.__new__» ⟨[.type "zip",.ref l1,.ref l2],[]⟩) (fun _ R s=>s.heap.IsList l1 xs/\s.heap.IsTuple l2 ys /\
   R (.ok (.ret (.ref (s.heap.objs.size+4)))) { s with heap:=gz s.heap (bT "list_iterator" l1) (bT "tuple_iterator" l2) }) :=
 .of_wp fun prog w A R s h=>by
  obtain⟨hp,g,d,tk,os⟩:=s;obtain⟨pG,pY,h⟩:=h;have Hi:=sub_zip;have Mg:Heap.IsList (Shared.heap ⟨hp,g,d,tk,os⟩) l1 xs:=pG;have Mh:Heap.IsTuple (Shared.heap ⟨hp.push { cls:=.type "list_iterator",data:=.fields #[.ref l1,.int 0 0] },g,d,tk,os⟩) l2 ys:=Heap.IsTuple.push pY _
  wp_walk using abL Mg,acP Mh
  refine⟨_,rfl,?_⟩;have e:∀(h:Heap) (o:Obj),(h.push o).objs.size=h.objs.size+1:=fun h o=>abm ..;simp only[gz,bT,e]at h ⊢;exact h
theorem i7{h:Heap}{o1 o2:Obj}:(gz h o1 o2).get? (h.objs.size+4)=some { cls:=.type "zip",data:=.fields #[.none,.bool false,.bool false,.ref (h.objs.size+2),.ref (h.objs.size+3)] }:=by
 unfold gz;have e:h.objs.size+4=((((h.push o1).push o2).push { cls:=.type "tuple",data:=.seq #[.ref h.objs.size,.ref (h.objs.size+1)] }).push { cls:=.type "tuple",data:=.seq #[.none,.none] }).objs.size:=by simp only[abm]
 rw[e];exact aaz _ rfl
theorem AL:∀{k1 k2:SK} {n1 n2:wP} {Q:xz} (pG:rE k1 l1 s.heap 0 n1) (pY:rE k2 l2 s.heap 0 n2)
  (h:Q (.ref (s.heap.objs.size+4)) { s with heap:=gz s.heap (bT (nE k1) l1) (bT (nE k2) l2) }),wpAny (model prog w) A (call (.type "zip") [.ref l1,.ref l2]) Q E s
 | .T,.T,_,_,_,⟨xs,pG,_⟩,⟨ys,pY,_⟩,h=>adY adZ (by decide) (ac8 _ _) (adt _ _) (fun obj=>acC obj _ _) adu
   (uv l1 l2 xs ys) ⟨pG,pY,⟨⟨_,i7,rfl⟩,h⟩⟩
 | .L,.L,_,_,_,⟨xs,pG,_⟩,⟨ys,pY,_⟩,h=>adY adZ (by decide) (ac8 _ _) (adt _ _) (fun obj=>acC obj _ _) adu
   (uw l1 l2 xs ys) ⟨pG,pY,⟨⟨_,i7,rfl⟩,h⟩⟩
 | .T,.L,_,_,_,⟨xs,pG,_⟩,⟨ys,pY,_⟩,h=>adY adZ (by decide) (ac8 _ _) (adt _ _) (fun obj=>acC obj _ _) adu
   (ux l1 l2 xs ys) ⟨pG,pY,⟨⟨_,i7,rfl⟩,h⟩⟩
 | .L,.T,_,_,_,⟨xs,pG,_⟩,⟨ys,pY,_⟩,h=>adY adZ (by decide) (ac8 _ _) (adt _ _) (fun obj=>acC obj _ _) adu
   (uy l1 l2 xs ys) ⟨pG,pY,⟨⟨_,i7,rfl⟩,h⟩⟩
def UN(K:zn)(k1 k2:SK)(a b:Addr):It :=
 ⟨fun i H=>∃ xs ys x y,wR K k1 H a xs/\wR K k2 H b ys/\xs[i]?=some x/\ys[i]?=some y,
  fun i H v H'=>∃ p x y,v=.ref p/\H p=none/\H'=upd H p (.tup [x,y])/\(∀ xs,wR K k1 H a xs->xs[i]?=some x)/\∀ ys,wR K k2 H b ys->ys[i]?=some y,
  fun i H=>∃ xs ys,wR K k1 H a xs/\wR K k2 H b ys/\(xs.length<=i\/ys.length<=i)⟩
def ZK(k1 k2:SK)(z TI TO i1 i2 a b:Addr)(i:Nat)(h:Heap):Prop :=
 IsZip h z TI TO .none/\IsPair h TI (.ref i1) (.ref i2)/\(∃ x y,IsPair h TO x y)/\stK k1 i1 a i h/\stK k2 i2 b i h
theorem qa{k:SK}{h:Heap}{i:Nat}{aQ:wf}(hh:∀ i,rE k a h i aQ[i]?)(e:aQ.length<=i):rE k a h i none:=by
 have q:=hh i;rw[List.getElem?_eq_none e]at q;exact q
theorem C7{K:zn}{elts:ut}{ek:Nat}{AM:Pos}{k1 k2:SK}{b TI TO:Addr}(D:ZipApart z TI TO i1 i2 a b) :
  Turn P w K (.Tuple elts ek AM) (UN K k1 k2 a b) [z,TI,TO,i1,i2] z (ZK k1 k2 z TI TO i1 i2 a b) where
 mem:=by simp
 obj:=fun i h st c hc=>by
  obtain⟨hz,ur,⟨x,y,vX⟩,s1,s2⟩:=st;simp only[aat,abl,adl]at hc;rcases hc with rfl | rfl | rfl | rfl | rfl
  ·exact⟨_,hz,fun v e=>nomatch e⟩
  ·exact⟨_,ur,fun v e=>nomatch e⟩
  ·exact⟨_,vX,fun v e=>nomatch e⟩
  ·exact(B3 (prog:=P) (w:=w) k1 _ a).obj i h s1
  ·exact(B3 (prog:=P) (w:=w) k2 _ b).obj i h s2
 keep:=fun i h h' st k=>by
  obtain⟨hz,ur,⟨x,y,vX⟩,s1,s2⟩:=st;exact⟨k z (by simp) _ hz,k TI (by simp) _ ur,⟨x,y,k TO (by simp) _ vX⟩,(B3 (prog:=P) (w:=w) k1 _ a).keep i h h' s1 fun o e=>k i1 (by simp) o e,(B3 (prog:=P) (w:=w) k2 _ b).keep i h h' s2 fun o e=>k i2 (by simp) o e⟩
 item:=by
  intro X hP hw hK hc i pins s σ H E I hf st hg;subst hP hw hK;obtain⟨hz,ur,⟨ta,tb,vX⟩,s1,s2⟩:=st;obtain⟨xs,ys,x,y,q1,q2,hx,hy⟩:=hg;obtain⟨Hj,r1,z1,g1⟩:=I.AK q1;obtain⟨wQ,r2,z2,g2⟩:=I.AK q2;obtain⟨u1,ZL,UO⟩:=r1.get hx;obtain⟨u2,UP,UQ⟩:=r2.get hy;refine kG D (B3 k1 i1 a) (B3 k2 i2 b) hz ur vX s1 s2 (x:=u1) (y:=u2) (by rw[<- ZL];exact g1 i) (by rw[<- UP];exact g2 i) fun h' a1 a2 a3 a4 a5 a6 a7=>?_;refine⟨_,rfl,wpAny_letOwnedTupleGo_zip a1 fun h2 Qg pA=>?_⟩;have UR:s.heap.objs.size≠z:=ab0 (aay hz);have gh:∀ c o,s.heap.get? c=some o->s.heap.objs.size≠c:=fun c o e=>ab0 (aay e);have kp:∀ c o,c ∉ [z,TI,TO,i1,i2]->s.heap.get? c=some o->h2.get? c=some o:=fun c o hc e=>by
   simp only[aat,abl,adl,not_or]at hc;exact pA.extBut _ _ hc.1 (a7 c o hc.1 hc.2.2.1 hc.2.2.2.1 hc.2.2.2.2 e)
  have I1:Inv X pins σ H { s with heap:=h2,toks:=s.toks }:=I.yT hf kp;have ZM:IsPair h2 s.heap.objs.size u1 u2:=pA.extBut _ _ UR a5;have OS:H s.heap.objs.size=none:=I.ck.fresh (aar _);have I2:Inv X pins σ (upd H s.heap.objs.size (.tup [x,y])) { s with heap:=h2,toks:=s.toks } :=
   I1.JK (t':=s.toks) (I.Aq (aar _) OS) ⟨by show 2<=sizeLine;decide,[u1,u2],.cons UO (.cons UQ .nil),⟨_,ZM,rfl,_,rfl⟩⟩
  refine⟨.ref s.heap.objs.size,_,I2,rfl,⟨_,x,y,rfl,OS,rfl,fun Gy h=>by rw[I.JL h q1];exact hx,fun ZN h=>by rw[I.JL h q2];exact hy⟩,?_,fun c hc=>?_⟩
  ·have e1:∀ c o,c≠z->h'.get? c=some o->h2.get? c=some o:=fun c o hc e=>pA.extBut _ _ hc e;exact⟨Qg,e1 _ _ D.TIz (a7 _ _ D.TIz D.TITO D.TIi1 D.TIi2 ur),⟨_,_,e1 _ _ D.TOz a2⟩,(B3 (prog:=X.prog) (w:=X.w) k1 _ a).keep _ _ _ a3 fun o e=>e1 _ _ D.i1z e,(B3 (prog:=X.prog) (w:=X.w) k2 _ b).keep _ _ _ a4 fun o e=>e1 _ _ D.i2z e⟩
  ·have mB:c≠s.heap.objs.size:=by
    have:∃ o,s.heap.get? c=some o:=by
     simp only[aat,abl,adl]at hc;rcases hc with rfl | rfl | rfl | rfl | rfl
     ·exact⟨_,hz⟩
     ·exact⟨_,ur⟩
     ·exact⟨_,vX⟩
     ·obtain⟨o,e,_⟩:=(B3 (prog:=X.prog) (w:=X.w) k1 _ a).obj _ _ s1;exact⟨o,e⟩
     ·obtain⟨o,e,_⟩:=(B3 (prog:=X.prog) (w:=X.w) k2 _ b).obj _ _ s2;exact⟨o,e⟩
    obtain⟨o,e⟩:=this;exact(gh c o e).symm
   rw[bw mB];exact(hf c hc).1
 done:=by
  intro X hP hw hK hc i pins s σ H E I hf st hg;subst hP hw hK;obtain⟨hz,ur,⟨ta,tb,vX⟩,s1,s2⟩:=st;obtain⟨xs,ys,q1,q2,he⟩:=hg;obtain⟨Hj,r1,z1,g1⟩:=I.AK q1;obtain⟨wQ,r2,z2,g2⟩:=I.AK q2;have l1:=r1.length;have l2:=r2.length;have uu:rE k1 a s.heap i none\/(∃ x,rE k1 a s.heap i (some x))/\rE k2 b s.heap i none:=by
   by_cases h1:Hj.length<=i
   ·exact .inl (qa g1 h1)
   ·refine .inr ⟨⟨Hj[i],?_⟩,qa g2 (by omega)⟩;have q:=g1 i;rw[aas (by omega)]at q;exact q
  exact l4 (I.ok.hd hc) D (B3 k1 i1 a) (B3 k2 i2 b) hz ur vX s1 s2 uu fun h' k=>⟨rfl,I.yT (t':=s.toks) hf fun c o hc e=>by
   simp only[aat,abl,adl,not_or]at hc;exact k c o hc.1 hc.2.2.1 hc.2.2.2.1 hc.2.2.2.2 e⟩
 self:=fun _ _ _ _ _ st h=>wpAny_pyIter_zip st.1 h
def Mi(K:zn)(k1 k2:SK)(ta:TA):TI:=fun σ H R=>ta σ H fun vs H1=>∃ a b,vs=[.ref a,.ref b]/\(∃ xs,wR K k1 H1 a xs)/\(∃ ys,wR K k2 H1 b ys)/\R (UN K k1 k2 a b) H1
theorem C8{σ:St}{xs:List V}(I:Inv X pins σ H s):∀{k:SK},wR X.K k H a xs->a < s.heap.objs.size
 | .L,h=>by
  obtain⟨aQ,r,⟨o,n,ho,_⟩,z⟩:=I.list h;exact aay ho
 | .T,h=>by
  obtain⟨aQ,r,⟨o,ho,_⟩,z⟩:=I.tuple h;exact aay ho
theorem Mj(k1 k2:SK){elts:ut}{ek:Nat}{AM:Pos}{a b:Expr}{ta:TA}{p:Pos}(hg:Gl X "zip")(hm:X.mg "zip"=none)(ha:PA X [a,b] ta)(hs:autoParam (starEach [a,b] X.env=[(false,eval a X.env),(false,eval b X.env)]) ra0)(pA:autoParam (starEach [b] X.env=[(false,eval b X.env)]) ra0) :
  PI X (.Tuple elts ek AM) (.Call (.Name "zip" p) [a,b] [] pos) (Mi X.K k1 k2 ta):=by
 intro pins s σ H R I h;refine Call_ (jr I hg hm boot_zip (abX (cP (ha pos pins s σ H _ I h) fun us s1 ⟨vs,H1,I1,r1,q1⟩=>?_) (by rw[hs,pA]) (by rw[pA];rfl)));obtain⟨l1,l2,e,⟨xs,XI⟩,⟨ys,XJ⟩,q⟩:=q1;subst e;obtain⟨u1,u2,rfl,UO,UQ⟩:=vals2 r1;cases (show u1=Value.ref l1 from UO);cases (show u2=Value.ref l2 from UQ);obtain⟨Hj,_,_,g1⟩:=I1.AK XI;obtain⟨wQ,_,_,g2⟩:=I1.AK XJ;have e5:∀(h:Heap) (o:Obj),(h.push o).objs.size=h.objs.size+1:=fun h o=>abm ..;refine AL (g1 0) (g2 0) ?_;refine wpAny_pyIter_zip (s:={ s1 with heap:=gz s1.heap (bT (nE k1) l1) (bT (nE k2) l2) }) i7 ?_;have kp:∀ c o,s1.heap.get? c=some o->(gz s1.heap (bT (nE k1) l1) (bT (nE k2) l2)).get? c=some o:=fun c o x =>
  aam _ (aam _ (aam _ (aam _ (aam _ x))))
 refine⟨s1.heap.objs.size+4,[s1.heap.objs.size+4,s1.heap.objs.size+2,s1.heap.objs.size+3,s1.heap.objs.size,s1.heap.objs.size+1],_,_,H1,rfl,I1.kept (t':=s1.toks) kp,C7 (PyProof.Rows.zipApart_new (C8 I1 XI) (C8 I1 XJ)),?_,fun c hc=>?_,q⟩
 ·have g5:=i7 (h:=s1.heap) (o1:=bT (nE k1) l1) (o2:=bT (nE k2) l2);have z1:(s1.heap.push (bT (nE k1) l1)).objs.size=s1.heap.objs.size+1:=e5 _ _;have z2:((s1.heap.push (bT (nE k1) l1)).push (bT (nE k2) l2)).objs.size=s1.heap.objs.size+2:=by rw[e5,z1]
  have p4:(gz s1.heap (bT (nE k1) l1) (bT (nE k2) l2)).get? (s1.heap.objs.size+3)=some { cls:=.type "tuple",data:=.seq #[.none,.none] }:=by
   unfold gz;refine aam _ ?_;have e:s1.heap.objs.size+3=(((s1.heap.push (bT (nE k1) l1)).push (bT (nE k2) l2)).push { cls:=.type "tuple",data:=.seq #[.ref s1.heap.objs.size,.ref (s1.heap.objs.size+1)] }).objs.size:=by rw[e5,z2]
   rw[e];exact aaz _ rfl
  have p3:(gz s1.heap (bT (nE k1) l1) (bT (nE k2) l2)).get? (s1.heap.objs.size+2)=some { cls:=.type "tuple",data:=.seq #[.ref s1.heap.objs.size,.ref (s1.heap.objs.size+1)] }:=by
   unfold gz;refine aam _ (aam _ ?_);rw[<- z2];exact aaz _ rfl
  have p2:(gz s1.heap (bT (nE k1) l1) (bT (nE k2) l2)).get? (s1.heap.objs.size+1)=some (bT (nE k2) l2):=by
   unfold gz;refine aam _ (aam _ (aam _ ?_));rw[<- z1];exact aaz _ rfl
  have p1:(gz s1.heap (bT (nE k1) l1) (bT (nE k2) l2)).get? s1.heap.objs.size=some (bT (nE k1) l1):=by
   unfold gz;exact aam _ (aam _ (aam _ (aam _ (aaz _ rfl))))
  refine⟨g5,p3,⟨_,_,p4⟩,?_,?_⟩
  ·cases k1<;>exact⟨_,p1,rfl,rfl⟩
  ·cases k2<;>exact⟨_,p2,rfl,rfl⟩
 ·have hle:s1.heap.objs.size<=c:=by
   simp only[aat,abl,adl]at hc;rcases hc with rfl | rfl | rfl | rfl | rfl<;>omega
  exact I1.Aq hle (I1.ck.fresh hle)
abbrev wU(w:World):List DictEntry->List (Key×V)->Prop:=Paired fun e kv=>mO kv.1 e.key=true/\e.hash=O9 w kv.1/\RelV kv.2 e.val
structure AN(K:zn)(w:World)(a:Addr)(bO:List (Key×V)):Prop where
 ex:∃(es:Array DictEntry) (ep:Nat),K.lookup a=some ⟨.type "dict",none,.dict es ep,#[]⟩/\wU w es.toList bO
 nd:(bO.map (·.1)).Nodup
 ne:(a == sysModules)=false
theorem wU.out{P:sB}{w:World}:∀{es:List DictEntry} {bO:List (Key×V)},wU w es bO->∃ vs,Pairs (fA P w) es vs/\KV bO vs
 | _,_,.nil=>⟨[],.nil,.nil⟩
 | _,_,.cons (a:=e) (b:=kv) h t=>by
  obtain⟨vs,p,r⟩:=wU.out (P:=P) t;exact⟨(kv.1,e.val)::vs,.cons h.1 rfl p,.cons ⟨rfl,h.2.2⟩ r⟩
theorem wU.keys{P:sB}{w:World}:∀{es:List DictEntry} {bO:List (Key×V)},wU w es bO->∀ e∈es,∃ k,(fA P w).is k e.key=true/\e.hash=(fA P w).hash k
 | _,_,.nil,e,he=>nomatch he
 | _,_,.cons (b:=kv) h t,e,he=>by
  rcases aat.mp he with q | q
  ·subst q;exact⟨kv.1,h.1,h.2.1⟩
  ·exact wU.keys t e q
section
variable {σ:St}{bO:List (Key×V)}{k:Key}{v:V}{u:Value}
theorem AN.dict(I:Inv X pins σ H s)(m:AN X.K X.w a bO):∃ vs,KV bO vs/\s.heap.DictOf (fA X.prog X.w) a vs:=by
 obtain⟨⟨es,ep,hl,hm⟩,nd,_⟩:=m;obtain⟨vs,p,r⟩:=hm.out (P:=X.prog);exact⟨vs,r,_,es,ep,I.lC _ _ hl,⟨rfl,rfl,rfl⟩,rfl,fun e he=>hm.keys e (by simpa using he),p,by rw[<- r.keys];exact nd⟩
theorem AO{Q:xz}(I:Inv X pins σ H s)(m:AN X.K X.w a bO)(l:nh bO k=some v)(ry:RelV (kV k) u)(h:∀ w' s',Inv X pins σ H s'->RelV v w'->Q w' s') :
  wpAny (model X.prog X.w) A (getItem (.ref a) u) Q E s:=by
 obtain⟨vs,rel,dd⟩:=m.dict I;obtain⟨w',hw,Hd⟩:=lV.some_of (v:=v) (o:=valueAt vs k) (by rw[<- l];exact rel.val k);exact wpAny_getItem_of (PJ ry) dd.mapOf hw (h w' _ (I.tok _) Hd)
end
def C9(K:zn)(w:World)(td ty:TE):TE:=fun σ H Q=>td σ H fun x H1=>ty σ H1 fun y H2=>∃ a bO k v,x=.ref a/\AN K w a bO/\y=kV k/\nh bO k=some v/\Q v H2
section
variable {o i:Expr}{td ty:TE}
theorem Hk(ho:PE X o td)(hi:PE X i ty)(hs:G6 i):PE X (.Subscript o i pos) (C9 X.K X.w td ty):=by
 intro pins s σ H Q I h;refine G7 PySem.F.slot_dict_getitem.lookup hs (cP (ho pins s σ H _ I h) fun u s1 ⟨x,H1,I1,rx,q1⟩=>cP (hi pins s1 σ H1 _ I1 q1) fun iv s2 ⟨y,H2,I2,ry,a,bO,k,v,ex,m,ey,l,q2⟩=>?_);subst ex ey;obtain rfl:u=Value.ref a:=rx;obtain⟨vs,rel,dd⟩:=m.dict I2;exact⟨dd.typeIs,AO I2 m l ry fun w' s3 I3 Hd=>⟨v,H2,I3,Hd,q2⟩⟩
end
structure Dn(P:sB)(w:World)(K:zn)(mg:xL)(base:Heap)(k:Nat)(x:Str)(f:Addr)(fd:wT)(ps:wv)(sp:Sp):Prop where
 ok:ba P w K mg base cU k f fd ps sp
 b:Binds K fd ps []
 kp:PySem.W.keepIn K (.ref f)=true
 m:mg x=some (.ref f)
section
variable {k j:Nat}{f:Addr}{fd:wT}{ps:wv}{sp:Sp}{x:Str}{p:Pos}{e:Expr}{es:ut}{t:TA}
theorem Dc(D:Dn X.prog X.w X.K X.mg X.base k x f fd ps sp)(hr:cT j X.A)(ha:PA X (e::es) t)(hk:autoParam (k<=j) ra7)(hg:autoParam (Gl X x) ra0)(ug:autoParam ((x == ("__debug__":Str))=false) ra1)(he:autoParam (starEach (e::es) X.env=(false,eval e X.env)::starEach es X.env) ra0)(qZ:autoParam ((backTo pos (starEach es X.env)).any (·.1)=false) ra0) :
  PE X (.Call (.Name x p) (e::es) [] pos) (yI sp [] E0 t):=G3 D.ok (hr.mono hk) hg D.m D.kp D.b .nil yQ ha ug he qZ
end
theorem Qh{x:Str}{T:String}(hm:X.mg x=none)(hv:bootBuiltins x=some (.type T))(hg:autoParam (Gl X x) ra0)(hn:autoParam (x ≠ "__name__") ra1)(hd:autoParam ((x == ("__debug__":Str))=false) ra1):PE X (.Name x pos) (tC (.ty T)):=GN hg hm hv rfl hn hd
def Kp(t g:Addr)(H H':Hp):Prop:=∀ b o,H b=some o->b≠t->b≠g->H' b=some o
theorem lM:∀ ns:List Int,PyData.canLayAll0 (ns.map PyData.int)=true
 | []=>rfl
 | n::r=>by
  have h:=lM r;simp only[aaZ,PyData.canLayAll0,PyData.canLay0,h,Bool.and_self]
def Qi:PyData->String
 | .none => "NoneType"
 | .bool _ => "bool"
 | .int _ => "int"
 | .str _ => "str"
 | .list _ => "list"
 | .tuple _ => "tuple"
 | .dict _ => "dict"
theorem Dd{K:zn}:∀{d:PyData} {x:V},Rep H d x->jD K H x (.type (Qi d))
 | .none,_,h=>by cases h;exact .cS
 | .bool b,_,h=>by cases h;exact .bl b
 | .int i,_,h=>by cases h;exact .int i
 | .str s,_,h=>by cases h;exact .str s
 | .list ds,_,⟨a,xs,e,h,_⟩=>by subst e;exact .lst h
 | .tuple ds,_,⟨a,xs,e,h,_⟩=>by subst e;exact .tup h
 | .dict _,_,h=>h.elim
def Qj(d:PyData)(T:String):Bool:=Qi d == T||(Qi d == "bool"&&T == "int")
theorem Hl{K:zn}{T:String}(hT:T = "bool"\/T = "int"\/T = "str"\/T = "list"\/T = "tuple"):∀{d:PyData} {x:V},Rep H d x->PySem.W.kitOne K (.type (Qi d)) (.type T)=some (Qj d T)
 | .none,_,_=>by rcases hT with rfl | rfl | rfl | rfl | rfl<;>rfl
 | .bool b,_,_=>by rcases hT with rfl | rfl | rfl | rfl | rfl<;>rfl
 | .int i,_,_=>by rcases hT with rfl | rfl | rfl | rfl | rfl<;>rfl
 | .str s,_,_=>by rcases hT with rfl | rfl | rfl | rfl | rfl<;>rfl
 | .list ds,_,_=>by rcases hT with rfl | rfl | rfl | rfl | rfl<;>rfl
 | .tuple ds,_,_=>by rcases hT with rfl | rfl | rfl | rfl | rfl<;>rfl
 | .dict _,_,h=>h.elim
section
def Hm(T:String):List V->Hp->VK->Prop:=fun xs H Q=>∃ x d,xs=[x,.ty T]/\Rep H d x/\Q (.bl (Qj d T)) H
theorem AQ(T:String)(hT:T = "bool"\/T = "int"\/T = "str"\/T = "list"\/T = "tuple"):dG X (.builtin "isinstance") (Hm T):=by
 intro pins s σ H xs us Q I rv ⟨x,d,e,r,q⟩;exact uo pins s σ H xs us Q I rv ⟨x,T,.type (Qi d),Qj d T,e,Dd r,Hl hT r,q⟩
variable {e:Expr}{te:TE}{p pi:Pos}{x:Str}
theorem Ml(T:String)(mi:X.mg "isinstance"=none)(mT:X.mg x=none)(hb:bootBuiltins x=some (.type T))(he:PE X e te)(hT:T = "bool"\/T = "int"\/T = "str"\/T = "list"\/T = "tuple":=by simp)(gi:autoParam (Gl X "isinstance") ra0)(gT:autoParam (Gl X x) ra0)(hn:autoParam (x ≠ "__name__") ra1)(hd:autoParam ((x == ("__debug__":Str))=false) ra1)(h1:autoParam (starEach [e,.Name x p] X.env=(false,eval e X.env)::starEach [.Name x p] X.env) ra0) :
  PE X (.Call (.Name "isinstance" pi) [e,.Name x p] [] pos) (LX (Hm T) (nc te (nc (tC (.ty T)) ue))) :=
 ui (AQ T hT) gi mi PyProof.Rows.boot_isinstance (mw he (mw (Qh mT hb gT hn hd) wG rfl) h1) (by decide) (by decide) h1 rfl
end
end L2
namespace L2
open PySem PySem.Spec PyProof.Rows
variable {tg:Expr}{k:Nat}{r2:R2}{op:CmpOp}{T:String}
mutual
def Sm:PyData->Prop
 | .list ds=>ds.length < 1000000/\Dg ds
 | .tuple ds=>ds.length < 1000000/\Dg ds
 | _=>True
def Dg:wE->Prop
 | []=>True
 | d::ds=>Sm d/\Dg ds
end
noncomputable def rF:Expr->Option V
 | .Constant (.str x) _ _=>some (.str x)
 | .Constant (.int i) _ _=>some (.int i)
 | .Constant (.bool b) _ _=>some (.bl b)
 | .Constant .none _ _=>some .cS
 | _=>none
noncomputable def jI:ut->Option (List V)
 | []=>some []
 | e::r=>match rF e,jI r with
  | some v,some vs=>some (v::vs)
  | _,_=>none
def tK(vs:List V):TA:=fun _ H Q=>Q vs H
theorem wV(e:Expr)(es:ut)(env:Env)(h:(rF e).isSome=true):starEach (e::es) env=(false,eval e env)::starEach es env:=by
 cases e with
 | Constant c j pos=>rfl
 | _=>exact absurd h aaC
theorem AR{X:Cx}{e:Expr}{v:V}(h:rF e=some v):PE X e (tC v):=by
 cases e with
 | Constant c j pos =>
  cases c with
  | str x=>cases h;exact Cj
  | int i=>cases h;exact Cg
  | bool b=>cases h;exact Jz
  | none=>cases h;exact Ci
  | _=>exact nomatch h
 | _=>exact nomatch h
theorem qb{X:Cx}:∀{es:ut} {vs:List V},jI es=some vs->PA X es (tK vs)
 | [],vs,h=>by cases h;exact wG
 | e::r,vs,h=>by
  unfold jI at h;cases h1:rF e with
  | none=>rw[h1]at h;cases h
  | some v =>
   cases h2:jI r with
   | none=>rw[h1,h2]at h;cases h
   | some ws =>
    rw[h1,h2]at h;cases h;exact mw (AR h1) (qb h2) (wV e r X.env (by rw[h1];rfl))
structure SE(X:Cx)(e:Expr)(t:TE):Prop where
 run:PE X e t
structure ST(X:Cx)(e:Expr)(t:TT):Prop where
 run:PT X e t
structure SW(X:Cx)(e:Expr)(t:TT):Prop where
 run:PW X e t
structure SA(X:Cx)(es:ut)(t:TA):Prop where
 run:PA X es t
structure SS(X:Cx)(st:Stmt)(t:TS):Prop where
 run:PS X st t
structure tR(X:Cx)(st:tx)(t:TS):Prop where
 run:yy X st t
structure SG(X:Cx)(e:Expr)(t:TG):Prop where
 run:PG X e t
structure Th(X:Cx)(e:ut)(t:vV):Prop where
 run:OL X e t
structure SI(X:Cx)(tg e:Expr)(t:TI):Prop where
 run:PI X tg e t
structure SO(X:Cx)(e:Option Expr)(t:TO):Prop where
 run:PO X e t
def noStar:Expr->Bool
 | .Starred _ _=>false
 | _=>true
theorem cI{e:Expr}(es:ut)(env:Env)(h:noStar e=true):starEach (e::es) env=(false,eval e env)::starEach es env:=by
 cases e with
 | Starred _ _=>exact nomatch h
 | _=>rfl
theorem eQ{pos:Pos}{env:Env}:∀{es:ut},es.all noStar=true->(backTo pos (starEach es env)).any (·.1)=false
 | [],_=>rfl
 | e::r,h=>by
  rw[aba,aaK]at h;rw[cI r env h.1];have q:=eQ (pos:=pos) (env:=env) h.2;unfold backTo at q ⊢;simpa using q
section
variable {X:Cx}{st:Stmt}{rest a b:tx}{t u:TS}{e c l r o i:Expr}{es:ut}{te ta tb tc to ti tl tr:TE}{tt tu:TT}{ts:TA}{pos p pos' apos eY:Pos}{j:Nat}{x:Str}
theorem aC:tR X [] Cr:=⟨GR⟩
theorem ae(h1:SS X st t)(h2:tR X rest u):tR X (st::rest) (Lo t u):=⟨Cs h1.run h2.run⟩
theorem ai(h1:SS X st t):tR X [st] t:=⟨GS h1.run⟩
theorem ay(he:SE X e te):SS X (.Return (some e) pos) (Lp te):=⟨Lq he.run⟩
theorem cM(he:SE X e te)(hs:autoParam (swapsWith e none pos.line X.env=pure false) ra0):SS X (.Expr e pos) (Ct te):=⟨GU he.run hs⟩
theorem bj(hc:ST X c tt)(ha:tR X a t)(hb:tR X b u):SS X (.If c a b pos) (Lr tt t u):=⟨Pm hc.run ha.run hb.run⟩
theorem aA(i:Nat)(hN:X.N.Nodup)(he:SE X e te)(hi:autoParam (X.N[i]?=some x) ra0)(hx:Loc X.env.scope x:=by first | exact Or.inl rfl | exact Or.inr rfl)(hs:autoParam (swapsWith e (some (.Name x pos')) pos.line X.env=pure false) ra0)(hf:autoParam (X.fn x=true\/X.env.scope.names.lookup x=some .local) ra4):SS X (.Assign [.Name x pos'] e pos) (wx te (mR i)):=⟨Lz hN hi hx he.run hs hf⟩
theorem nF{g:TG}(he:SE X e te)(hg:SG X tg g)(hs:autoParam (swapsWithSole [tg] e pos.line X.env=pure false) ra0)(hw:autoParam (swappedStores [tg] e X.env=pure none) ra0)(h1:autoParam ((assignEach [tg] X.env).map (·.2)=[assign tg X.env]) ra0):SS X (.Assign [tg] e pos) (wx te g):=⟨Ly he.run hg.run hs hw h1⟩
theorem Hn{body:tx}{tb:TS}(hc:ST X c tt)(hb:tR X body tb)(hp:PassesOwn (model X.prog X.w) X.A X.env X.xe:=by exact PassesOwn.never):SS X (.While c body [] pos) (wy tt tb):=⟨Cw hp hc.run hb.run⟩
theorem gn{iter:Expr}{body:tx}{wi:TI}{g:TG}{tb:TS}(hi:SI X tg iter wi)(hg:SG X tg g)(hb:tR X body tb)(hp:PassesOwn (model X.prog X.w) X.A X.env X.xe:=by exact PassesOwn.never)(hc:autoParam (X.calm=true) ra0)(hs:autoParam (∀ x,foldedSetIterable iter X.env x=pure x) ra2):SS X (.For tg iter body [] pos) (LB wi g tb):=⟨LC hp hc hi.run hg.run hb.run hs⟩
theorem aO(i:Nat)(hN:X.N.Nodup)(hi:autoParam (X.N[i]?=some x) ra0)(hx:Loc X.env.scope x:=by first | exact Or.inl rfl | exact Or.inr rfl)(hf:autoParam (X.fn x=true\/X.env.scope.names.lookup x=some .local) ra4):SG X (.Name x pos) (mR i):=⟨GW hN hi hx hf⟩
theorem Dh{t:GV}(ho:SE X o to)(hi:SE X i ti)(hs:Ls X t)(ha:∀ v,assign (.Subscript o i pos) X.env v=(do
   let ov <- holding [v] (eval o X.env)
   let iv <- holding [v,ov] (eval i X.env)
   standAt pos
   holding [v,ov,iv] (setItem ov iv v)
   release [v,ov,iv] []):=by intro _;rfl):SG X (.Subscript o i pos) (Lw to ti t):=⟨Lx ho.run hi.run hs ha⟩
theorem fN:Th X [] Lu:=⟨GX⟩
theorem bo{tg:TG}{Qk:vV}(h1:SG X e tg)(h2:Th X es Qk)(hs:autoParam ((assignEach (e::es) X.env).map (·.2)=assign e X.env::(assignEach es X.env).map (·.2)) ra0):Th X (e::es) (Cu tg Qk):=⟨Cv h1.run h2.run hs⟩
theorem dQ(hl:SE X l tl):SI X tg l (Cy X.K tl):=⟨GY hl.run⟩
theorem cC(hm:X.mg "range"=none)(ha:SA X [e] ts)(hn:autoParam (noStar e=true) ra0)(hg:autoParam (Gl X "range") ra0):SI X tg (.Call (.Name "range" p) [e] [] pos) (CA ts) :=
 ⟨As hg hm ha.run (cI [] X.env hn)⟩
theorem JM(k1 k2:SK){elts:ut}{ek:Nat}{AM:Pos}(hm:X.mg "zip"=none)(ha:SA X [e,c] ts)(hn:autoParam (noStar e=true) ra0)(Gx:autoParam (noStar c=true) ra0)(hg:autoParam (Gl X "zip") ra0) :
  SI X (.Tuple elts ek AM) (.Call (.Name "zip" p) [e,c] [] pos) (Mi X.K k1 k2 ts) :=
 ⟨Mj k1 k2 hg hm ha.run (by rw[cI [c] X.env hn,cI [] X.env Gx];rfl) (cI [] X.env Gx)⟩
theorem ag:SA X [] ue:=⟨wG⟩
theorem aa(ha:SE X e te)(hr:SA X es ts)(hs:autoParam (noStar e=true) ra0):SA X (e::es) (nc te ts):=⟨mw ha.run hr.run (cI es X.env hs)⟩
theorem gH{vs:List V}(h:jI es=some vs):SA X es (tK vs):=⟨qb h⟩
theorem bg(h:SA X es ts):SE X (.Tuple es k pos) (LR ts):=⟨LU h.run⟩
theorem cm(h:SA X es ts):SE X (.List es pos) (G2 ts):=⟨LV h.run⟩
theorem ah(i:Nat)(hN:autoParam (X.N[i]?=some x) ra0)(hv:SV X.env.scope x:=by first | exact Or.inl rfl | exact Or.inr (Or.inl rfl) | exact Or.inr (Or.inr rfl))(hd:autoParam ((x == ("__debug__":Str))=false) ra1)(An:autoParam ((x == ("__classdict__":Str))=false) ra1):SE X (.Name x pos) (La i):=⟨Lb hN hv hd An⟩
theorem af{n:Int}:SE X (.Constant (.int n) j pos) (tC (.int n)):=⟨Cg⟩
theorem AS{k:Bool}:SE X (.Constant (.bool k) j pos) (tC (.bl k)):=⟨Jz⟩
theorem fh:SE X (.Constant .none j pos) (tC .cS):=⟨Ci⟩
theorem aJ{s:Str}:SE X (.Constant (.str s) j pos) (tC (.str s)):=⟨Cj⟩
theorem Ql{a:Addr}(hm:X.mg x=some (.ref a))(hg:autoParam (Gl X x) ra0)(hd:autoParam ((x == ("__debug__":Str))=false) ra1):SE X (.Name x pos) (tC (.ref a)):=⟨yz hg hm rfl hd⟩
theorem JN{n:Int}{tk:Tok}(hm:X.mg x=some (.int n tk))(hg:autoParam (Gl X x) ra0)(hd:autoParam ((x == ("__debug__":Str))=false) ra1):SE X (.Name x pos) (tC (.int n)):=⟨yz hg hm ⟨tk,rfl⟩ hd⟩
theorem aT{op:Operator}(ho:gE X (binaryOp op) r2)(ha:SE X l tl)(hb:SE X r tr):SE X (.BinOp l op r pos) (B1 r2 tl tr):=⟨Pq ho ha.run hb.run⟩
theorem Di{op:UnaryOp}{r1:V->Hp->VK->Prop}(ho:S4 X (unaryOp op) r1)(ha:SE X l tl):SE X (.UnaryOp op l pos) (S5 r1 tl):=⟨Pt ho ha.run⟩
theorem jJ(ho:gE X (compareOp op) r2)(ha:SE X l tl)(hb:SE X r tr)(h1:autoParam (op≠.In) ra1)(h2:autoParam (op≠.NotIn) ra1):SE X (.Compare l [op] [r] pos) (B1 r2 tl tr):=⟨yF ho ha.run hb.run (CD r h1 h2)⟩
theorem aG(ho:gE X (compareOp op) r2)(ha:SE X l tl)(hb:SE X r tr)(h1:autoParam (op≠.In) ra1)(h2:autoParam (op≠.NotIn) ra1):ST X (.Compare l [op] [r] pos) (yG (B1 r2 tl tr)):=⟨yH ho ha.run hb.run (CD r h1 h2)⟩
theorem Qm(ho:gE X (compareOp op) r2)(ha:SE X l tl)(hb:SE X r tr)(hm:autoParam (behindInMarks op r=false) ra3):SE X (.Compare l [op] [r] pos) (B1 r2 tl tr):=⟨yF ho ha.run hb.run hm⟩
theorem Dj(ho:gE X (compareOp op) r2)(ha:SE X l tl)(hb:SE X r tr)(hm:autoParam (behindInMarks op r=false) ra3):ST X (.Compare l [op] [r] pos) (yG (B1 r2 tl tr)):=⟨yH ho ha.run hb.run hm⟩
theorem JO(ha:SE X l tl):SE X (.Compare l [.Is] [.Constant .none k pos'] pos) (GO tl):=⟨Lc (Cm ha.run)⟩
theorem jK(ha:SE X l tl):ST X (.Compare l [.Is] [.Constant .none k pos'] pos) (tB (GO tl)):=⟨Cn (Cm ha.run)⟩
theorem rG(ha:SE X l tl):ST X (.Compare l [.IsNot] [.Constant .none k pos'] pos) (tB (Ck tl)):=⟨Cn (GP ha.run)⟩
theorem Ho{LK:CmpOp}{r1:R2}(ho:gE X (compareOp op) r1)(Cd:gE X (compareOp LK) r2)(ha:SE X l tl)(hb:SE X r tr)(hc:SE X c tc)(hm:autoParam (lastMarks [op,LK] [r,c]=false) ra3):SE X (.Compare l [op,LK] [r,c] pos) (wB r1 r2 tl tr tc):=⟨CF ho Cd ha.run hb.run hc.run hm⟩
theorem dR(ha:ST X e tt):SW X (.BoolOp .And [e] pos) tt:=⟨GQ ha.run⟩
theorem yU(ha:ST X e tt):SW X (.BoolOp .Or [e] pos) tt:=⟨Lh ha.run⟩
theorem w_and(ha:ST X e tt)(hb:SW X (.BoolOp .And (c::es) pos) tu):SW X (.BoolOp .And (e::c::es) pos) (Le tt tu):=⟨Li ha.run hb.run⟩
theorem w_or(ha:ST X e tt)(hb:SW X (.BoolOp .Or (c::es) pos) tu):SW X (.BoolOp .Or (e::c::es) pos) (Um tt tu):=⟨Pj ha.run hb.run⟩
theorem rH(h:SW X e tt):ST X e tt:=⟨h.run.pt⟩
theorem nG(ha:ST X e tt):ST X (.UnaryOp .Not e pos) (Lg tt):=⟨Lj ha.run⟩
theorem tS(h:SE X e te)(he:autoParam (∀ whole,isTrue e X.env whole=(do let v <- whole;standAt e.pos;holding [v] (truthy v))) ra2):ST X e (tB te):=⟨Ld h.run he⟩
theorem Dk{op:BoolOp}(h:SE X e te):SE X (.BoolOp op [e] pos) te:=⟨Ll h.run⟩
theorem JP(ha:SE X e te)(hb:SE X (.BoolOp .And (c::es) pos) tb):SE X (.BoolOp .And (e::c::es) pos) (Co te tb):=⟨Lm ha.run hb.run⟩
theorem US(ha:SE X e te)(hb:SE X (.BoolOp .Or (c::es) pos) tb):SE X (.BoolOp .Or (e::c::es) pos) (Lk te tb):=⟨Pk ha.run hb.run⟩
theorem Qn(ha:SE X e te):SE X (.UnaryOp .Not e pos) (Cp te):=⟨Ln ha.run⟩
theorem rJ(hc:ST X c tt)(ha:SE X l tl)(hb:SE X r tr):SE X (.IfExp c l r pos) (Uo tt tl tr):=⟨Cq hc.run ha.run hb.run⟩
theorem ao(ha:SE X l tl)(hb:SE X r tr)(hs:autoParam (yN r) ra8):SE X (.Subscript l r pos) (B1 (Tc X.K) tl tr):=⟨PM L1 ha.run hb.run hs⟩
theorem Mm(ha:SE X l tl)(hb:SE X r tr)(hs:autoParam (G6 r) ra8):SE X (.Subscript l r pos) (C9 X.K X.w tl tr):=⟨Hk ha.run hb.run hs⟩
theorem fO:SO X none rh:=⟨G9⟩
theorem fQ(h:SE X e te):SO X (some e) (CN te):=⟨Ha h.run⟩
theorem nH{lo hi:Option Expr}{XM XN:TO}{r4:V->v0->v0->Hp->VK->Prop}(hr:Tb X r4)(he:SE X e te)(hl:SO X lo XM)(hu:SO X hi XN):SE X (.Subscript e (.Slice lo hi none p) pos) (Ux r4 te XM XN):=⟨CO hr he.run hl.run hu.run⟩
theorem ar{f:Addr}{fd:wT}{ps:wv}{sp:Sp}(D:Dn X.prog X.w X.K X.mg X.base k x f fd ps sp)(hr:cT j X.A)(ha:SA X (e::es) ts)(hk:autoParam (k<=j) ra7)(hs:autoParam ((e::es).all noStar=true) ra0)(hg:autoParam (Gl X x) ra0)(ug:autoParam ((x == ("__debug__":Str))=false) ra1):SE X (.Call (.Name x p) (e::es) [] pos) (yI sp [] E0 ts) :=
 ⟨Dc D hr ha.run hk hg ug (cI es X.env (by rw[aba,aaK]at hs;exact hs.1)) (eQ (by rw[aba,aaK]at hs;exact hs.2))⟩
theorem bD{id:String}{rr:List V->Hp->VK->Prop}(hc:dG X (.builtin id) rr)(hm:X.mg x=none)(hv:bootBuiltins x=some (.builtin id))(ha:SA X (e::es) ts)(hs:autoParam ((e::es).all noStar=true) ra0)(hg:autoParam (Gl X x) ra0)(hn:autoParam (x ≠ "__name__") ra1)(ug:autoParam ((x == ("__debug__":Str))=false) ra1) :
  SE X (.Call (.Name x p) (e::es) [] pos) (LX rr ts) :=
 ⟨ui hc hg hm hv ha.run hn ug (cI es X.env (by rw[aba,aaK]at hs;exact hs.1)) (eQ (by rw[aba,aaK]at hs;exact hs.2))⟩
theorem gJ{rr:List V->Hp->VK->Prop}(hc:dG X (.type T) rr)(hm:X.mg x=none)(hv:bootBuiltins x=some (.type T))(ha:SA X (e::es) ts)(hs:autoParam ((e::es).all noStar=true) ra0)(hg:autoParam (Gl X x) ra0)(hn:autoParam (x ≠ "__name__") ra1)(ug:autoParam ((x == ("__debug__":Str))=false) ra1) :
  SE X (.Call (.Name x p) (e::es) [] pos) (LX rr ts) :=
 ⟨AE hc hg hm hv ha.run hn ug (cI es X.env (by rw[aba,aaK]at hs;exact hs.1)) (eQ (by rw[aba,aaK]at hs;exact hs.2))⟩
theorem gS{name:Str}{id:String}{rr:V->List V->Hp->VK->Prop}(pa:PlainAttrs T)(slot:Slot T name id)(UB:typeOf (.builtin id)=pure (.type "method_descriptor"))(hm:XD X id rr)(ho:SE X o to)(ha:SA X (e::es) ts)(hs:autoParam ((e::es).all noStar=true) ra0)(CQ:autoParam (attributeBase o name X.env (eval o X.env)=eval o X.env) ra0)(L6:((backTo eY (starEach (e::es) X.env)).all (fun x=>!x.1)&&(backToKw eY (keywordEach [] X.env)).all (fun x=>x.1.isSome)
   && decide ((e::es).length+([]:List Keyword).length+(if([]:List Keyword).isEmpty then 0 else 1) < 30))=true:=by rfl)(CS:(apos.endLine == eY.line)=true:=by rfl):SE X (.Call (.Attribute o name apos) (e::es) [] eY) (UA X.K T rr to ts) :=
 ⟨PV pa slot UB hm ho.run ha.run CQ L6 CS (cI es X.env (by rw[aba,aaK]at hs;exact hs.1)) (eQ (by rw[aba,aaK]at hs;exact hs.2))⟩
theorem yV(mi:X.mg "isinstance"=none)(mT:X.mg x=none)(hb:bootBuiltins x=some (.type T))(he:SE X e te)(hT:T = "bool"\/T = "int"\/T = "str"\/T = "list"\/T = "tuple":=by simp)(h1:autoParam (noStar e=true) ra0)(gi:autoParam (Gl X "isinstance") ra0)(gT:autoParam (Gl X x) ra0)(hn:autoParam (x ≠ "__name__") ra1)(hd:autoParam ((x == ("__debug__":Str))=false) ra1) :
  SE X (.Call (.Name "isinstance" pos') [e,.Name x p] [] pos) (LX (Hm T) (nc te (nc (tC (.ty T)) ue))):=⟨Ml T mi mT hb he.run hT gi gT hn hd (cI [.Name x p] X.env h1)⟩
end
theorem cL.Mn{P:sB}{w:World}{K:zn}{mg:xL}{base:Heap}{x qual:Str}{st:Stmt}{f:Addr}{fd:wT}{N ps:wv}{sp:Sp}(F:cL K x qual st f fd)(S:av N ps (defScope st))(len:∀ vs H Q E,sp vs H Q E->vs.length=ps.length)(c7:∀(bC:Value) (A:sK) (outer:List Env) (s:Shared) (H:Hp) (vs:List V) (Q:VK) (E:XK),cT k (A.deeper (envOfC qual (defScope st) s.heap.objs.size f bC))->sp vs H Q E ->
   ∃ t,tR (eW cU P w K mg base N qual (defScope st) f bC A outer s H E).Ap (defBody st) t/\t { nx:=fun _ H'=>Q .cS H',rt:=Q } (start N vs) H):ba P w K mg base cU (k+1) f fd ps sp :=
 F.ok S len fun bC A outer s H vs Q E hr h=>by
  obtain⟨t,h1,h2⟩:=c7 bC A outer s H vs Q E hr h;exact⟨t,h1.run,h2⟩
end L2
namespace L2
open PySem PySem.Spec PyProof.Rows
variable {env:Env}{scope:Scope}{cells:List (Str×Addr)}{x:Str}{c:Addr}{s:Shared}{X:Cx}{N':wv}{ix:List (Option Nat)}{pins:yp}{H H':Hp}{elt iter:Expr}{ifs:ut}{pos:Pos}{tt:TT}{g:TG}{te:TE}{A B p:Prop}
noncomputable def gU(cells:List (Str×Addr)):List (Str×NameKind)->List (Str×Addr)->List (Str×Addr)
 | [],cs=>cs
 | (n,k)::r,cs=>gU cells r (if k == .free then(match cells.lookup n with | some a=>(n,a)::cs | none=>cs)else cs)
theorem qc{env:Env}:∀(ns:List (Str×NameKind)) (cs:List (Str×Addr)),(∀ y∈ns,y.2=.free->∃ c,env.cells.lookup y.1=some c) ->
  (forIn ns cs fun x r=>match x with | (name,kind)=>if(kind == NameKind.free)=true then do let a <- cellOf env name;pure (ForInStep.yield ((name,a)::r))else pure (ForInStep.yield r))=(pure (gU env.cells ns cs):Sem (List (Str×Addr)))
 | [],cs,_=>rfl
 | (n,k)::r,cs,h=>by
  have ih:=fun ZO=>qc (env:=env) r ZO fun y hy=>h y (aaw _ hy);rw[adX];cases hk:k == NameKind.free with
  | false =>
   have e:gU env.cells ((n,k)::r) cs=gU env.cells r cs:=by simp[gU,hk]
   rw[e,<- ih cs];simp[hk]
  | true =>
   have Dl:k=.free:=by simpa using hk
   obtain⟨c,hc⟩:=h (n,k) aax Dl;have Cf:env.cells.lookup n=some c:=hc;have e:gU env.cells ((n,k)::r) cs=gU env.cells r ((n,c)::cs):=by simp[gU,hk,Cf]
   rw[e,<- ih ((n,c)::cs)];have ZP:cellOf env n=pure c:=by unfold cellOf;rw[Cf]
   simp[hk,ZP]
theorem nI(h:∀ y∈scope.names,y.2=.free->∃ c,env.cells.lookup y.1=some c):closureFor scope env=pure (gU env.cells scope.names []):=by
 unfold closureFor;have:=qc (env:=env) scope.names [] h;simp only at this ⊢;rw[this]
 rfl
theorem rK{cells:List (Str×Addr)}{x:Str}{c:Addr}:∀(ns:List (Str×NameKind)) (cs:List (Str×Addr)),(∀ z d,cs.lookup z=some d->cells.lookup z=some d)->(gU cells ns cs).lookup x=some c->cells.lookup x=some c
 | [],cs,h,e=>h x c e
 | (n,k)::r,cs,h,e=>by
  refine rK r _ (fun z d=>?_) e;split
  ·split
   ·rename_i a ha;intro q;rw[abd]at q;split at q
    ·rename_i hz;have:z=n:=by simpa using hz
     subst this;cases q;exact ha
    ·exact h z d q
   ·exact h z d
  ·exact h z d
theorem mD{cells:List (Str×Addr)}{x:Str}:∀(ns:List (Str×NameKind)) (cs:List (Str×Addr)),((cs.lookup x).isSome=true\/((x,NameKind.free)∈ns/\(cells.lookup x).isSome=true))->((gU cells ns cs).lookup x).isSome=true
 | [],cs,h=>by
  rcases h with h | ⟨h,_⟩
  ·exact h
  ·cases h
 | (n,k)::r,cs,h=>by
  refine mD r _ ?_;have keep:(cs.lookup x).isSome=true->((if k == .free then(match cells.lookup n with | some a=>(n,a)::cs | none=>cs)else cs).lookup x).isSome=true:=fun q=>by
   split
   ·split
    ·rw[abd];split
     ·rfl
     ·exact q
    ·exact q
   ·exact q
  rcases h with h | ⟨h,hc⟩
  ·exact .inl (keep h)
  ·rcases aat.mp h with e | e
   ·injection e with e1 e2
    subst e1;subst e2;left;cases q:cells.lookup x with
    | none=>rw[q]at hc;cases hc
    | some a=>simp
   ·exact .inr ⟨e,hc⟩
theorem jL{env:Env}{x:Str}{k':NameKind}:∀{names:List (Str×NameKind)},(names.map fun(n,k)=>if(k == NameKind.free&&env.scope.kind == .function&&env.kindOf n == some .cell) then(n,NameKind.cell) else(n,k)).lookup x=some k' ->
  ∃ k,(x,k)∈names/\(k'=k\/(k=.free/\k'=.cell))
 | [],h=>by simp at h
 | (n,k)::r,h=>by
  have ih:=@jL env x k' r;rw[aaZ]at h
  by_cases hc:(k == NameKind.free&&env.scope.kind == .function&&env.kindOf n == some .cell)=true
  ·simp only[hc,acW,abd]at h;split at h
   ·rename_i hz;have:x=n:=by simpa using hz
    subst this;cases h;have hk:k=.free:=by
     rw[aaK,aaK]at hc;simpa using hc.1.1
    exact⟨k,aax,.inr ⟨hk,rfl⟩⟩
   ·obtain⟨k2,m,q⟩:=ih h;exact⟨k2,aaw _ m,q⟩
  ·simp only[hc,ab4,ady,abd]at h;split at h
   ·rename_i hz;have:x=n:=by simpa using hz
    subst this;cases h;exact⟨_,aax,.inl rfl⟩
   ·obtain⟨k2,m,q⟩:=ih h;exact⟨k2,aaw _ m,q⟩
theorem mem_of_lookup{x:Str}{k:NameKind}:∀(l:List (Str×NameKind)),l.lookup x=some k->(x,k)∈l
 | [],q=>by cases q
 | (n,k2)::r,q=>by
  rw[abd]at q;split at q
  ·rename_i hz;have:x=n:=by simpa using hz
   subst this;cases q;exact aax
  ·exact aaw _ (mem_of_lookup r q)
theorem kJ{x:Str}{c:Addr}:∀(names:List (Str×NameKind)) (n:Nat) (acc:List (Str×Addr)),(cellsFrom n names acc).lookup x=some c->acc.lookup x=some c\/(n<=c/\(x,NameKind.cell)∈names)
 | [],_,_,h=>.inl h
 | (y,k)::r,n,acc,h=>by
  unfold cellsFrom at h;split at h
  ·rename_i hk;have Dl:k=.cell:=by simpa using hk
   rcases kJ r _ _ h with q | ⟨q,m⟩
   ·rw[abd]at q;split at q
    ·rename_i hz;have:x=y:=by simpa using hz
     subst this;subst Dl;cases q;exact .inr ⟨aar _,aax⟩
    ·exact .inl q
   ·exact .inr ⟨aaA (abM _) q,aaw _ m⟩
  ·exact(kJ r _ _ h).imp id fun⟨a,b⟩=>⟨a,aaw _ b⟩
theorem iJ{x:Str}:∀(names:List (Str×NameKind)) (n:Nat) (acc:List (Str×Addr)),(x,NameKind.cell) ∉ names->(cellsFrom n names acc).lookup x=acc.lookup x
 | [],_,_,_=>rfl
 | (y,k)::r,n,acc,h=>by
  have hr:(x,NameKind.cell) ∉ r:=fun z=>h (aaw _ z);unfold cellsFrom;split
  ·rename_i hk;have Dl:k=.cell:=by simpa using hk
   rw[iJ r _ _ hr,abd];split
   ·rename_i hz;have:x=y:=by simpa using hz
    subst this;subst Dl;exact absurd aax h
   ·rfl
  ·exact iJ r _ _ hr
theorem wW{x:Str}:∀(names:List (Str×NameKind)) (n:Nat) (acc:List (Str×Addr)),((acc.lookup x).isSome=true\/(x,NameKind.cell)∈names)->((cellsFrom n names acc).lookup x).isSome=true
 | [],_,_,h=>h.elim id fun z=>nomatch z
 | (y,k)::r,n,acc,h=>by
  unfold cellsFrom;split
  ·rename_i hk;refine wW r _ _ ?_;rcases h with h | h
   ·left;rw[abd];split
    ·rfl
    ·exact h
   ·rcases aat.mp h with e | e
    ·injection e with e1 _
     left;rw[e1,abd,adS]
     rfl
    ·exact .inr e
  ·rename_i hk;refine wW r _ _ (h.imp id fun z=>?_);rcases aat.mp z with e | e
   ·injection e with _ e2
    rw[<- e2]at hk;exact absurd rfl hk
   ·exact e
theorem wX{x:Str}{c:Addr}:∀(names:List (Str×NameKind)) (n:Nat) (acc:List (Str×Addr)),((x,NameKind.cell)∈names\/∀ d,acc.lookup x=some d->n<=d)->(cellsFrom n names acc).lookup x=some c->n<=c
 | [],_,_,h,e=>h.elim (fun z=>nomatch z) fun z=>z c e
 | (y,k)::r,n,acc,h,e=>by
  unfold cellsFrom at e;split at e
  ·rename_i hk
   by_cases hm:(x,NameKind.cell)∈r
   ·exact aaA (abM _) (wX r _ _ (.inl hm) e)
   ·rw[iJ r _ _ hm,abd]at e;split at e
    ·cases e;exact aar _
    ·rename_i hz;rcases h with h | h
     ·rcases aat.mp h with q | q
      ·injection q with q1 _
       rw[q1,adS]at hz;cases hz
      ·exact absurd q hm
     ·exact h c e
  ·rename_i hk;refine wX r _ _ (h.imp (fun z=>?_) id) e;rcases aat.mp z with q | q
   ·injection q with _ q2
    rw[<- q2]at hk;exact absurd rfl hk
   ·exact q
theorem wY{n0:Nat}:∀(names:List (Str×NameKind)) (n:Nat) (acc:List (Str×Addr)),(∀ p∈acc,p.2 < n)->(∀ p∈acc,∀ q∈acc,n0<=p.2->p.2=q.2->p.1=q.1)->∀ p∈cellsFrom n names acc,∀ q∈cellsFrom n names acc,n0<=p.2->p.2=q.2->p.1=q.1
 | [],_,_,_,h=>h
 | (y,k)::r,n,acc,hl,h=>by
  unfold cellsFrom;split
  ·refine wY r (n+1) ((y,n)::acc) (fun p hp=>?_) fun p hp q hq h0 he=>?_
   ·rcases aat.mp hp with e | e
    ·rw[e];exact abI _
    ·exact adF (hl p e)
   ·rcases aat.mp hp with e | e<;>rcases aat.mp hq with e' | e'
    ·rw[e,e']
    ·rw[e]at he;exact absurd (hl q e') (by rw[<- he];exact aa6 _)
    ·rw[e']at he;exact absurd (hl p e) (by rw[he];exact aa6 _)
    ·exact h p e q e' h0 he
  ·exact wY r n acc hl h
theorem rL:∀(names:List (Str×NameKind)) (h:Heap) (acc:List (Str×Addr)) (p:Str×Addr),p∈cellsFrom h.objs.size names acc->p∈acc\/(pushCells h names).IsCell p.2 none
 | [],_,_,_,m=>.inl m
 | (y,k)::r,h,acc,p,m=>by
  unfold cellsFrom at m;unfold pushCells;split at m
  ·rename_i hk;rw[aaN hk];have:=rL r (h.push { cls:=.type "cell",data:=.cell none }) ((y,h.objs.size)::acc) p (by rw[abm];exact m);rcases this with q | q
   ·rcases aat.mp q with e | e
    ·rw[e];exact .inr ⟨_,pushCells_keeps r _ _ _ (aaz _ rfl),rfl⟩
    ·exact .inl e
   ·exact .inr q
  ·rename_i hk;rw[aaD hk];exact rL r h acc p m
theorem mE{cells:List (Str×Addr)}{p:Str×Addr}:∀(ns:List (Str×NameKind)) (cs:List (Str×Addr)),p∈gU cells ns cs->p∈cs\/cells.lookup p.1=some p.2
 | [],_,h=>.inl h
 | (n,k)::r,cs,h=>by
  unfold gU at h;rcases mE r _ h with q | q
  ·split at q
   ·split at q
    ·rename_i a ha;rcases aat.mp q with e | e
     ·rw[e];exact .inr ha
     ·exact .inl e
    ·exact .inl q
   ·exact .inl q
  ·exact .inr q
theorem mem_lookup{x:Str}{c:Addr}:∀{l:List (Str×Addr)},l.lookup x=some c->(x,c)∈l
 | [],q=>by cases q
 | (n,k2)::r,q=>by
  rw[abd]at q;split at q
  ·rename_i hz;have:x=n:=by simpa using hz
   subst this;cases q;exact aax
  ·exact aaw _ (mem_lookup q)
theorem wZ{M:Model}{A:sK}{E:xz}{globals:Addr}{closure:List (Str×Addr)}{qual:Str}{Q:Env->Shared->Prop}(hQ:∀ h',h'=pushCells (s.heap.push { cls:=.type "dict",data:=.dict #[] }) scope.names->h'.Ns s.heap.objs.size (fun _=>none) ->
   Q (newEnv scope s.heap.objs.size globals (cellsFrom (s.heap.objs.size+1) scope.names closure) qual none .none (some env) builtinsNs) { s with heap:=h' }) :
  wpAny M A (newFunctionEnv scope globals closure [] qual none .none (some env)) Q E s:=by
 simp only[newFunctionEnv,Option.isSome_some,acW];refine aak (wpAny_alloc ?_);refine aak (wpAny_layCells _ (fun name kind cells=>by cases ZQ:kind == NameKind.cell<;>simp[ZQ]) _ _ _ _ ?_);rw[show({ s with heap:=s.heap.push { cls:=.type "dict",data:=.dict #[] } }:Shared).heap.objs.size=s.heap.objs.size+1 from abm ..];refine aak ?_;rw[ad3];exact aao (aao (hQ _ rfl ((Heap.Ns.new s.heap (.type "dict")).keeps (pushCells_keeps _ _))))
noncomputable def w8(X:Cx)(scope:Scope)(C:Addr):List (Str×Addr):=cellsFrom (C+1) scope.names (gU X.env.cells scope.names [])
noncomputable def gW(X:Cx)(scope:Scope)(N':wv)(a9:Shared)(bA:Hp)(C:Addr)(ex:ww):Cx :=
 { X with N:=N',a9:=a9,bA:=bA,env:=compEnvC scope (w8 X scope C) C X.env,outer:=X.stack,stack:=X.stack,ex:=ex,fn:=fun x=>scope.names.lookup x == some .cell,calm:=true,pn:=[],xe:=fun _ _=>False }
def blk(ix:List (Option Nat))(σ:St):St:=ix.map fun o=>match o with | none=>none | some j=>(σ[j]?).join
structure gq(X:Cx)(scope:Scope)(N':wv)(ix:List (Option Nat)):Prop where
 kind:scope.kind=.function
 ZR:scope.names.all (fun y=>y.2 != .cell||scope.names.lookup y.1 == some .cell)=true
 free:scope.names.all (fun y=>y.2 != .free||(X.env.scope.names.lookup y.1 == some .cell||X.env.scope.names.lookup y.1 == some .free))=true
 loc:scope.names.all (fun y=>y.2 != .local||scope.names.lookup y.1 == some .local)=true
 len:N'.length=ix.length
 ok:(N'.zip ix).all (fun p=>match p.2 with | none=>true | some j=>X.N[j]? == some p.1&&scope.names.lookup p.1 == some .free&&(X.env.scope.names.lookup p.1 == some .cell||X.env.scope.names.lookup p.1 == some .free))=true
section
variable {σ:St}{bh s₃:Shared}{fp:ww}{m:xL}{D C:Addr}
theorem gq.has(B:gq X scope N' ix)(ok:X.Ok):∀ y∈scope.names,y.2=.free->∃ c,X.env.cells.lookup y.1=some c:=fun y hy e=>by
 have:=(abz.mp B.free) y hy;rw[e]at this;simp at this;rcases this with q | q
 ·exact ok.has y.1 (.inl q)
 ·exact ok.has y.1 (.inr q)
theorem gq.JQ(B:gq X scope N' ix)(h:scope.names.lookup x=some .free):(x,NameKind.cell) ∉ scope.names:=fun m=>by
 have:=(abz.mp B.ZR) _ m;simp[h]at this
theorem gq.names(B:gq X scope N' ix):∀ y∈scope.names,y.2=.local->scope.names.lookup y.1=some .local:=fun y hy e=>by
 have:=(abz.mp B.loc) y hy;rw[e]at this;simpa using this
theorem Inv.block(I:Inv X pins σ H bh)(B:gq X scope N' ix)(hc:X.calm=true)(Hq:∀ b∈fp,jB X pins H b)(ZS:∀ b∈fp,∃ o,bh.heap.get? b=some o)(e3:s₃.os=bh.os)(hD:D=bh.heap.objs.size)(k3:∀ b o,bh.heap.get? b=some o->s₃.heap.get? b=some o)(hC:C=s₃.heap.objs.size)(JR:D < C)(Ti:bh.heap.objs.size<=s₃.heap.objs.size)(eo:s.os=bh.os)(eg:s.gens=bh.gens)(k4:∀ b o,s₃.heap.get? b=some o->s.heap.get? b=some o)(hn:s.heap.Ns C m)(UT:∀ p∈w8 X scope C,p∈gU X.env.cells scope.names []\/s.heap.IsCell p.2 none):Inv (gW X scope N' s₃ H C (D::fp)) [] (blk ix σ) H s:=by
 have gh:=I.lt;have ZT:(D:Nat)=bh.heap.objs.size:=hD;have Qp:(C:Nat)=s₃.heap.objs.size:=hC;have Qq:∀ x c,(gU X.env.cells scope.names []).lookup x=some c->X.env.cells.lookup x=some c:=fun x c e=>rK _ _ (fun z d q=>by cases q) e;have nJ:∀ x c,X.env.cells.lookup x=some c->c < bh.heap.objs.size:=fun x c e=>let ⟨v,q⟩:=I.cell x c e;q.lt;have Hr:∀ b∈fp,b < bh.heap.objs.size:=fun b hb=>let ⟨o,q⟩:=ZS b hb;aay q;have OT:bh.heap.objs.size<=C:=aaA Ti (acg Qp.symm);have kK:∀ x c,(w8 X scope C).lookup x=some c->X.env.cells.lookup x=some c\/(C+1<=c/\s.heap.IsCell c none):=fun x c e=>by
  rcases kJ _ _ _ e with q | ⟨q,_⟩
  ·exact .inl (Qq x c q)
  ·rcases UT _ (mem_lookup e)with z | z
   ·exfalso;have gh:∀ p∈gU X.env.cells scope.names [],p.2 < bh.heap.objs.size:=fun p hp=>by
     rcases mE _ _ hp with w | w
     ·cases w
     ·exact nJ p.1 p.2 w
    exact aa6 _ (aaL (gh _ z) (aaA OT (aaA (abM _) q)))
   ·exact .inr ⟨q,z⟩
 have UU:∀ x y c,(w8 X scope C).lookup x=some c->(w8 X scope C).lookup y=some c->x=y:=fun x y c e1 e2=>by
  rcases kK x c e1 with q | ⟨q,_⟩
  ·rcases kK y c e2 with z | ⟨z,_⟩
   ·exact I.ok.inj x y c q z
   ·exact absurd (nJ x c q) (Nat.not_lt_of_le (aaA OT (aaA (abM _) z)))
  ·refine wY (n0:=C+1) scope.names (C+1) _ (fun p hp=>?_) (fun p hp _ _ h0 _=>?_) (x,c) (mem_lookup e1) (y,c) (mem_lookup e2) q rfl
   ·rcases mE _ _ hp with w | w
    ·cases w
    ·exact aaL (nJ p.1 p.2 w) (aaA OT (abM _))
   ·rcases mE _ _ hp with w | w
    ·cases w
    ·exact absurd (nJ p.1 p.2 w) (Nat.not_lt_of_le (aaA OT (aaA (abM _) h0)))
 have nD:H D=none:=I.ck.fresh (acg ZT.symm);have nC:H C=none:=I.ck.fresh (aaA Ti (acg Qp.symm));have Qr:s₃.heap.FunFrames X.base X.stack:=by
  have all:∀(l:List Env),bh.heap.FunFrames X.base l->s₃.heap.FunFrames X.base l:=by
   intro l;induction l with
   | nil=>intro _;trivial
   | cons env r ih =>
    intro hl;obtain⟨hk,⟨L,o,hf,hn,ho,hd⟩,hr⟩:=hl;exact⟨hk,⟨L,o,hf,hn,k3 L o ho,hd⟩,ih hr⟩
  exact all _ I.stack
 have UW:∀ b∈iG X.stack,b < bh.heap.objs.size:=fun b hb=>let ⟨_,o,ho,_⟩:=I.stack.mem hb;aay ho;refine⟨⟨I.ok.mod,B.kind,I.ok.glob,I.ok.blt,acg Qp.symm,UU,fun x hx=>?_,fun x c q e=>?_,fun _=>I.ok.hd hc,I.ok.frames,.inl rfl,fun b hb=>?_,fun b o e=>?_,?_,fun b o e hb=>?_,fun b hb=>?_,Qr,I.qV⟩,
  eo.trans e3.symm,by rw[eg];exact I.bare,Un.kept k4,⟨m,hn,fun i x v e1 e2 e3=>?_⟩,fun x c e=>?_,nC,fun x c e=>(kK x c e).elim (I.gD x c) fun z=>I.ck.fresh (aaA OT (aaA (abM _) z.1)),fun p hp=>(nomatch hp),I.ck.kept fun b o e=>k4 b o (k3 b o e),?_⟩
 ·have fr:(x,NameKind.free)∈scope.names\/(x,NameKind.cell)∈scope.names:=by
   rcases hx with q | q
   ·obtain⟨k,hm,q⟩:=jL q;rcases q with q | ⟨q,_⟩
    ·rw[<- q]at hm;exact .inr hm
    ·rw[q]at hm;exact .inl hm
   ·left;obtain⟨k,hm,q⟩:=jL q;rcases q with q | ⟨_,q⟩
    ·rw[<- q]at hm;exact hm
    ·cases q
  refine abC.mp (wW scope.names (C+1) _ (fr.imp (fun fr=>?_) id));obtain⟨c,q⟩:=B.has I.ok _ fr rfl;exact mD (cells:=X.env.cells) (x:=x) scope.names [] (.inr ⟨fr,by rw[q];rfl⟩)
 ·have q':scope.names.lookup x=some .cell:=by simpa [gW] using q
  have:=wX scope.names (C+1) _ (.inl (mem_of_lookup _ q')) e;show s₃.heap.objs.size<=c;exact aaA (acg Qp.symm) (aaA (abM _) this)
 ·rcases aat.mp hb with e | hb
  ·refine⟨by rw[e];exact aa1 JR,fun x c q z=>?_⟩;rcases kK x c q with w | ⟨w,_⟩
   ·have l:=nJ x c w;rw[z,e,hD]at l;exact aa6 _ l
   ·rw[z,e]at w;exact aa6 _ (aaL JR (aaA (abM _) w))
  ·have l:=Hr b hb;refine⟨aa1 (aaL l (aaA Ti (acg Qp.symm))),fun x c q z=>?_⟩;rcases kK x c q with w | ⟨w,_⟩
   ·exact(Hq b hb).2.2.2.2.1 x c w z
   ·rw[z]at w;exact aa6 _ (aaL l (aaA OT (aaA (abM _) w)))
 ·exact⟨k3 b o (I.bs b o e).1,(I.bs b o e).2⟩
 ·exact aaA I.ok.Jv (aaA I.sz Ti)
 ·rcases aat.mp hb with z | hb
  ·have l:=aay (I.bk b o e);rw[z,hD]at l;exact aa6 _ l
  ·rcases (Hq b hb).2.2.2.1 with q | q
   ·exact I.ok.Ca b o e q
   ·exact aa6 _ (aaL (aay (I.ok.bs b o e).1) q)
 ·rcases aat.mp hb with z | hb
  ·intro q;have l:=UW b q;rw[z,hD]at l;exact aa6 _ l
  ·intro q;rcases aat.mp (I.wu b q)with z | z
   ·exact(Hq b hb).2.1 z
   ·exact(Hq b hb).2.2.1 z
 ·-- Po is Qt
  have hi:∃ o,ix[i]?=some o/\(match o with | none=>none | some j=>(σ[j]?).join)=some v:=by
   unfold blk at e2;rw[aap]at e2;cases q:ix[i]? with
   | none=>rw[q]at e2;cases e2
   | some o=>rw[q]at e2;exact⟨o,rfl,aa5 e2⟩
  obtain⟨o,ho,hv⟩:=hi;cases o with
  | none=>cases hv
  | some j =>
   have hz:(N'.zip ix)[i]?=some (x,some j):=by
    rw[aby];exact⟨e1,ho⟩
   have:=(abz.mp B.ok) _ (aa0 hz);simp only[aaK,acq,acQ]at this;obtain⟨⟨a1,a2⟩,a3⟩:=this;have hs:σ[j]?=some (some v):=by
    replace hv:(σ[j]?).join=some v:=hv;cases q:σ[j]? with
    | none=>rw[q]at hv;cases hv
    | some y=>rw[q]at hv;exact abJ some hv
   obtain⟨mo,Uw,Tf⟩:=I.loc;obtain⟨u,ru,lu⟩:=Tf j x v a1 hs (a3.elim (fun a=>.inr (.inl a)) (fun a=>.inr (.inr a)));refine⟨u,ru,.inr ⟨?_,?_⟩⟩
   ·have hm:∃ k,(relabel scope X.env).names.lookup x=some k:=by
     rcases e3 with q | q | q<;>exact⟨_,q⟩
    obtain⟨k,hk⟩:=hm;obtain⟨k2,mem,q⟩:=jL (env:=X.env) hk;rcases e3 with z | z | z
    ·-- local: no
     have z':(relabel scope X.env).names.lookup x=some .local:=z;rw[hk]at z';cases z';rcases q with q | ⟨_,q⟩
     ·subst q;have:=B.names _ mem rfl;rw[show scope.names.lookup x=some .free from a2]at this;cases this
     ·cases q
    ·exact .inl z
    ·exact .inr z
   ·rcases lu with⟨q,_⟩ | ⟨_,c,JS,B2⟩
    ·have q':X.env.scope.names.lookup x=some .local:=q;rcases a3 with a | a<;>(rw[a]at q';cases q')
    ·obtain⟨c',Cf⟩:=abC.mp (mD (cells:=X.env.cells) (x:=x) scope.names [] (.inr ⟨mem_of_lookup _ a2,by rw[JS];rfl⟩));have:=Qq x c' Cf;rw[JS]at this;cases this;obtain⟨ob,Dm,jE⟩:=B2;exact⟨c,(iJ _ _ _ (B.JQ a2)).trans Cf,ob,k4 _ _ (k3 _ _ Dm),jE⟩
 ·rcases kK x c e with w | ⟨_,w⟩
  ·obtain⟨v,ob,Dm,jE⟩:=I.cell x c w;exact⟨v,ob,k4 _ _ (k3 _ _ Dm),jE⟩
  ·exact⟨none,w⟩
 ·show(blk ix σ).length=N'.length;unfold blk;rw[aal,B.len]
end
theorem AU{prog:sB}{w:World}{A:sK}{R:Result->Shared->Prop}{target:Expr}{it acc:Value}(I:Nat->Shared->Prop)(turn:∀ n s,I n s->wpAny (model prog w) A (pyNext it) (fun r bG=>match r with
   | none=>R (.ok .next) bG
   | some v=>wpAny (model prog w) A (letOwnedTupleGo target it v) (fun _ JT=>wpAny (model prog w) A (assign target env v) (fun _ bh =>
     wpAny (model prog w) A (forIn ifs true fun c r=>if r=true then do let ok <- isTrue c env (eval c env);pure (ForInStep.yield ok)else pure (ForInStep.yield r)) (fun ok s₃ =>
      if ok=true then wpAny (model prog w) A (eval elt env) (fun x Hs =>
       wpAny (model prog w) A (call (.builtin "list.append") [acc,x]) (fun _ Qu=>∃ m,m < n/\I m Qu) (fun _ _=>False) Hs) (fun _ _=>False) s₃
      else ∃ m,m < n/\I m s₃) (fun _ _=>False) bh) (fun _ _=>False) JT) (fun _ _=>False) bG) (fun _ _=>False) s)(n:Nat)(h:I n s) :
  codeAny (model prog w) A (.compLoop (.ListComp elt [⟨target,iter,ifs,0⟩] scope pos) 0 it acc env) R s:=by
 refine codeAny_loop rfl I (fun n s hI=>?_) n h;show wpAny _ A ((compTurn (.ListComp elt [⟨target,iter,ifs,0⟩] scope pos) 0 it acc env).onRaise (fun x=>do noteFrame x env;theTreesLotGoes x)) _ _ s;refine wpAny_noted ?_;rw[compTurn_list];refine aak (adP (aak (abB (turn n s hI) (fun r bG eM=>?_) fun _ _ h'=>h'.elim)));cases r with
 | none=>exact aao eM
 | some v =>
  refine aak (abB eM (fun _ JT eM=>?_) fun _ _ h'=>h'.elim);refine aak (abB eM (fun _ bh gQ=>aak (abB gQ (fun ok s₃ nq=>?_) fun _ _ h'=>h'.elim)) fun _ _ h'=>h'.elim);cases ok with
  | false=>exact aao ⟨rfl,nq⟩
  | true =>
   exact aak (aak (abB nq (fun x Hs CY=>aak (abB CY (fun _ Qu gG=>aao (aao ⟨rfl,gG⟩)) fun _ _ h'=>h'.elim)) fun _ _ h'=>h'.elim))
def Mo(X:Cx)(ifs:ut)(tt:TT):Prop :=
 ∀(pins:yp) (s:Shared) (σ:St) (H:Hp) (Q:Bool->Hp->Prop),Inv X pins σ H s->tt σ H Q ->
  wpAny (model X.prog X.w) X.A (forIn ifs true fun c r=>if r=true then do let ok <- isTrue c X.env (eval c X.env);pure (ForInStep.yield ok)else pure (ForInStep.yield r)) (TP X pins σ Q) X.xe s
def Mp:TT:=fun _ H Q=>Q true H
theorem Ht:Mo X [] Mp:=fun pins s σ H Q I h=>wpAny_tests_nil ⟨H,I,h⟩
theorem Hu{c:Expr}(h:PT X c tt):Mo X [c] tt:=fun pins s σ H Q I q=>wpAny_tests_one (h pins s σ H Q I q)
def JU(J:It)(g:TG)(tt:TT)(te:TE)(bB:St)(H:Hp)(Q:List V->Hp->Prop):Prop :=
 ∃ W:Nat->Nat->List V->Hp->Prop,(∃ m,W 0 m [] H)/\∀ i m ys H,W i m ys H ->
  (J.stop i H/\Q ys H)\/(J.go i H/\ys.length < sizeLine/\∃(N:V->Hp->Prop) (M:Hp->Prop),(∀ y H',N y H'->∃ m',m' < m/\W (i+1) m' (ys++[y]) H')/\(∀ H',M H'->∃ m',m' < m/\W (i+1) m' ys H') /\
   ∀ x H',J.Gv i H x H'->g x bB H' fun B0 H2=>tt B0 H2 fun b H3=>if b=true then te B0 H3 N else M H3)
def uz(wi:TI)(g:TG)(tt:TT)(te:TE)(ix:List (Option Nat)):TE:=fun σ H Q =>
 wi σ H fun J H1=>JU J g tt te (blk ix σ) H1 fun ys H2=>∀ D,H2 D=none->Q (.ref D) (upd H2 D (.lst ys))
theorem gq.Mq{σ:St}(B:gq X scope N' ix)(I:Inv X pins σ H s){i:Nat}{v:V}(e1:N'[i]?=some x)(e2:(blk ix σ)[i]?=some (some v)) :
  ∃ u c,RelV v u/\(∀ n,(cellsFrom n scope.names (gU X.env.cells scope.names [])).lookup x=some c)/\X.env.cells.lookup x=some c/\s.heap.IsCell c (some u)/\(relabel scope X.env).names.lookup x≠some .local:=by
 have hi:∃ o,ix[i]?=some o/\(match o with | none=>none | some j=>(σ[j]?).join)=some v:=by
  unfold blk at e2;rw[aap]at e2;cases q:ix[i]? with
  | none=>rw[q]at e2;cases e2
  | some o=>rw[q]at e2;exact⟨o,rfl,aa5 e2⟩
 obtain⟨o,ho,hv⟩:=hi;cases o with
 | none=>cases hv
 | some j =>
  have hz:(N'.zip ix)[i]?=some (x,some j):=by
   rw[aby];exact⟨e1,ho⟩
  have:=(abz.mp B.ok) _ (aa0 hz);simp only[aaK,acq,acQ]at this;obtain⟨⟨a1,a2⟩,a3⟩:=this;have hs:σ[j]?=some (some v):=by
   replace hv:(σ[j]?).join=some v:=hv;cases q:σ[j]? with
   | none=>rw[q]at hv;cases hv
   | some y=>rw[q]at hv;exact abJ some hv
  obtain⟨mo,Uw,Tf⟩:=I.loc;obtain⟨u,ru,lu⟩:=Tf j x v a1 hs (a3.elim (fun a=>.inr (.inl a)) (fun a=>.inr (.inr a)));rcases lu with⟨q,_⟩ | ⟨_,c,JS,B2⟩
  ·have q':X.env.scope.names.lookup x=some .local:=q;rcases a3 with a | a<;>(rw[a]at q';cases q')
  ·obtain⟨c',Cf⟩:=abC.mp (mD (cells:=X.env.cells) (x:=x) scope.names [] (.inr ⟨mem_of_lookup _ a2,by rw[JS];rfl⟩));have:=rK _ _ (fun z d q=>by cases q) Cf;rw[JS]at this;cases this;refine⟨u,c,ru,fun n=>(iJ _ _ _ (B.JQ a2)).trans Cf,JS,B2,fun q=>?_⟩;obtain⟨k2,mem,z⟩:=jL (env:=X.env) q;rcases z with z | ⟨_,z⟩
   ·subst z;have:=B.names _ mem rfl;rw[show scope.names.lookup x=some .free from a2]at this;cases this
   ·cases z
section
variable {tg:Expr}{σ:St}{bh:Shared}{fp:ww}{it:Addr}{tn:Nat->Heap->Prop}{J:It}
theorem nK{E:xz}{RR:Value->Addr->Result->Shared->Prop}(B:gq X scope N' ix)(hc:X.calm=true)(I:Inv X pins σ H bh)(T:Turn X.prog X.w X.K tg J fp it tn)(st:tn 0 bh.heap)(Hq:∀ b∈fp,jB X pins H b)(hg:∀ a9 bA C ex,PG (gW X scope N' a9 bA C ex) tg g)(ht:∀ a9 bA C ex,Mo (gW X scope N' a9 bA C ex) ifs tt)(he:∀ a9 bA C ex,PE (gW X scope N' a9 bA C ex) elt te){Q:List V->Hp->Prop}(h:JU J g tt te (blk ix σ) H Q)(ZU:∀(D C:Addr) (ys:List V) (H':Hp) (s':Shared) (m:xL),Q ys H'->H' D=none->s'.heap.Ns C m->jB X pins (upd H' D (.lst ys)) C->Inv X pins σ (upd H' D (.lst ys)) s'->RR (.ref D) C (.ok .next) s') :
  wpAny (model X.prog X.w) X.A (newList []) (fun acc s₃=>wpAny (model X.prog X.w) X.A (newFunctionEnv scope X.env.globals (gU X.env.cells scope.names []) [] X.env.qual none .none (some X.env)) (fun Qv Hs =>
   codeAny (model X.prog X.w) X.A (.compStart (.ListComp elt [⟨tg,iter,ifs,0⟩] scope pos) 0 (.ref it) acc { Qv with scope:=relabel scope X.env }) (RR acc Qv.locals) Hs) E s₃) E bh:=by
 refine abn (wZ fun eM rM xc=>?_);dsimp only at xc rM ⊢;generalize UX:bh.heap.push { cls:=.type "list",dict:=none,data:=.seq ([]:wf).toArray }=H2 at xc rM ⊢;have hC:H2.objs.size=bh.heap.objs.size+1:=by rw[<- UX,abm]
 have Mr:∀ b o,bh.heap.get? b=some o->H2.get? b=some o:=fun b o e=>UX▸aam _ e;have OU:∀ b o,H2.get? b=some o->eM.get? b=some o:=fun b o e=>by rw[rM];exact pushCells_keeps _ _ b o (aam _ e)
 have ZV:H2.get? bh.heap.objs.size=some { cls:=.type "list",dict:=none,data:=.seq ([]:wf).toArray }:=UX▸aaz _ rfl;have JR:bh.heap.objs.size < H2.objs.size:=by rw[hC];exact abI _
 have XO:=T.obj 0 _ st;have Hr:∀ b∈fp,b < bh.heap.objs.size:=fun b hb=>let ⟨o,q,_⟩:=XO b hb;aay q;have XQ:H bh.heap.objs.size=none:=I.ck.fresh (aar _);have ZW:H H2.objs.size=none:=I.ck.fresh (aaJ JR);have fD:=I.Aq (aar bh.heap.objs.size) XQ;have fC:=I.Aq (aaJ JR) ZW;have I3:Inv X pins σ H { bh with heap:=H2 }:=I.kept (t':=bh.toks) Mr;generalize hX:gW X scope N' { bh with heap:=H2 } H H2.objs.size (bh.heap.objs.size::fp)=X' at *;have I4:Inv X' [] (blk ix σ) H { bh with heap:=eM }:=by
  rw[<- hX];exact I.block (s₃:={ bh with heap:=H2 }) (s:={ bh with heap:=eM }) B hc Hq (fun b hb=>let ⟨o,q,_⟩:=XO b hb;⟨o,q⟩) rfl rfl Mr rfl JR (aaJ JR) rfl rfl OU xc (fun p hp=>by show _\/eM.IsCell _ _;rw[rM];exact rL scope.names _ _ p (by rw[abm];exact hp))
 have eP:X'.prog=X.prog:=by rw[<- hX];rfl
 have ew:X'.w=X.w:=by rw[<- hX];rfl
 have eK:X'.K=X.K:=by rw[<- hX];rfl
 have eA:X'.A=X.A:=by rw[<- hX];rfl
 have ec:X'.calm=true:=by rw[<- hX];rfl
 have SU:X'.xe=fun _ _=>False:=by rw[<- hX];rfl
 have Dp:X'.env=compEnvC scope (w8 X scope H2.objs.size) H2.objs.size X.env:=by rw[<- hX];rfl
 have ZX:PG X' tg g:=hX▸hg _ _ _ _;have ZY:Mo X' ifs tt:=hX▸ht _ _ _ _;have ZZ:PE X' elt te:=hX▸he _ _ _ _;have eL:X'.env.locals=H2.objs.size:=by rw[Dp];rfl
 have eX:X'.ex=bh.heap.objs.size::fp:=by rw[<- hX];rfl
 have eN:X'.N=N':=by rw[<- hX];rfl
 have ef:X'.fs=iG X.stack:=by rw[<- hX];rfl
 have es:X'.a9={ bh with heap:=H2 }:=by rw[<- hX];rfl
 have eH:X'.bA=H:=by rw[<- hX];rfl
 have UY:X'.pn=[]:=by rw[<- hX];rfl
 -- Po stays true of ON records through ON loop
 have wA:∀{H':Hp} {b:Addr},b∈bh.heap.objs.size::fp->H' b=none->jB X' [] H' b:=fun{H' b} hb hn=>by
  refine⟨hn,(I4.ok.SX b (by rw[eX];exact hb)).1,I4.ok.Cb b (by rw[eX];exact hb),.inl (by rw[eX];exact hb),(I4.ok.SX b (by rw[eX];exact hb)).2,fun p hp=>?_⟩;rw[UY]at hp;cases hp
 obtain⟨W,⟨m0,w0⟩,turn⟩:=h;have loop:∀ s₃:Shared,s₃={ bh with heap:=eM } ->
   codeAny (model X.prog X.w) X.A (.compLoop (.ListComp elt [⟨tg,iter,ifs,0⟩] scope pos) 0 (.ref it) (.ref bh.heap.objs.size) (compEnvC scope (w8 X scope H2.objs.size) H2.objs.size X.env)) (RR (.ref bh.heap.objs.size) H2.objs.size) s₃:=by
  intro s₃ Ms;rw[<- Ms]at I4;refine AU (fun n s'=>∃ i ys aQ H',Inv X' [] (blk ix σ) H' s'/\tn i s'.heap/\(∀ b∈bh.heap.objs.size::fp,H' b=none)/\ys.length<=sizeLine/\Vals ys aQ/\s'.heap.PlainList bh.heap.objs.size aQ.toArray/\W i n ys H') ?_ m0
   ⟨0,[],[],H,I4,T.keep _ _ _ st (fun b hb o e=>by rw[Ms];exact OU b o (Mr b o e)),(fun b hb=>?_),aaW _,.nil,⟨_,by rw[Ms];exact OU _ _ ZV⟩,w0⟩
  ·rintro n s5 ⟨i,ys,aQ,H5,I5,OO,S3,XR,Tj,Z0,w5⟩;obtain⟨nD,eD⟩:=id Z0;have Z1:∀ b∈[bh.heap.objs.size],∃ o,s5.heap.get? b=some o/\∀ v,o.data≠.cell v:=fun b hb=>by
    have e:b=bh.heap.objs.size:=by simpa using hb
    rw[e];exact⟨_,eD,fun v z=>by cases z⟩
   have memD:bh.heap.objs.size∈bh.heap.objs.size::fp:=aax;have Pp:=I5.pinned (fp:=[bh.heap.objs.size]) (fun b hb=>by
    have e:b=bh.heap.objs.size:=by simpa using hb
    rw[e];exact wA memD (S3 _ memD)) Z1
   rw[List.nil_append]at Pp;have UZ:∀{q:Addr×Obj},q∈eT [bh.heap.objs.size] s5.heap->q.1=bh.heap.objs.size:=fun hq=>by
    have:=(pQ hq).1;simpa using this
   have JV:∀{H':Hp} {b:Addr},b∈fp->H' b=none->jB X' (eT [bh.heap.objs.size] s5.heap) H' b:=fun{H' b} hb hn=>by
    obtain⟨f0,f1,f2,f3,f4,_⟩:=wA (aaw _ hb) hn;refine⟨f0,f1,f2,f3,f4,fun p hp z=>?_⟩;rw[UY,List.nil_append]at hp;have q:=UZ hp;rw[z]at q;exact absurd (Hr b hb) (by rw[q];exact aa6 _)
   have Qw:∀ b∈fp,jB X' (eT [bh.heap.objs.size] s5.heap) H5 b:=fun b hb=>JV hb (S3 b (aaw _ hb));have Tn:(bh.heap.objs.size,({ cls:=.type "list",data:=.seq aQ.toArray nD }:Obj))∈eT [bh.heap.objs.size] s5.heap:=eG (by simp) eD;rcases turn i n ys H5 w5 with⟨stop,qn⟩ | ⟨go,gh,N,M,hN,hM,step⟩
   ·rw[<- eA];refine cP (T.done X' eP ew eK ec i _ s5 (blk ix σ) H5 _ Pp Qw OO stop) fun r s6 ⟨hr,I6⟩=>?_;subst hr;have Z2:=(I6.pin _ (aaS _ Tn)).1;have XS:=(I6.pin _ (aaS _ Tn)).2.1;obtain⟨mC,XT,_⟩:=I6.loc;rw[eL]at XT;have u6:=I6.base;rw[ef,eX,eH,es]at u6;have Qx:=I6.ck;rw[eP,ew]at Qx;have XU:=I6.os;rw[es]at XU;have IX:Inv X pins σ H5 s6:=I3.Ph (s':=s6) (ch:=bh.heap.objs.size::fp) XU u6 Qx I6.bare fun b hb=>by
     rcases aat.mp hb with z | hb
     ·rw[z];exact⟨fD.2.2.2.1,fD.2.1,fD.2.2.2.2.1,fD.2.2.2.2.2⟩
     ·have f:=Hq b hb;exact⟨f.2.2.2.1,f.2.1,f.2.2.2.2.1,f.2.2.2.2.2⟩
    have Z3:H5 H2.objs.size=none:=by have:=I6.free;rw[eL]at this;exact this
    have Z4:H2.objs.size≠bh.heap.objs.size:=ab0 JR;refine ZU _ _ ys H5 s6 mC qn XS XT ⟨by rw[bw Z4];exact Z3,fC.2⟩ ?_;exact IX.JK (t':=s6.toks) ⟨XS,fD.2⟩ ⟨XR,aQ,nD,Tj,Z2⟩
   ·rw[<- eA];refine cP (T.item X' eP ew eK ec i _ s5 (blk ix σ) H5 _ Pp Qw OO go) fun r s6 ⟨u,hr,h6⟩=>?_;subst hr;dsimp only;refine cP h6 fun _ s7 ⟨x,H7,I7,r7,y7,U0,Z5⟩=>?_;have Z6:=I7.pinned (fp:=fp) (fun b hb=>JV hb (Z5 b hb)) (T.obj _ _ U0);rw[<- Dp,<- eP,<- ew];have q1:=ZX _ s7 (blk ix σ) H7 x u _ Z6 r7 (step x H7 y7);rw[SU]at q1;refine cP q1 fun _ s8 ⟨XW,H8,I8,q8⟩=>?_;have q2:=ZY _ s8 XW H8 _ I8 q8;rw[SU]at q2;refine cP q2 fun b s9 ⟨H9,I9,q9⟩=>?_
    -- behind a turn
    have JW:∀{bB:St} {H':Hp} {s':Shared},Inv X' (eT [bh.heap.objs.size] s5.heap++eT fp s7.heap) bB H' s'->s'.heap.get? bh.heap.objs.size=some { cls:=.type "list",data:=.seq aQ.toArray nD }/\H' bh.heap.objs.size=none:=fun I' =>
     ⟨(I'.pin _ (aaS _ (acB _ Tn))).1,(I'.pin _ (aaS _ (acB _ Tn))).2.1⟩
    have JX:∀{bB:St} {H':Hp} {s':Shared},Inv X' (eT [bh.heap.objs.size] s5.heap++eT fp s7.heap) bB H' s'->tn (i+1) s'.heap/\∀ b∈fp,H' b=none:=fun{bB H' s'} I'=>by
     refine⟨T.keep _ _ _ U0 fun b hb o e=>(I'.pin (b,o) (aaS _ (aaS _ (eG hb e)))).1,fun b hb=>?_⟩;obtain⟨o,e,d⟩:=T.obj _ _ U0 b hb;exact(I'.pin (b,o) (aaS _ (aaS _ (eG hb e)))).2.1
    have drop:∀{bB:St} {H':Hp} {s':Shared} {ps:yp},Inv X' ps bB H' s'->Inv X' [] (blk ix σ) H' s':=fun{bB H' s' ps} I'=>by
     obtain⟨mL,dH,_⟩:=I'.loc;refine⟨I'.ok,I'.os,I'.bare,I'.base,⟨mL,dH,fun k x v e1 e2 e3=>?_⟩,I'.cell,I'.free,I'.gD,fun p hp=>?_,I'.ck,by rw[eN,<- B.len.symm];unfold blk;rw[aal]⟩
     ·rw[eN]at e1;obtain⟨u,c,ru,JS,B2,⟨oc,Dm,jE⟩,hk⟩:=B.Mq I e1 e2;have Z7:SV (relabel scope X.env) x:=by rw[Dp]at e3;exact e3
      refine⟨u,ru,.inr ⟨?_,c,by rw[Dp];exact JS _,?_⟩⟩
      ·rw[Dp];show(relabel scope X.env).names.lookup x=some .cell\/(relabel scope X.env).names.lookup x=some .free;rcases Z7 with q | q | q
       ·exact absurd q hk
       ·exact .inl q
       ·exact .inr q
      ·have ub:=I'.base;rw[eX,eH,es]at ub;obtain⟨sl,Hv⟩:=ub.any (b:=c) (Mr c oc Dm) (I.gD x c B2) (fun z=>by
        rcases aat.mp z with z | z
        ·exact absurd (aay Dm) (by rw[z];exact aa6 _)
        ·exact(Hq c z).2.2.2.2.1 x c B2 rfl)
       exact⟨_,Hv,jE⟩
     ·rw[UY]at hp;cases hp
    cases b with
    | false =>
     rw[aaD aaC]at q9 ⊢;obtain⟨m',hm,w9⟩:=hM _ q9;obtain⟨kd,nd⟩:=JW I9;obtain⟨kf,nf⟩:=JX I9;refine⟨m',hm,i+1,ys,aQ,H9,drop I9,kf,fun b hb=>?_,XR,Tj,⟨nD,kd⟩,w9⟩;rcases aat.mp hb with z | hb
     ·rw[z];exact nd
     ·exact nf b hb
    | true =>
     rw[aaN rfl]at q9 ⊢;have q3:=ZZ _ s9 XW H9 _ I9 q9;rw[SU]at q3;refine cP q3 fun v XX ⟨y,XY,U1,Z8,q10⟩=>?_;obtain⟨m',hm,Z9⟩:=hN _ _ q10;obtain⟨kd,nd⟩:=JW U1;obtain⟨kf,nf⟩:=JX U1;have hlen:=Tj.length;refine wpAny_list_append_plain (items:=aQ.toArray) ⟨nD,kd⟩ (fun h' pl' sb=>?_) (by rw[aaE];omega);have I11:Inv X' [] (blk ix σ) XY { XX with heap:=h' }:=by
      have f:=wA memD nd;exact(drop U1).turned (t':=XX.toks) (fun b o hb e=>(sb.2 b hb).trans e) f.1 f.2.1 f.2.2.2.1 f.2.2.2.2.1 f.2.2.2.2.2
     refine⟨m',hm,i+1,ys++[y],aQ++[v],XY,I11,T.keep _ _ _ kf (fun b hb o e=>(sb.2 b (aa1 (Hr b hb))).trans e),fun b hb=>?_,by rw[aaP,acv];omega,Tj.append (.cons Z8 .nil),?_,Z9⟩
     ·rcases aat.mp hb with z | hb
      ·rw[z];exact nd
      ·exact nf b hb
     ·simpa using pl'
  ·rcases aat.mp hb with z | hb
   ·rw[z];exact XQ
   ·exact(Hq b hb).1
 exact codeAny_compStart_list (loop _ rfl) (T.self _ 0 _ _ _ (T.keep _ _ _ st fun b hb o e=>OU b o (Mr b o e)) (loop _ rfl))
end
section
variable {tg:Expr}{wi:TI}
theorem Hw(B:gq X scope N' ix)(hc:X.calm=true)(hi:PI X tg iter wi)(hg:∀ a9 bA C ex,PG (gW X scope N' a9 bA C ex) tg g)(ht:∀ a9 bA C ex,Mo (gW X scope N' a9 bA C ex) ifs tt)(he:∀ a9 bA C ex,PE (gW X scope N' a9 bA C ex) elt te)(hs:autoParam (∀ x,foldedSetIterable iter X.env x=pure x) ra2):PE X (.ListComp elt [⟨tg,iter,ifs,0⟩] scope pos) (uz wi g tt te ix):=by
 intro pins s σ H Q I h;rw[eval_ListComp];refine wpAny_comprehension_free (use:=none) rfl hs (nI (B.has I.ok)) B.kind B.names (abB (hi pins s σ H _ I h) (fun xv bG eM=>abB eM (fun S1 bh gQ=>?_) fun _ _ e=>e) fun _ _ e=>e);obtain⟨it,fp,tn,J,H2,e,I2,T,pR,f2,q⟩:=gQ;subst e;refine nK (RR:=fun acc C=>compPost (model X.prog X.w) X.A X.xe none (EP X pins σ Q) acc C) B hc I2 T pR f2 hg ht he q ?_;intro D C ys H' s' m hq hD hn fC I';refine⟨m,hn,fun h' sb=>⟨.ref D,_,I'.turned (t':=s'.toks) (fun b o hb e=>(sb.2 b hb).trans e) fC.1 fC.2.1 fC.2.2.2.1 fC.2.2.2.2.1 fC.2.2.2.2.2,rfl,hq D hD⟩⟩
theorem Hx{i:Nat}{y:Str}{py Dq:Pos}(B:gq X scope N' ix)(hc:X.calm=true)(hN:X.N.Nodup)(hy:X.N[i]?=some y)(hx:X.env.scope.names.lookup y=some .local)(hi:PI X tg iter wi)(hg:∀ a9 bA C ex,PG (gW X scope N' a9 bA C ex) tg g)(ht:∀ a9 bA C ex,Mo (gW X scope N' a9 bA C ex) ifs tt)(he:∀ a9 bA C ex,PE (gW X scope N' a9 bA C ex) elt te)(OV:autoParam (swapsWith (.ListComp elt [⟨tg,iter,ifs,0⟩] scope pos) (some (.Name y py)) Dq.line X.env=pure true) ra0)(hs:autoParam (∀ x,foldedSetIterable iter X.env x=pure x) ra2):PS X (.Assign [.Name y py] (.ListComp elt [⟨tg,iter,ifs,0⟩] scope pos) Dq) (wx (uz wi g tt te ix) (mR i)):=by
 intro pins s σ H Dn I h;rw[exec_Assign_Name_used _ _ _ _ OV];refine aak (adP (aak ?_));show wpAny _ X.A (do let _ <- comprehension (.ListComp elt [⟨tg,iter,ifs,0⟩] scope pos) scope X.env _ (newList []) false (eval iter X.env) (some (assign (.Name y py) X.env))) _ _ s;refine aak (abB (wpAny_comprehension_free (use:=some (assign (.Name y py) X.env)) (Q:=fun _ s'=>SP X pins Dn .next s') rfl hs (nI (B.has I.ok)) B.kind B.names
  (abB (hi pins s σ H _ I h) (fun xv bG eM=>abB eM (fun S1 bh gQ=>?_) fun _ _ e=>e) fun _ _ e=>e)) (fun _ s' hq=>aao (aao hq)) fun _ _ e=>e)
 obtain⟨it,fp,tn,J,H2,e,I2,T,pR,f2,q⟩:=gQ;subst e;refine nK (RR:=fun acc C=>compPost (model X.prog X.w) X.A X.xe (some (assign (.Name y py) X.env)) (fun _ s'=>SP X pins Dn .next s') acc C) B hc I2 T pR f2 hg ht he q ?_;intro D C ys H' s' m hq hD hn fC I';have hCo:∀ b∈[C],∃ o,s'.heap.get? b=some o/\∀ v,o.data≠.cell v:=fun b hb=>by
  have e:b=C:=by simpa using hb
  rw[e];obtain⟨o,es,ep,ho,hd,_⟩:=hn;exact⟨o,ho,fun v z=>by rw[hd]at z;cases z⟩
 have I2':=I'.pinned (fp:=[C]) (fun b hb=>by
  have e:b=C:=by simpa using hb
  rw[e];exact fC) hCo
 show wpAny _ X.A (assign (.Name y py) X.env (.ref D)) _ _ _;refine wpAny_assign_Name (mP (v:=.ref D) I2' hN hy (.inl hx) rfl (fun OP XZ=>?_) (.inr hx));have U2:OP.heap.Ns C m:=by
  obtain⟨o,es,ep,ho,r⟩:=hn;exact⟨o,es,ep,(XZ.pin (C,o) (aaS _ (aaS _ (eG (by simp) ho)))).1,r⟩
 refine⟨m,U2,fun h' sb=>⟨_,_,XZ.jC.turned (t':=OP.toks) (fun b o hb e=>(sb.2 b hb).trans e) fC.1 fC.2.1 fC.2.2.2.1 fC.2.2.2.2.1 fC.2.2.2.2.2,hq D hD⟩⟩
end
structure To(X:Cx)(ifs:ut)(tt:TT):Prop where
 run:Mo X ifs tt
section
variable {tg c:Expr}{wi:TI}
theorem nL:To X [] Mp:=⟨Ht⟩
theorem eZ(h:ST X c tt):To X [c] tt:=⟨Hu h.run⟩
theorem fb{g:Shared->Hp->Addr->ww->TG}{tt:Shared->Hp->Addr->ww->TT}{te:Shared->Hp->Addr->ww->TE}(B:gq X scope N' ix)(hi:SI X tg iter wi)(hg:∀ a9 bA C ex,SG (gW X scope N' a9 bA C ex) tg (g a9 bA C ex))(ht:∀ a9 bA C ex,To (gW X scope N' a9 bA C ex) ifs (tt a9 bA C ex))(he:∀ a9 bA C ex,SE (gW X scope N' a9 bA C ex) elt (te a9 bA C ex))(eg:autoParam (∀ a9 bA C ex,g a9 bA C ex=g X.a9 X.bA 0 []) ra5)(et:autoParam (∀ a9 bA C ex,tt a9 bA C ex=tt X.a9 X.bA 0 []) ra5)(ee:autoParam (∀ a9 bA C ex,te a9 bA C ex=te X.a9 X.bA 0 []) ra5)(hc:autoParam (X.calm=true) ra0)(hs:autoParam (∀ x,foldedSetIterable iter X.env x=pure x) ra2):SE X (.ListComp elt [⟨tg,iter,ifs,0⟩] scope pos) (uz wi (g X.a9 X.bA 0 []) (tt X.a9 X.bA 0 []) (te X.a9 X.bA 0 []) ix) :=
 ⟨Hw B hc hi.run (fun a b c d=>eg a b c d▸(hg a b c d).run) (fun a b c d=>et a b c d▸(ht a b c d).run) (fun a b c d=>ee a b c d▸(he a b c d).run) hs⟩
theorem nM(i:Nat){y:Str}{py Dq:Pos}{g:Shared->Hp->Addr->ww->TG}{tt:Shared->Hp->Addr->ww->TT}{te:Shared->Hp->Addr->ww->TE}(B:gq X scope N' ix)(hN:X.N.Nodup)(hi:SI X tg iter wi)(hg:∀ a9 bA C ex,SG (gW X scope N' a9 bA C ex) tg (g a9 bA C ex))(ht:∀ a9 bA C ex,To (gW X scope N' a9 bA C ex) ifs (tt a9 bA C ex))(he:∀ a9 bA C ex,SE (gW X scope N' a9 bA C ex) elt (te a9 bA C ex))(eg:autoParam (∀ a9 bA C ex,g a9 bA C ex=g X.a9 X.bA 0 []) ra5)(et:autoParam (∀ a9 bA C ex,tt a9 bA C ex=tt X.a9 X.bA 0 []) ra5)(ee:autoParam (∀ a9 bA C ex,te a9 bA C ex=te X.a9 X.bA 0 []) ra5)(hy:autoParam (X.N[i]?=some y) ra0)(hx:autoParam (X.env.scope.names.lookup y=some .local) ra0)(hc:autoParam (X.calm=true) ra0)(OV:autoParam (swapsWith (.ListComp elt [⟨tg,iter,ifs,0⟩] scope pos) (some (.Name y py)) Dq.line X.env=pure true) ra0)(hs:autoParam (∀ x,foldedSetIterable iter X.env x=pure x) ra2):SS X (.Assign [.Name y py] (.ListComp elt [⟨tg,iter,ifs,0⟩] scope pos) Dq) (wx (uz wi (g X.a9 X.bA 0 []) (tt X.a9 X.bA 0 []) (te X.a9 X.bA 0 []) ix) (mR i)) :=
 ⟨Hx B hc hN hy hx hi.run (fun a b c d=>eg a b c d▸(hg a b c d).run) (fun a b c d=>et a b c d▸(ht a b c d).run) (fun a b c d=>ee a b c d▸(he a b c d).run) OV hs⟩
end
section
variable {nx bk ct:St->Hp->Prop}{rt:VK}{t u:TS}{D:Ends}{σ:St}{Q:VK}{ta tb tc:TE}{c d:TT}{i j:Nat}{v x y:V}{r:R2}{B:Bool->Hp->Prop}{ts:TA}{tsr:TA}{R:List V->Hp->Prop}
theorem Gz{B:Prop}(h:A):if true=true then A else B:=h
theorem yW{B:Prop}(h:B):if false=true then A else B:=h
theorem U3{B:Prop}(h:B):if(!true)=true then A else B:=h
theorem U4{B:Prop}(h:A):if(!false)=true then A else B:=h
theorem pH{B:Prop}[Decidable p](hp:p)(h:A):if decide p=true then A else B:=by rw[aaN (aaM hp)];exact h
theorem jM{B:Prop}[Decidable p](hp:¬ p)(h:B):if decide p=true then A else B:=by rw[aaF hp];exact h
theorem Hy{B:Prop}[Decidable p](hp:¬ p)(h:A):if(!decide p)=true then A else B:=by rw[aaF hp];exact h
theorem Hz{B:Prop}[Decidable p](hp:p)(h:B):if(!decide p)=true then A else B:=by rw[aaM hp];exact h
theorem gj{B:Prop}[Decidable p](h1:p->A)(h2:¬ p->B):if decide p=true then A else B:=by
 by_cases hp:p
 ·exact pH hp (h1 hp)
 ·exact jM hp (h2 hp)
theorem HA{B:Prop}[Decidable p](h1:¬ p->A)(h2:p->B):if(!decide p)=true then A else B:=by
 by_cases hp:p
 ·exact Hz hp (h2 hp)
 ·exact Hy hp (h1 hp)
end
def Tp(H H':Hp):Prop:=∀ b xs,H b=some (.tup xs)->H' b=some (.tup xs)
mutual
def Im:PyData->Bool
 | .tuple ds=>gK ds
 | .list _=>false
 | .dict _=>false
 | _=>true
def gK:wE->Bool
 | []=>true
 | d::ds=>Im d&&gK ds
end
mutual
theorem Rep.tp{H H':Hp}(k:Tp H H'):∀{d:PyData} {x:V},Im d=true->Rep H d x->Rep H' d x
 | .none,_,_,h=>h
 | .bool _,_,_,h=>h
 | .int _,_,_,h=>h
 | .str _,_,_,h=>h
 | .list _,_,i,_=>by simp[Im]at i
 | .dict _,_,i,_=>by simp[Im]at i
 | .tuple ds,_,i,⟨a,xs,e,h,r⟩=>⟨a,xs,e,k a xs h,ak.tp k (by simpa [Im] using i) r⟩
theorem ak.tp{H H':Hp}(k:Tp H H'):∀{ds:wE} {xs:List V},gK ds=true->ak H ds xs->ak H' ds xs
 | [],_,_,h=>h
 | d::ds,_,i,⟨y,ys,e,h,r⟩=>by
  have i':Im d=true/\gK ds=true:=by simpa [gK] using i
  exact⟨y,ys,e,Rep.tp k i'.1 h,ak.tp k i'.2 r⟩
end
mutual
theorem Rep.same{H H':Hp}(k:aM H H'):∀{d:PyData} {x:V},Rep H d x->Rep H' d x
 | .none,_,h=>h
 | .bool _,_,h=>h
 | .int _,_,h=>h
 | .str _,_,h=>h
 | .list _,_,⟨a,xs,e,h,r⟩=>⟨a,xs,e,k a _ h,ak.same k r⟩
 | .dict _,_,h=>h
 | .tuple ds,_,⟨a,xs,e,h,r⟩=>⟨a,xs,e,k a _ h,ak.same k r⟩
theorem ak.same{H H':Hp}(k:aM H H'):∀{ds:wE} {xs:List V},ak H ds xs->ak H' ds xs
 | [],_,h=>h
 | d::ds,_,⟨y,ys,e,h,r⟩=>⟨y,ys,e,Rep.same k h,ak.same k r⟩
end
def Dr(K:zn):List V->Hp->VK->Prop:=fun xs H Q=>∃ p ys,xs=[.ref p]/\((eE K H p ys/\∀ l,H l=none->Q (.ref l) (upd H l (.tup ys)))\/(fg K H p ys/\Q (.ref p) H))
def yX(K:zn):List V->Hp->VK->Prop:=fun xs H Q=>∃ p ys,xs=[.ref p]/\(eE K H p ys\/fg K H p ys)/\∀ l,H l=none->Q (.ref l) (upd H l (.lst ys))
def Ds(K:zn):List V->Hp->VK->Prop:=fun xs H Q=>∃ p ys,xs=[.ref p]/\(eE K H p ys\/fg K H p ys)/\Q (.int ys.length) H
def JY:List V->Hp->VK->Prop:=fun xs H Q=>∃ i j,xs=[.int i,.int j]/\Q (.int (if j > i then j else i)) H
def JZ:List V->Hp->VK->Prop:=fun xs H Q=>∃ i j,xs=[.int i,.int j]/\Q (.int (if j < i then j else i)) H
section
variable {K:zn}{Q:VK}{p:Addr}{ys:List V}{i j:Int}
theorem kL:dG X (.type "tuple") (Dr X.K):=pD
theorem nN:dG X (.type "list") (yX X.K):=rC
theorem bq:dG X (.builtin "len") (Ds X.K):=rB
theorem AV(hc:X.calm=true):dG X (.builtin "max") JY:=Au hc
theorem AW(hc:X.calm=true):dG X (.builtin "min") JZ:=Av hc
end
end L2
namespace L2
open PySem PySem.Spec PyProof.Rows
variable {X:Cx}{w:World}{H:Hp}{p a f C:Addr}{P:sB}{mg:xL}{base:Heap}{N ps:wv}{qual:Str}{scope:Scope}{cd:Value}{A:sK}{outer:List Env}{s:Shared}{eY pos:Pos}{es:ut}{fd:wT}
def Qy(K:zn):List V->Hp->VK->Prop:=fun xs H Q=>∃(p:Addr) (bs:List Bool),xs=[.ref p]/\eE K H p (bs.map V.bl)/\Q (.bl (bs.any id)) H
theorem xf{bs:List Bool}{aQ:wf}(rv:Vals (bs.map V.bl) aQ){i:Nat}{v:Value}(h:aQ[i]?=some v):∃ b,bs[i]?=some b/\v=.bool b:=by
 have hl:=rv.length;rw[aal]at hl;have hi:i < aQ.length:=(aan.mp h).1;have hb:bs[i]?=some bs[i]:=aas (by omega);obtain⟨u,hu,ru⟩:=rv.get (x:=.bl bs[i]) (by rw[aap,hb];rfl);rw[h]at hu;cases hu;exact⟨_,hb,ru⟩
theorem qd(hc:X.calm=true):dG X (.builtin "any") (Qy X.K):=by
 intro pins s σ H xs us Q I r h;obtain⟨p,bs,rfl,hq,q⟩:=h;obtain⟨u,rfl,ru⟩:=vals1 r;cases ru;obtain⟨aQ,rv,pl,hz⟩:=I.list hq;have hl:=pl.isList;have gh:p < s.heap.objs.size:=by obtain⟨_,e,_⟩:=hl;exact aay e
 refine call_any_walk (abL hl ?_);refine⟨s.heap.objs.size,[s.heap.objs.size,p],[s.heap.objs.size],aQ.toArray.size,_,_,fun i=>(bs[i]?).getD false,rfl,Walks.list (A:=X.A.in1) (I.ok.hd hc) _ p (aa1 gh) aQ.toArray,
  ⟨⟨_,aaz _ rfl,rfl,rfl⟩,hl.push _⟩,fun i v s' Q' E' hP hQ=>?_,fun h' tk hk=>?_⟩
 ·obtain⟨b,e,rfl⟩:=xf rv (i:=i) (v:=v) (by simpa using hP);simp only[e,Option.getD_some]at hQ;exact abK hQ
 ·have hlen:=rv.length;rw[aal]at hlen;have e:((List.range aQ.toArray.size).any fun i=>(bs[i]?).getD false)=bs.any id:=by
   rw[aaE,<- hlen];exact LSm.range_any bs
  rw[e];exact⟨.bl _,H,I.kept (LSm.kept_iter hk),rfl,q⟩
def J0(K:zn):R2:=fun x y H Q=>∃ a b xs ys,x=.ref a/\y=.ref b/\fg K H a xs/\fg K H b ys/\xs.length+ys.length<=sizeLine /\
 (xs=[]->Q (.ref b) H)/\(xs≠[]->ys=[]->Q (.ref a) H)/\(xs≠[]->ys≠[]->∀ p,H p=none->Q (.ref p) (upd H p (.tup (xs++ys))))
theorem uA:gE X (binaryOp .Add) (J0 X.K):=by
 intro pins s σ H x y v u Q I rx ry h;obtain⟨a,b,xs,ys,rfl,rfl,ha,hb,hz,q0,q1,q2⟩:=h;cases rx;cases ry;obtain⟨aQ,r1,p1,_⟩:=I.tuple ha;obtain⟨wQ,r2,p2,_⟩:=I.tuple hb
 by_cases e0:aQ=[]
 ·obtain⟨⟨cls,dd,data,sl⟩,ho,hc,n,hd⟩:=id p1;obtain⟨⟨Uv,S7,data2,S8⟩,jE,B2,n2,hd2⟩:=id p2;simp only at hc hd B2 hd2;subst hc hd B2 hd2;exact concat_meets ⟨_,ho,rfl⟩ ⟨_,jE,rfl⟩ noFill_tuple_add seq_tuple_add acV acN (acK _ _)
   (tuple_addW0 a b aQ.toArray wQ.toArray n n2 dd S7 sl S8 (by simp[e0])) ⟨ho,jE,.ref b,H,I,rfl,q0 (r1.mz.mp e0)⟩
 ·have hx:xs≠[]:=fun z=>e0 (r1.mz.mpr z);refine HT.G8 p1 p2 e0 (fun z=>⟨.ref a,H,I,rfl,q1 hx (r2.mz.mp z)⟩) (fun z=>?_) (by rw[<- r1.length,<- r2.length];exact hz);refine⟨.ref s.heap.objs.size,_,I.laid (t':=s.toks) (o:=.tup (xs++ys)) (fun b ob q=>aam _ q) (aar _) ?_,rfl,q2 hx (fun w=>z (r2.mz.mpr w)) _ (I.ck.fresh (aar _))⟩;exact⟨by rw[aaP];exact hz,_,r1.append r2,IsTup.new _ _⟩
def J4:List V->Hp->VK->Prop:=fun xs H Q=>(∃ i,xs=[.int i]/\Q (.int i) H)\/∃ k,xs=[.bl k]/\Q (.int (if k then 1 else 0)) H
theorem AX:dG X (.type "int") J4:=Aw
theorem cK.there{h:Heap}{o:HO}(x:cK P w H h a o):∃ ob,h.get? a=some ob:=by
 cases o with
 | lst xs=>obtain⟨_,_,_,_,e⟩:=x;exact⟨_,e⟩
 | tup xs=>obtain⟨_,_,_,ob,e,_⟩:=x;exact⟨_,e⟩
 | dK bO=>obtain⟨_,_,_,_,o,_,_,e,_⟩:=x;exact⟨_,e⟩
 | dT bO=>obtain⟨_,_,_,_,o,_,_,e,_⟩:=x;exact⟨_,e⟩
 | set S n=>obtain⟨o,_,_,_,e,_⟩:=x;exact⟨_,e⟩
 | ins C dx fs=>obtain⟨_,_,_,e,_⟩:=x;exact⟨_,e⟩
 | own y=>exact x
 | xd fs=>obtain⟨_,⟨_,_,_,e,_⟩,_⟩:=x;exact⟨_,e⟩
 | SQ lo hi=>obtain⟨_,_,_,e⟩:=x;exact⟨_,e⟩
 | ku ob u=>obtain⟨e,_⟩:=x;exact⟨_,e⟩
 | Ju ps=>exact⟨_,x⟩
 | met f y=>exact⟨_,x⟩
 | ext φ=>obtain⟨_,e,_⟩:=x;exact e
theorem eF.stays{h h':Heap}(x:eF P w H h)(k:∀ b u ob,H b=some u->h.get? b=some ob->h'.get? b=some ob):eF P w H h':=fun a o e =>
 (x a o e).tX (fun b u hb q=>by
  rcases hb with rfl | hb
  ·exact k _ _ _ e q
  ·exact k _ _ _ hb q) (fun _ q=>q) fun _ _ q=>q
structure Mt(P:sB)(w:World)(outer:List Env)(H:Hp)(s:Shared)(E:XK)(a C:Addr)(H':Hp)(B:Heap)(a0:Value)(s':Shared):Prop where
 os:s'.os=s.os
 bare:AllBare s'.gens
 un:Un (iG outer) [] H H' s.heap s'.heap
 ck:eF P w H' s'.heap
 new:H' a=none
 fly:Heap.FlyingW B outer a (.ref C) a0 s'.heap
 Tq:∀ b o,s.heap.get? b=some o->H b=none->b ∉ iG outer->B.get? b=some o
 Mv:∀ b o u,s.heap.get? b=some o->H b=some u->∃ o',B.get? b=some o'
 GK:∀ b u,H' b=some u->∃ o',B.get? b=some o'
 want:E (.ref C) none H'
def vY(P:sB)(w:World):AB:=fun outer H s E e s'=>∃(a C:Addr) (H':Hp) (B:Heap) (a0:Value),e=.ref a/\Mt P w outer H s E a C H' B a0 s'
section
variable {K:zn}{E:XK}
def rN(K:zn)(C:Addr):Prop:=∀ h:Heap,K.In h->∃(nm q:Str) (N:Addr) (bs bm:wf) (hdct:Bool) (sn:wv) (sub:wf) (ab:Bool) (col:Option Bool) (dd:wS) (k0 k1 k2 k3 k5:wP) (mN:xL),
 h.get? C=some (excClassObj nm q C N bs bm hdct sn sub ab col dd k0 k1 k2 k3 k5 "ValueError.__new__")/\h.Ns N mN/\mN "__init__"=none/\OwnTail h [.type "ValueError",.type "Exception",.type "BaseException",.type "object"] bm/\bm.contains (.type "BaseException")=true
def xg(C:Addr)(E:XK)(t:TA):TS:=fun _ σ H=>t σ H fun vs H1=>vs.length<=sizeLine/\E (.ref C) none H1
theorem Dt{x:Str}{np:Pos}{e:Expr}{t:TA}(hk:rN K C)(hg:Gl (eW (vY P w) P w K mg base N qual scope f cd A outer s H E) x)(hm:mg x=some (.ref C))(ha:PA (eW (vY P w) P w K mg base N qual scope f cd A outer s H E) (e::es) t)(hd:autoParam ((x == ("__debug__":Str))=false) ra1)(he:autoParam (starEach (e::es) (envOfC qual scope s.heap.objs.size f cd)=(false,eval e (envOfC qual scope s.heap.objs.size f cd))::starEach es (envOfC qual scope s.heap.objs.size f cd)) ra0)(qZ:autoParam ((backTo eY (starEach es (envOfC qual scope s.heap.objs.size f cd))).any (·.1)=false) ra0) :
  PS (eW (vY P w) P w K mg base N qual scope f cd A outer s H E) (.Raise (some (.Call (.Name x np) (e::es) [] eY)) none pos) (xg C E t):=by
 intro pins s1 σ H1 D I h;obtain⟨nm,q,Nn,bs,bm,hdct,sn,sub,ab,col,dd,k0,k1,k2,k3,k5,mN,hC,hN,Tr,hT,hb⟩:=hk (eW (vY P w) P w K mg base N qual scope f cd A outer s H E).base I.ok.mod.OK;refine wpAny_Raise_call_subT (C:=C) (N:=Nn) (nm:=nm) (q:=q) (bs:=bs) (bm:=bm) (hdct:=hdct) (sn:=sn) (sub:=sub) (ab:=ab) (col:=col) (dd:=dd) (k0:=k0) (k1:=k1) (k2:=k2) (k3:=k3) (k5:=k5) PySem.F.excBase_ValueError hb (I.ok.hd rfl) (by
  show(backTo eY (starEach (e::es) (envOfC qual scope s.heap.objs.size f cd))).any (·.1)=false;rw[he];show(false||(backTo eY (starEach es (envOfC qual scope s.heap.objs.size f cd))).any (·.1))=false;rw[qZ];rfl) Tr (mq I hg hm ⟨rfl,?_⟩ hd)
 have pI:=ha eY pins s1 σ H1 _ I h;rw[show(eW (vY P w) P w K mg base N qual scope f cd A outer s H E).env=envOfC qual scope s.heap.objs.size f cd from rfl]at pI ⊢;rw[he]at pI ⊢;refine Calls.evalArgs_plain (cP pI fun us s2 ⟨vs,H2,I2,r2,q2⟩=>?_);have KB:=I2.bk;refine⟨rfl,by rw[<- r2.length];exact q2.1,KB _ _ hC,hN.keeps KB,hT.keeps KB,fun h' a hx=>?_⟩;have HB:∀ en∈(envOfC qual scope s.heap.objs.size f cd::outer),∀ L,en.frame=some L->L∈iG (envOfC qual scope s.heap.objs.size f cd::outer):=fun en hen L hL=>adv.mpr ⟨en,hen,hL⟩;have K8:s2.heap.FunFrames base (envOfC qual scope s.heap.objs.size f cd::outer):=I2.stack;have ub:Un (iG outer) [] H H2 s.heap s2.heap:=I2.base;have Gs:∀ b∈iG outer,H b=none:=I2.ok.Gs;have sfr:∀ b∈iG (envOfC qual scope s.heap.objs.size f cd::outer),H2 b=none:=I2.qV;have X0:∀ b o,s.heap.get? b=some o->b ∉ iG outer->b ∉ iG (envOfC qual scope s.heap.objs.size f cd::outer):=fun b o q n z=>by
  rcases aat.mp (show b∈s.heap.objs.size::iG outer from z)with e | e
  ·have h2:=aay q;rw[e]at h2;exact absurd h2 (aa6 _)
  ·exact n e
 have U5:∀ b o,s2.heap.get? b=some o->b ∉ iG (envOfC qual scope s.heap.objs.size f cd::outer)->(PySem.W.hideAll s2.heap (iG (envOfC qual scope s.heap.objs.size f cd::outer))).get? b=some o:=fun b o q n=>PySem.W.hideAll_get _ q n;have Tq:∀ b o,s.heap.get? b=some o->H b=none->b ∉ iG outer->(PySem.W.hideAll s2.heap (iG (envOfC qual scope s.heap.objs.size f cd::outer))).get? b=some o:=fun b o q n nf=>U5 b o (ub.keep b o q n nf (by simp)) (X0 b o q nf);have Mv:∀ b o u,s.heap.get? b=some o->H b=some u->∃ o',(PySem.W.hideAll s2.heap (iG (envOfC qual scope s.heap.objs.size f cd::outer))).get? b=some o':=fun b o u q n=>by
  obtain⟨o1,e1⟩:=ub.there b o q (by simp);exact⟨o1,U5 b o1 e1 (X0 b o q fun z=>by rw[Gs b z]at n;cases n)⟩
 have GK:∀ b u,H2 b=some u->∃ o',(PySem.W.hideAll s2.heap (iG (envOfC qual scope s.heap.objs.size f cd::outer))).get? b=some o'/\s2.heap.get? b=some o':=fun b u n=>by
  obtain⟨ob,e⟩:=(I2.ck b u n).there;exact⟨ob,U5 b ob e (fun z=>by rw[sfr b z]at n;cases n),e⟩
 show wpAny _ _ (leaving _ _) _ _ _;refine wpAny_leaves_madeW (L:=s.heap.objs.size) (base:=PySem.W.hideAll s2.heap (iG (envOfC qual scope s.heap.objs.size f cd::outer))) (h:=s2.heap) (show(A.deeper (envOfC qual scope s.heap.objs.size f cd)).frames=some (envOfC qual scope s.heap.objs.size f cd::outer) from I2.ok.frames) rfl (fun b o q=>PySem.W.of_hideAll _ q) (PySem.W.funFrames_hide K8 HB) hx fun h'' tt fl tu tn us=>?_;have J5:∀ b o,s.heap.get? b=some o->H b=none->b∈iG outer->∃ sl,h''.get? b=some { o with slots:=sl }:=fun b o q n hb=>by
  obtain⟨sl,e1⟩:=ub.slot b o q n hb (by simp);obtain⟨_,o2,e2,nd⟩:=K8.mem (show b∈(envOfC qual scope s.heap.objs.size f cd::outer).filterMap (·.frame) from aaw _ hb);rw[e1]at e2;cases e2;obtain⟨Uh,e3⟩:=us b _ (hx.keeps b _ e1) nd;exact⟨Uh,e3⟩
 refine⟨a,C,H2,_,_,rfl,I2.os,I2.bare,⟨fun b o q n nf _=>fl.1 b o (Tq b o q n nf),fun b o q n hb _=>J5 b o q n hb,ub.free,fun b o q _=>?_,ub.qR,ub.px,ub.qT⟩,I2.ck.stays fun b u ob hb q=>?_,?_,fl,Tq,Mv,fun b u n=>?_,q2.2⟩
 ·cases hH:H b with
  | some u =>
   obtain⟨o',e'⟩:=Mv b o u q hH;exact⟨o',fl.1 b o' e'⟩
  | none =>
   by_cases hb:b∈iG outer
   ·obtain⟨sl,e3⟩:=J5 b o q hH hb;exact⟨_,e3⟩
   ·exact⟨o,fl.1 b o (Tq b o q hH hb)⟩
 ·obtain⟨o',e',e2⟩:=GK b u hb;rw[q]at e2;cases e2;exact fl.1 b _ e'
 ·cases n:H2 a with
  | none=>rfl
  | some u =>
   obtain⟨_,_,e2⟩:=GK a u n;rw[hx.new]at e2;cases e2
 ·obtain⟨o',e',_⟩:=GK b u n;exact⟨o',e'⟩
end
noncomputable def Cx.Qz(X:Cx)(xe:xz):Cx:={ X with xe:=xe }
noncomputable def Cx.marked(X:Cx)(a:Addr)(xe:xz):Cx:={ X with A:=X.A.mark (some (.ref a)),calm:=false,xe:=xe }
def U6(a:Addr)(cls:Value):HO:=.ext fun h=>∃ o,h.get? a=some o/\o.cls=cls
section
variable {K:zn}{E:XK}
theorem rO{x:Str}{np:Pos}{e:Expr}{t:TA}(hk:rN K C)(hm:mg x=some (.ref C))(ha:SA (eW (vY P w) P w K mg base N qual scope f cd A outer s H E) (e::es) t)(hs:autoParam ((e::es).all noStar=true) ra0)(hg:autoParam (Gl (eW (vY P w) P w K mg base N qual scope f cd A outer s H E) x) ra0)(hd:autoParam ((x == ("__debug__":Str))=false) ra1) :
  SS (eW (vY P w) P w K mg base N qual scope f cd A outer s H E) (.Raise (some (.Call (.Name x np) (e::es) [] eY)) none pos) (xg C E t) :=
 ⟨Dt hk hg hm ha.run hd (cI es _ (by rw[aba,aaK]at hs;exact hs.1)) (eQ (by rw[aba,aaK]at hs;exact hs.2))⟩
end
theorem cL.okX{K:zn}{x:Str}{st:Stmt}{k:Nat}{sp:Sp}(F:cL K x qual st f fd)(S:av N ps (defScope st))(len:∀ vs H Q E,sp vs H Q E->vs.length=ps.length)(c7:∀(bC:Value) (A:sK) (outer:List Env) (s:Shared) (H:Hp) (vs:List V) (Q:VK) (E:XK),cT k (A.deeper (envOfC qual (defScope st) s.heap.objs.size f bC))->sp vs H Q E ->
   ∃ t,tR (eW (vY P w) P w K mg base N qual (defScope st) f bC A outer s H E) (defBody st) t/\t { nx:=fun _ H'=>Q .cS H',rt:=Q } (start N vs) H):ba P w K mg base (vY P w) (k+1) f fd ps sp:=by
 obtain⟨oc,od,kV,doc,pm,an,bC,ct,wJ,rfl,lk,An⟩:=F.ex;refine JC lk An S len fun A outer s H vs Q E hr pB=>?_;obtain⟨t,h,q⟩:=c7 bC A outer s H vs Q E hr pB;exact⟨t,h.run,q⟩
structure U7(P:sB)(w:World)(K:zn)(mg:xL)(base:Heap)(k:Nat)(x:Str)(f:Addr)(fd:wT)(ps:wv)(sp:Sp):Prop where
 ok:ba P w K mg base (vY P w) k f fd ps sp
 b:Binds K fd ps []
 kp:PySem.W.keepIn K (.ref f)=true
 m:mg x=some (.ref f)
inductive DV where
 | im (d:PyData) | pt (p:Addr) | cst (xs:List V) | rf (a:Addr) | ty (n:String) | xh (c:Addr) | raw (xs:List V) | jh (ns:wn) | tp (xs:List (PyData ⊕ Addr))
inductive Cell where
 | lst (xs:List DV) | aE (g:Addr) (n:Nat) | part | dk (bO:List (Key×DV)) | dt (bO:List (List Key×DV)) | ob (k d:Addr) (fs:List (Str×DV))
variable {c:Cell}
abbrev Wd:=Addr->Option Cell
variable {W:Wd}
def aH(W:Wd)(p:Addr)(c:Cell):Wd:=fun a=>if a=p then some c else W a
def rP(W:Wd)(p:Addr):Wd:=fun a=>if a=p then none else W a
theorem aq:aH W p c p=some c:=by unfold aH;rw[aaN rfl]
theorem aw(h:a≠p):aH W p c a=W a:=by unfold aH;rw[aaD h]
theorem kM{c':Cell}:aH (aH W p c) p c'=aH W p c':=by funext a;unfold aH;split<;>rfl
theorem gL:rP W p p=none:=by unfold rP;rw[aaN rfl]
theorem gX(h:a≠p):rP W p a=W a:=by unfold rP;rw[aaD h]
open Classical in
noncomputable def hide (O:Addr->Prop) (H:Hp):Hp:=fun a=>if O a then none else H a
theorem au{O:Addr->Prop}{o:HO}:hide O H a=some o↔¬ O a/\H a=some o:=by
 unfold hide
 by_cases h:O a
 ·rw[aaN h];exact⟨(fun z=>by cases z),(fun z=>absurd h z.1)⟩
 ·rw[aaD h];exact⟨fun z=>⟨h,z⟩,fun z=>z.2⟩
def Mu(o:Option HO):Prop:=∃ u,o=some u/\∀ xs,u≠.tup xs
theorem Mu.ne{o:Option HO}(h:Mu o):o≠none:=by obtain⟨u,e,_⟩:=h;rw[e];exact fun z=>nomatch z
structure DC where
 K:zn
 Rs:Hp->Addr->Addr->Nat->Prop
 H0:Hp
 T:Addr->Prop
 O:Addr->Prop
 E:XK
 ex:Addr->Prop
structure DC.Ok(C:DC):Prop where
 rs:∀{H H':Hp} {t g:Addr} {n:Nat},C.Rs H t g n->H' t=H t->H' g=H g->C.Rs H' t g n
 rn:∀{H:Hp} {t g:Addr} {n:Nat},C.Rs H t g n->Mu (H t)/\Mu (H g)
 ex:∀ c,C.ex c->∀ H',(∀ a o,C.H0 a=some o->¬ C.T a->H' a=some o)->C.E (.ref c) none H'
noncomputable def Fz (C:DC) (W:Wd) (H:Hp):Hp:=hide (fun a=>C.O a\/(W a).isSome=true) H
def fT(F:Hp):List (PyData ⊕ Addr)->List V->Prop
 | [],vs=>vs=[]
 | .inl d::r,vs=>∃ y ys,vs=y::ys/\Rep F d y/\fT F r ys
 | .inr p::r,vs=>∃ ys,vs=.ref p::ys/\fT F r ys
theorem fT.same{F F':Hp}(s:aM F F'):∀{ts:List (PyData ⊕ Addr)} {vs:List V},fT F ts vs->fT F' ts vs
 | [],_,h=>h
 | .inl _::_,_,⟨y,ys,e,h,r⟩=>⟨y,ys,e,Rep.same s h,fT.same s r⟩
 | .inr _::_,_,⟨ys,e,r⟩=>⟨ys,e,fT.same s r⟩
def dX(C:DC)(F:Hp):DV->V->Prop
 | .im d,x=>Rep F d x
 | .pt p,x=>x=.ref p
 | .cst xs,x=>∃ a,x=.ref a/\∀ H,fg C.K H a xs
 | .rf a,x=>x=.ref a
 | .ty n,x=>x=.ty n
 | .xh c,x=>∃ a,x=.ref a/\F a=some (U6 a (.ref c))
 | .raw xs,x=>∃ a,x=.ref a/\F a=some (.tup xs)
 | .jh ns,x=>∃ a,x=.ref a/\eE C.K F a (ns.map V.int)
 | .tp ts,x=>∃ a vs,x=.ref a/\F a=some (.tup vs)/\fT F ts vs
def aD(C:DC)(F:Hp):List DV->List V->Prop
 | [],xs=>xs=[]
 | d::ds,xs=>∃ y ys,xs=y::ys/\dX C F d y/\aD C F ds ys
def Mx:PyData ⊕ Addr->DV
 | .inl d=>.im d
 | .inr p=>.pt p
theorem nP{C:DC}{F:Hp}:∀{ts:List (PyData ⊕ Addr)} {vs:List V},fT F ts vs->aD C F (ts.map Mx) vs
 | [],_,h=>h
 | .inl _::_,_,⟨y,ys,e,h,r⟩=>⟨y,ys,e,h,nP r⟩
 | .inr _::_,_,⟨ys,e,r⟩=>⟨_,ys,e,rfl,nP r⟩
theorem xi{C:DC}{F:Hp}:∀{ts:List (PyData ⊕ Addr)} {vs:List V},aD C F (ts.map Mx) vs->fT F ts vs
 | [],_,h=>h
 | .inl _::_,_,⟨y,ys,e,h,r⟩=>⟨y,ys,e,h,xi r⟩
 | .inr _::_,_,⟨y,ys,e,h,r⟩=>⟨ys,by rw[e,show y=V.ref _ from h],xi r⟩
def bP(C:DC)(W:Wd)(H:Hp)(p:Addr):Cell->Prop
 | .lst aK=>∃ xs,H p=some (.lst xs)/\aD C (Fz C W H) aK xs
 | .aE g n=>C.Rs H p g n/\W g=some .part/\∀ t' g' n',W t'=some (.aE g' n')->t'=p
 | .part=>Mu (H p)
 | .dk bO=>∃ xj,H p=some (.dK xj)/\xj.map (·.1)=bO.map (·.1)/\aD C (Fz C W H) (bO.map (·.2)) (xj.map (·.2))
 | .dt bO=>∃ xj,H p=some (.dT xj)/\xj.map (·.1)=bO.map (·.1)/\aD C (Fz C W H) (bO.map (·.2)) (xj.map (·.2))
 | .ob k d fs=>∃ ff,H p=some (.ins k d ff)/\ff.map (·.1)=fs.map (·.1)/\aD C (Fz C W H) (fs.map (·.2)) (ff.map (·.2))
abbrev bS:=List (Option DV)
def Slots(C:DC)(F:Hp):bS->St->Prop
 | [],[]=>True
 | none::ρ,_::σ=>Slots C F ρ σ
 | some dv::ρ,some v::σ=>dX C F dv v/\Slots C F ρ σ
 | _,_=>False
structure DR(C:DC)(σ:St)(H:Hp)(ρ:bS)(W:Wd):Prop where
 ok:C.Ok
 fr:∀ a o,C.H0 a=some o->¬ C.T a->H a=some o
 ho:∀ a,C.O a->H a≠none
 th:∀ a,C.T a->H a≠none
 sl:Slots C (Fz C W H) ρ σ
 ce:∀ p c,W p=some c->(C.H0 p=none\/C.T p)/\¬ C.O p/\bP C W H p c
section
variable {C:DC}{F F':Hp}{σ:St}{ρ:bS}{H':Hp}{W':Wd}{dv:DV}{x:V}{aK:List DV}{xs:List V}
theorem dX.mono(s:aM F F'):∀{dv:DV},dX C F dv x->dX C F' dv x
 | .im _,h=>Rep.same s h
 | .pt _,h=>h
 | .cst _,h=>h
 | .rf _,h=>h
 | .ty _,h=>h
 | .xh _,⟨a,e,h⟩=>⟨a,e,s _ _ h⟩
 | .raw _,⟨a,e,h⟩=>⟨a,e,s _ _ h⟩
 | .jh _,⟨a,e,h⟩=>⟨a,e,s.seq h⟩
 | .tp _,⟨a,vs,e,h,r⟩=>⟨a,vs,e,s _ _ h,r.same s⟩
theorem aD.mono(s:aM F F'):∀{aK:List DV} {xs:List V},aD C F aK xs->aD C F' aK xs
 | [],_,h=>h
 | _::_,_,⟨y,ys,e,h,r⟩=>⟨y,ys,e,h.mono s,aD.mono s r⟩
theorem aD.length:∀{aK:List DV} {xs:List V},aD C F aK xs->aK.length=xs.length
 | [],_,h=>by cases h;rfl
 | _::_,_,⟨y,ys,e,_,r⟩=>by subst e;simp[aD.length r]
theorem aD.get:∀{aK:List DV} {xs:List V} {i:Nat} {dv:DV},aD C F aK xs->aK[i]?=some dv->∃ x,xs[i]?=some x/\dX C F dv x
 | [],_,_,_,_,e=>by simp at e
 | _::_,_,0,_,⟨y,ys,e1,r,_⟩,e=>by simp at e;subst e e1;exact⟨y,rfl,r⟩
 | _::_,_,i+1,d,⟨y,ys,e1,_,rs⟩,e=>by
  obtain⟨x,h1,h2⟩:=aD.get (i:=i) (dv:=d) rs (by simpa using e);subst e1;exact⟨x,by simpa using h1,h2⟩
theorem aD.get'{i:Nat}(r:aD C F aK xs)(e:xs[i]?=some x):∃ dv,aK[i]?=some dv/\dX C F dv x:=by
 have hl:=r.length;have hi:i < xs.length:=(aan.mp e).1;obtain⟨y,h1,h2⟩:=r.get (i:=i) (dv:=aK[i]) (by simp[hl,hi]);rw[e]at h1;cases h1;exact⟨_,by simp[hl,hi],h2⟩
theorem aD.append:∀{aK:List DV} {xs:List V} {QA:List DV} {Gy:List V},aD C F aK xs->aD C F QA Gy->aD C F (aK++QA) (xs++Gy)
 | [],_,_,_,h,h'=>by cases h;exact h'
 | _::_,_,_,_,⟨y,ys,e,h,r⟩,h'=>by subst e;exact⟨y,_,rfl,h,aD.append r h'⟩
theorem aD.one(h:dX C F dv x):aD C F [dv] [x]:=⟨x,[],rfl,h,rfl⟩
theorem aD.set:∀{aK:List DV} {xs:List V} (i:Nat),aD C F aK xs->dX C F dv x->aD C F (aK.set i dv) (xs.set i x)
 | [],_,_,h,_=>by cases h;exact rfl
 | _::_,_,0,⟨y,ys,e,h,r⟩,h'=>by subst e;exact⟨x,ys,rfl,h',r⟩
 | _::_,_,i+1,⟨y,ys,e,h,r⟩,h'=>by subst e;exact⟨y,_,rfl,h,aD.set i r h'⟩
theorem aD.take:∀{aK:List DV} {xs:List V} (i:Nat),aD C F aK xs->aD C F (aK.take i) (xs.take i)
 | [],_,_,h=>by cases h;simp[aD]
 | _::_,_,0,_=>by simp[aD]
 | _::_,_,i+1,⟨y,ys,e,h,r⟩=>by subst e;exact⟨y,_,rfl,h,aD.take i r⟩
theorem aD.drop:∀{aK:List DV} {xs:List V} (i:Nat),aD C F aK xs->aD C F (aK.drop i) (xs.drop i)
 | [],_,_,h=>by cases h;simp[aD]
 | _::_,_,0,h=>h
 | _::_,_,i+1,⟨y,ys,e,h,r⟩=>by subst e;exact aD.drop i r
theorem aD.erase:∀{aK:List DV} {xs:List V} (i:Nat),aD C F aK xs->aD C F (aK.eraseIdx i) (xs.eraseIdx i)
 | [],_,_,h=>by cases h;exact rfl
 | _::_,_,0,⟨y,ys,e,h,r⟩=>by subst e;exact r
 | _::_,_,i+1,⟨y,ys,e,h,r⟩=>by subst e;exact⟨y,_,rfl,h,aD.erase i r⟩
theorem aD.fi:∀{ds:wE} {xs:List V},ak F ds xs->aD C F (ds.map .im) xs
 | [],_,h=>h
 | _::_,_,⟨y,ys,e,h,r⟩=>⟨y,ys,e,h,aD.fi r⟩
theorem aD.nQ:∀{ds:wE} {xs:List V},aD C F (ds.map .im) xs->ak F ds xs
 | [],_,h=>h
 | _::_,_,⟨y,ys,e,h,r⟩=>⟨y,ys,e,h,aD.nQ r⟩
theorem Slots.mono(s:aM F F'):∀{ρ:bS} {σ:St},Slots C F ρ σ->Slots C F' ρ σ
 | [],[],h=>h
 | none::ρ,_::σ,h=>Slots.mono (ρ:=ρ) (σ:=σ) s h
 | some _::_,some _::_,h=>⟨h.1.mono s,Slots.mono s h.2⟩
 | some _::_,none::_,h=>h.elim
 | [],_::_,h=>h.elim
 | none::_,[],h=>h.elim
 | some _::_,[],h=>h.elim
theorem Slots.get:∀{ρ:bS} {σ:St} {i:Nat} {dv:DV},Slots C F ρ σ->ρ[i]?=some (some dv)->∃ v,σ[i]?=some (some v)/\dX C F dv v
 | [],[],_,_,_,e=>by simp at e
 | none::_,_::_,0,_,_,e=>by simp at e
 | none::ρ,_::σ,i+1,_,h,e=>by
  obtain⟨v,h1,h2⟩:=Slots.get (ρ:=ρ) (σ:=σ) (i:=i) h (by simpa using e);exact⟨v,by simpa using h1,h2⟩
 | some _::_,some v::_,0,_,h,e=>by simp at e;subst e;exact⟨v,rfl,h.1⟩
 | some _::_,some _::_,i+1,_,h,e=>by
  obtain⟨v,h1,h2⟩:=Slots.get (i:=i) h.2 (by simpa using e);exact⟨v,by simpa using h1,h2⟩
 | some _::_,none::_,_,_,h,_=>h.elim
 | [],_::_,_,_,h,_=>h.elim
 | none::_,[],_,_,h,_=>h.elim
 | some _::_,[],_,_,h,_=>h.elim
theorem Slots.set{v:V}(hv:dX C F dv v):∀{ρ:bS} {σ:St} (i:Nat),Slots C F ρ σ->Slots C F (ρ.set i (some dv)) (σ.set i (some v))
 | [],[],_,h=>by cases ‹Nat›<;>exact h
 | none::_,_::_,0,h=>⟨hv,h⟩
 | none::ρ,_::σ,i+1,h=>Slots.set (ρ:=ρ) (σ:=σ) hv i h
 | some _::_,some _::_,0,h=>⟨hv,h.2⟩
 | some _::_,some _::_,i+1,h=>⟨h.1,Slots.set hv i h.2⟩
 | some _::_,none::_,_,h=>h.elim
 | [],_::_,_,h=>h.elim
 | none::_,[],_,h=>h.elim
 | some _::_,[],_,h=>h.elim
theorem Slots.at(h:Slots C F ρ σ)(i:Nat):Slots C F [(ρ[i]?).join] [(σ[i]?).join]:=by
 cases e:(ρ[i]?).join with
 | none=>exact trivial
 | some dv =>
  have e':ρ[i]?=some (some dv):=by
   cases q:ρ[i]? with
   | none=>rw[q]at e;cases e
   | some o=>rw[q]at e;exact abJ some e
  obtain⟨v,h1,h2⟩:=h.get e';rw[h1];exact⟨h2,trivial⟩
def AY(ix:List (Option Nat))(ρ:bS):bS:=ix.map fun o=>match o with | none=>none | some j=>(ρ[j]?).join
theorem Slots.blk(h:Slots C F ρ σ):∀ ix:List (Option Nat),Slots C F (AY ix ρ) (L2.blk ix σ)
 | []=>trivial
 | none::r=>by show Slots C F (none::AY r ρ) (none::L2.blk r σ);exact Slots.blk h r
 | some j::r=>by
  have h1:=h.at j;have h2:=Slots.blk h r;show Slots C F ((ρ[j]?).join::AY r ρ) ((σ[j]?).join::L2.blk r σ);cases e:(ρ[j]?).join with
  | none=>exact h2
  | some dv =>
   rw[e]at h1;cases e2:(σ[j]?).join with
   | none=>rw[e2]at h1;exact h1.elim
   | some v=>rw[e2]at h1;exact⟨h1.1,h2⟩
theorem Fz.le{o:HO}(h:Fz C W H a=some o):H a=some o:=(au.mp h).2
theorem Fz.sm:aM (Fz C W H) H:=fun _ _ h=>Fz.le h
theorem Fz.same(hW:∀ a,(W' a).isSome=true->(W a).isSome=true\/H a=none)(hH:∀ a o,H a=some o->W a=none->H' a=some o):aM (Fz C W H) (Fz C W' H'):=fun a o h=>by
 obtain⟨h1,h2⟩:=au.mp h;refine au.mpr ⟨fun z=>?_,hH a o h2 ?_⟩
 ·rcases z with z | z
  ·exact h1 (.inl z)
  ·rcases hW a z with q | q
   ·exact h1 (.inr q)
   ·rw[q]at h2;cases h2
 ·cases e:W a with
  | none=>rfl
  | some c=>exact absurd (.inr (by rw[e];rfl)) h1
theorem bP.mono{c:Cell}(s:aM (Fz C W H) (Fz C W' H'))(ok:C.Ok)(hp:H' p=H p)(hg:∀ g,W g=some .part->W' g=some .part/\H' g=H g)(ht:∀ t' g' n',W' t'=some (.aE g' n')->∃ n,W t'=some (.aE g' n))(h:bP C W H p c):bP C W' H' p c:=by
 cases c with
 | lst aK=>obtain⟨xs,e,r⟩:=h;exact⟨xs,by rw[hp];exact e,r.mono s⟩
 | aE g n =>
  obtain⟨r,e,u⟩:=h;refine⟨ok.rs r hp (hg g e).2,(hg g e).1,fun t' g' n' q=>?_⟩;obtain⟨m,q⟩:=ht t' g' n' q;exact u t' g' m q
 | part=>show Mu (H' p);rw[hp];exact h
 | dk bO=>obtain⟨ks,e,k,r⟩:=h;exact⟨ks,by rw[hp];exact e,k,r.mono s⟩
 | dt bO=>obtain⟨ks,e,k,r⟩:=h;exact⟨ks,by rw[hp];exact e,k,r.mono s⟩
 | ob _ _ bO=>obtain⟨ks,e,k,r⟩:=h;exact⟨ks,by rw[hp];exact e,k,r.mono s⟩
theorem bP.there(ok:C.Ok)(h:bP C W H p c):H p≠none:=by
 cases c with
 | lst aK=>obtain⟨xs,e,r⟩:=h;rw[e];exact fun z=>nomatch z
 | aE g n=>exact(ok.rn h.1).1.ne
 | part=>exact h.ne
 | dk bO=>obtain⟨ks,e,k,r⟩:=h;rw[e];exact fun z=>nomatch z
 | dt bO=>obtain⟨ks,e,k,r⟩:=h;rw[e];exact fun z=>nomatch z
 | ob _ _ bO=>obtain⟨ks,e,k,r⟩:=h;rw[e];exact fun z=>nomatch z
theorem bP.mu(ok:C.Ok)(h:bP C W H p c):Mu (H p):=by
 cases c with
 | lst aK=>obtain⟨xs,e,r⟩:=h;exact⟨_,e,fun _ z=>nomatch z⟩
 | aE g n=>exact(ok.rn h.1).1
 | part=>exact h
 | dk bO=>obtain⟨ks,e,k,r⟩:=h;exact⟨_,e,fun _ z=>nomatch z⟩
 | dt bO=>obtain⟨ks,e,k,r⟩:=h;exact⟨_,e,fun _ z=>nomatch z⟩
 | ob _ _ bO=>obtain⟨ks,e,k,r⟩:=h;exact⟨_,e,fun _ z=>nomatch z⟩
theorem DR.there(D:DR C σ H ρ W)(h:W p=some c):H p≠none:=(D.ce p c h).2.2.there D.ok
theorem DR.fresh(D:DR C σ H ρ W)(h:H p=none):W p=none:=by
 cases e:W p with
 | none=>rfl
 | some c=>exact absurd h (D.there e)
theorem DR.nO(D:DR C σ H ρ W)(h:H p=none):¬ C.O p:=fun z=>D.ho p z h
theorem DR.J6(D:DR C σ H ρ W)(h:H p=none):C.H0 p=none:=by
 cases e:C.H0 p with
 | none=>rfl
 | some o =>
  by_cases ht:C.T p
  ·exact absurd h (D.th p ht)
  ·rw[D.fr p o e ht]at h;cases h
theorem DR.step(D:DR C σ H ρ W)(hW:∀ a,(W' a).isSome=true->(W a).isSome=true\/H a=none)(hH:∀ a o,H a=some o->W a=none->H' a=some o)(hn:∀ a,H a≠none->H' a≠none)(hc:aM (Fz C W H) (Fz C W' H')->∀ p c,W' p=some c->(C.H0 p=none\/C.T p)/\¬ C.O p/\bP C W' H' p c):DR C σ H' ρ W'/\aM (Fz C W H) (Fz C W' H'):=by
 have s:=Fz.same (C:=C) hW hH;refine⟨⟨D.ok,fun a o e ht=>?_,fun a ha=>hn a (D.ho a ha),fun a ha=>hn a (D.th a ha),D.sl.mono s,hc s⟩,s⟩;refine hH a o (D.fr a o e ht) ?_;cases q:W a with
 | none=>rfl
 | some c =>
  rcases (D.ce a c q).1 with z | z
  ·rw[e]at z;cases z
  ·exact absurd z ht
end
end L2
namespace L2
open PySem PySem.Spec PyProof.Rows
variable {H F:Hp}{d dx:PyData}
def Cell.plain:Cell->Bool
 | .aE _ _=>false
 | .part=>false
 | _=>true
section
variable {C:DC}{σ:St}{ρ:bS}{H':Hp}{W W':Wd}{p:Addr}{dv:DV}{x:V}{aK U8:List DV}{xs:List V}
theorem uB{a:Addr}{o u:HO}(h:H p=none)(e:H a=some o):upd H p u a=some o:=by rw[bw (bV e h)];exact e
theorem xk{a:Addr}{o:HO}(h:H a≠none):upd H p o a≠none:=by
 unfold upd;split
 ·exact fun z=>nomatch z
 ·exact h
theorem DR.GA(D:DR C σ H ρ W)(h:H p=none)(o:HO):DR C σ (upd H p o) ρ W/\aM (Fz C W H) (Fz C W (upd H p o))/\Fz C W (upd H p o) p=some o:=by
 have np:∀ a,H a≠none->a≠p:=fun a ha z=>ha (by rw[z];exact h);obtain⟨d,s⟩:=D.step (W':=W) (H':=upd H p o) (fun a z=>.inl z) (fun a u e _=>uB h e) (fun a ha=>xk ha) fun s q c e=>by
  obtain⟨h1,h2,h3⟩:=D.ce q c e;exact⟨h1,h2,h3.mono s D.ok (bw (np q (D.there e))) (fun g hg=>⟨hg,bw (np g (D.there hg))⟩) fun t' g' n' z=>⟨n',z⟩⟩
 refine⟨d,s,au.mpr ⟨fun z=>?_,dF⟩⟩;rcases z with z | z
 ·exact D.nO h z
 ·rw[D.fresh h]at z;cases z
theorem DR.QB{c:Cell}{o:HO}(D:DR C σ H ρ W)(h:H p=none)(hp:c.plain=true)(hc:aM (Fz C W H) (Fz C (aH W p c) (upd H p o))->bP C (aH W p c) (upd H p o) p c):DR C σ (upd H p o) ρ (aH W p c)/\aM (Fz C W H) (Fz C (aH W p c) (upd H p o)):=by
 have np:∀ a,H a≠none->a≠p:=fun a ha z=>ha (by rw[z];exact h);refine D.step (fun a z=>?_) (fun a u e _=>uB h e) (fun a ha=>xk ha) fun s q c' e=>?_
 ·by_cases hq:a=p
  ·exact .inr (by rw[hq];exact h)
  ·rw[aw hq]at z;exact .inl z
 ·by_cases hq:q=p
  ·subst hq;rw[aq]at e;cases e;exact⟨.inl (D.J6 h),D.nO h,hc s⟩
  ·rw[aw hq]at e;obtain⟨h1,h2,h3⟩:=D.ce q c' e;refine⟨h1,h2,h3.mono s D.ok (bw hq) (fun g hg=>?_) fun t' g' n' z=>?_⟩
   ·have:=np g (D.there hg);exact⟨by rw[aw this];exact hg,bw this⟩
   ·by_cases ht:t'=p
    ·subst ht;rw[aq]at z;cases z;cases hp
    ·rw[aw ht]at z;exact⟨n',z⟩
theorem DR.U9(D:DR C σ H ρ W)(h:H p=none)(r:aD C (Fz C W H) aK xs):DR C σ (upd H p (.lst xs)) ρ (aH W p (.lst aK))/\aM (Fz C W H) (Fz C (aH W p (.lst aK)) (upd H p (.lst xs))) :=
 D.QB h rfl fun s=>⟨xs,dF,r.mono s⟩
theorem DR.X1{c c0:Cell}{o:HO}(D:DR C σ H ρ W)(e:W p=some c0)(h0:c0.plain=true)(h1:c.plain=true)(hc:aM (Fz C W H) (Fz C (aH W p c) (upd H p o))->bP C (aH W p c) (upd H p o) p c):DR C σ (upd H p o) ρ (aH W p c)/\aM (Fz C W H) (Fz C (aH W p c) (upd H p o)):=by
 refine D.step (fun a z=>?_) (fun a u q w=>?_) (fun a ha=>xk ha) fun s q c' e'=>?_
 ·by_cases hq:a=p
  ·exact .inl (by rw[hq,e];rfl)
  ·rw[aw hq]at z;exact .inl z
 ·rw[bw (fun z=>by rw[z,e]at w;cases w)];exact q
 ·by_cases hq:q=p
  ·subst hq;rw[aq]at e';cases e';exact⟨(D.ce q c0 e).1,(D.ce q c0 e).2.1,hc s⟩
  ·rw[aw hq]at e';obtain⟨AZ,h2,h3⟩:=D.ce q c' e';refine⟨AZ,h2,h3.mono s D.ok (bw hq) (fun g hg=>?_) fun t' g' n' z=>?_⟩
   ·have:g≠p:=fun z=>by rw[z,e]at hg;cases hg;cases h0
    exact⟨by rw[aw this];exact hg,bw this⟩
   ·by_cases ht:t'=p
    ·subst ht;rw[aq]at z;cases z;cases h1
    ·rw[aw ht]at z;exact⟨n',z⟩
theorem DR.wr(D:DR C σ H ρ W)(e:W p=some (.lst U8))(r:aD C (Fz C W H) aK xs):DR C σ (upd H p (.lst xs)) ρ (aH W p (.lst aK))/\aM (Fz C W H) (Fz C (aH W p (.lst aK)) (upd H p (.lst xs))) :=
 D.X1 e rfl rfl fun s=>⟨xs,dF,r.mono s⟩
theorem DR.del{c0:Cell}(D:DR C σ H ρ W)(e:W p=some c0)(h0:c0.plain=true):DR C σ H ρ (rP W p)/\aM (Fz C W H) (Fz C (rP W p) H):=by
 refine D.step (fun a z=>?_) (fun a u q w=>q) (fun a ha=>ha) fun s q c' e'=>?_
 ·by_cases hq:a=p
  ·rw[hq,gL]at z;cases z
  ·rw[gX hq]at z;exact .inl z
 ·by_cases hq:q=p
  ·subst hq;rw[gL]at e';cases e'
  ·rw[gX hq]at e';obtain⟨AZ,h2,h3⟩:=D.ce q c' e';refine⟨AZ,h2,h3.mono s D.ok rfl (fun g hg=>?_) fun t' g' n' z=>?_⟩
   ·have:g≠p:=fun z=>by rw[z,e]at hg;cases hg;cases h0
    exact⟨by rw[gX this];exact hg,rfl⟩
   ·by_cases ht:t'=p
    ·subst ht;rw[gL]at z;cases z
    ·rw[gX ht]at z;exact⟨n',z⟩
theorem gr{a:Addr}(s:aM H H')(h:H a≠none):H' a=H a:=by
 cases e:H a with
 | none=>exact absurd e h
 | some o=>exact s a o e
theorem rQ(s:aM H H'):∀ a,H a≠none->H' a≠none:=fun a h=>by rw[gr s h];exact h
theorem DR.same(D:DR C σ H ρ W)(s:aM H H'):DR C σ H' ρ W/\aM (Fz C W H) (Fz C W H'):=by
 refine D.step (fun a z=>.inl z) (fun a u q _=>s a u q) (rQ s) fun s' q c e=>?_;obtain⟨h1,h2,h3⟩:=D.ce q c e;exact⟨h1,h2,h3.mono s' D.ok (gr s (D.there e)) (fun g hg=>⟨hg,gr s (D.there hg)⟩) fun t' g' n' z=>⟨n',z⟩⟩
theorem DR.kp{t g:Addr}{n n':Nat}(D:DR C σ H ρ W)(e:W t=some (.aE g n))(k:Kp t g H H')(r:C.Rs H' t g n'):DR C σ H' ρ (aH W t (.aE g n'))/\aM (Fz C W H) (Fz C (aH W t (.aE g n')) H'):=by
 obtain⟨_,eg,uq⟩:=(D.ce t _ e).2.2;have keep:∀ a,a≠t->a≠g->H a≠none->H' a=H a:=fun a h1 h2 h=>by
  cases q:H a with
  | none=>exact absurd q h
  | some o=>exact k a o q h1 h2
 have gt:g≠t:=fun z=>by rw[z,e]at eg;cases eg
 refine D.step (fun a z=>?_) (fun a u q w=>?_) (fun a ha=>?_) fun s q c e'=>?_
 ·by_cases hq:a=t
  ·exact .inl (by rw[hq,e];rfl)
  ·rw[aw hq]at z;exact .inl z
 ·exact k a u q (fun z=>by rw[z,e]at w;cases w) (fun z=>by rw[z,eg]at w;cases w)
 ·by_cases h1:a=t
  ·rw[h1];exact(D.ok.rn r).1.ne
  by_cases h2:a=g
  ·rw[h2];exact(D.ok.rn r).2.ne
  rw[keep a h1 h2 ha];exact ha
 ·by_cases hq:q=t
  ·subst hq;rw[aq]at e';cases e';refine⟨(D.ce q _ e).1,(D.ce q _ e).2.1,r,by rw[aw gt];exact eg,fun t' g' m z=>?_⟩
   by_cases ht:t'=q
   ·exact ht
   ·rw[aw ht]at z;exact uq t' g' m z
  ·rw[aw hq]at e';obtain⟨AZ,h2,h3⟩:=D.ce q c e';refine⟨AZ,h2,?_⟩
   by_cases A0:q=g
   ·subst A0;rw[eg]at e';cases e';exact(D.ok.rn r).2
   ·cases c with
    | aE g2 n2=>exact absurd (uq q g2 n2 e') hq
    | part=>show Mu (H' q);rw[keep q hq A0 (D.there e')];exact h3
    | lst ds=>obtain⟨xs,z,rr⟩:=h3;exact⟨xs,k q _ z hq A0,rr.mono s⟩
    | dk ds=>obtain⟨xs,z,kk,rr⟩:=h3;exact⟨xs,k q _ z hq A0,kk,rr.mono s⟩
    | dt ds=>obtain⟨xs,z,kk,rr⟩:=h3;exact⟨xs,k q _ z hq A0,kk,rr.mono s⟩
    | ob _ _ ds=>obtain⟨xs,z,kk,rr⟩:=h3;exact⟨xs,k q _ z hq A0,kk,rr.mono s⟩
theorem DR.set(D:DR C σ H ρ W)(i:Nat)(h:dX C (Fz C W H) dv x):DR C (σ.set i (some x)) H (ρ.set i (some dv)) W:=⟨D.ok,D.fr,D.ho,D.th,D.sl.set h i,D.ce⟩
theorem DR.slots{bB:St}{bZ:bS}(D:DR C σ H ρ W)(h:Slots C (Fz C W H) bZ bB):DR C bB H bZ W:=⟨D.ok,D.fr,D.ho,D.th,h,D.ce⟩
def eR(f:DV->Option PyData):List DV->Option wE
 | []=>some []
 | x::r=>(f x).bind fun d=>(eR f r).map (d::·)
def dat:Nat->Wd->DV->Option PyData
 | _,_,.im d=>some d
 | n+1,W,.pt p=>match W p with
  | some (.lst xs)=>(eR (dat n W) xs).map .list
  | _=>none
 | n+1,W,.tp ts=>(eR (dat n W) (ts.map Mx)).map .tuple
 | _,_,_=>none
theorem jN{f:DV->Option PyData}(hf:∀ d,f (.im d)=some d):∀ ds:List PyData,eR f (ds.map .im)=some ds
 | []=>rfl
 | d::r=>by rw[aaZ];unfold eR;rw[hf,jN hf r];rfl
theorem fU{F:Hp}{f:DV->Option PyData}(hf:∀ dv x d,dX C (Fz C W H) dv x->f dv=some d->Rep F d x):∀{aK:List DV} {xs:List V} {ds:wE},aD C (Fz C W H) aK xs->eR f aK=some ds->ak F ds xs
 | [],_,_,h,e=>by cases h;cases e;exact rfl
 | d::r,_,ds,⟨y,ys,e1,h,hr⟩,e=>by
  unfold eR at e;cases q:f d with
  | none=>rw[q]at e;cases e
  | some d' =>
   rw[q]at e;cases q2:eR f r with
   | none=>rw[q2]at e;cases e
   | some B4 =>
    rw[q2]at e;cases e;exact⟨y,ys,e1,hf _ _ _ h q,fU hf hr q2⟩
def dO:Option Cell->Prop
 | some (.aE _ _)=>True
 | some .part=>True
 | _=>False
theorem fE{o:Option Cell}(h:dO o):∃ c,o=some c:=by
 cases o with
 | none=>exact h.elim
 | some c=>exact⟨c,rfl⟩
theorem DR.dat(D:DR C σ H ρ W):∀(n:Nat) {dv:DV} {x:V} {d:PyData},dX C (Fz C W H) dv x->dat n W dv=some d->Rep (hide (fun a=>C.O a\/dO (W a)) H) d x
 | n,.im d',x,d,h,e=>by
  have e':d'=d:=by cases n<;>exact aa5 e
  subst e';exact Rep.same (fun a o z=>by obtain⟨z1,z2⟩:=au.mp z;exact au.mpr ⟨fun w=>z1 (w.elim .inl fun w=>.inr (by obtain⟨c,e⟩:=fE w;rw[e];rfl)),z2⟩) h
 | 0,.pt p,_,_,_,e=>by cases e
 | n+1,.pt p,x,d,h,e=>by
  unfold L2.dat at e;cases q:W p with
  | none=>rw[q]at e;cases e
  | some c =>
   rw[q]at e;cases c with
   | lst ys =>
    cases q2:eR (L2.dat n W) ys with
    | none=>simp[q2]at e
    | some ds =>
     simp[q2]at e;subst e;obtain⟨_,h2,xs,hx,hr⟩:=D.ce p _ q;exact⟨p,xs,h,au.mpr ⟨fun w=>w.elim h2 fun w=>by rw[q]at w;exact w,hx⟩,fU (fun dv x d h e=>DR.dat D n h e) hr q2⟩
   | aE _ _=>cases e
   | part=>cases e
   | dk _=>cases e
   | dt _=>cases e
   | ob _ _ _=>cases e
 | 0,.cst _,_,_,_,e=>by cases e
 | n+1,.cst _,_,_,_,e=>by cases e
 | 0,.rf _,_,_,_,e=>by cases e
 | n+1,.rf _,_,_,_,e=>by cases e
 | 0,.ty _,_,_,_,e=>by cases e
 | n+1,.ty _,_,_,_,e=>by cases e
 | 0,.xh _,_,_,_,e=>by cases e
 | n+1,.xh _,_,_,_,e=>by cases e
 | 0,.raw _,_,_,_,e=>by cases e
 | n+1,.raw _,_,_,_,e=>by cases e
 | 0,.jh _,_,_,_,e=>by cases e
 | n+1,.jh _,_,_,_,e=>by cases e
 | 0,.tp _,_,_,_,e=>by cases e
 | n+1,.tp ts,x,d,h,e=>by
  unfold L2.dat at e;cases q2:eR (L2.dat n W) (ts.map Mx) with
  | none=>simp[q2]at e
  | some ds =>
   simp[q2]at e;subst e;obtain⟨p,vs,e1,h1,r⟩:=h;exact⟨p,vs,e1,au.mpr ⟨fun w=>(au.mp h1).1 (w.elim .inl fun w=>.inr (by obtain⟨c,e⟩:=fE w;rw[e];rfl)),(au.mp h1).2⟩,fU (fun dv x d h e=>DR.dat D n h e) (nP r) q2⟩
theorem HC{O:Addr->Prop}:aM (hide O H) H:=fun a o h=>(au.mp h).2
theorem DR.uC(D:DR C σ H ρ W){n:Nat}(h:dX C (Fz C W H) dv x)(e:L2.dat n W dv=some d):Rep H d x:=(D.dat n h e).same HC
def iC(f:Wd->DV->Option (PyData×Wd)):Wd->List DV->Option (List PyData×Wd)
 | W,[]=>some ([],W)
 | W,x::r=>(f W x).bind fun(d,W1)=>(iC f W1 r).map fun(ds,W2)=>(d::ds,W2)
def ku:Nat->Wd->DV->Option (PyData×Wd)
 | _,W,.im d=>some (d,W)
 | n+1,W,.pt p=>match W p with
  | some (.lst xs)=>(iC (ku n) (rP W p) xs).map fun(ds,W1)=>(.list ds,W1)
  | _=>none
 | _,_,_=>none
theorem fF{f:Wd->DV->Option (PyData×Wd)}{W:Wd}(hf:∀ W d,f W (.im d)=some (d,W)):∀ ds:List PyData,iC f W (ds.map .im)=some (ds,W)
 | []=>rfl
 | d::r=>by rw[aaZ];unfold iC;rw[hf];show(iC f W (r.map .im)).map _=_;rw[fF hf r];rfl
def J7(C:DC)(σ:St)(ρ:bS)(f:Wd->DV->Option (PyData×Wd)):Prop:=∀{H:Hp} {W W':Wd} {dv:DV} {x:V} {d:PyData},DR C σ H ρ W->dX C (Fz C W H) dv x->f W dv=some (d,W')->DR C σ H ρ W'/\aM (Fz C W H) (Fz C W' H)/\Rep (Fz C W' H) d x/\∀ a,W a=none->W' a=none
theorem gu{f:Wd->DV->Option (PyData×Wd)}(hf:J7 C σ ρ f):∀{aK:List DV} {W:Wd} {xs:List V} {ds:wE} {W':Wd},DR C σ H ρ W->aD C (Fz C W H) aK xs->iC f W aK=some (ds,W')->DR C σ H ρ W'/\aM (Fz C W H) (Fz C W' H)/\ak (Fz C W' H) ds xs/\∀ a,W a=none->W' a=none
 | [],W,_,_,_,D,h,e=>by cases h;cases e;exact⟨D,aM.refl _,rfl,fun _ z=>z⟩
 | d::r,W,_,ds,W',D,⟨y,ys,e1,h,hr⟩,e=>by
  unfold iC at e;cases q:f W d with
  | none=>rw[q]at e;cases e
  | some dw =>
   obtain⟨d',W1⟩:=dw;rw[q]at e;cases q2:iC f W1 r with
   | none=>simp[q2]at e
   | some Va =>
    obtain⟨B4,W2⟩:=Va;simp[q2]at e;obtain⟨e3,e4⟩:=e;subst e3 e4;obtain⟨D1,s1,r1,k1⟩:=hf D h q;obtain⟨D2,s2,r2,k2⟩:=gu hf D1 (hr.mono s1) q2;exact⟨D2,s1.trans s2,⟨y,ys,e1,r1.same s2,r2⟩,fun a z=>k2 a (k1 a z)⟩
theorem ju:∀ n:Nat,J7 C σ ρ (ku n)
 | n,H,W,W',.im d',x,d,D,h,e=>by
  have e':(d',W)=(d,W'):=by cases n<;>exact aa5 e
  cases e';exact⟨D,aM.refl _,h,fun _ z=>z⟩
 | 0,_,_,_,.pt p,_,_,_,_,e=>by cases e
 | n+1,H,W,W',.pt p,x,d,D,h,e=>by
  unfold ku at e;cases q:W p with
  | none=>rw[q]at e;cases e
  | some c =>
   rw[q]at e;cases c with
   | lst ys =>
    cases q2:iC (ku n) (rP W p) ys with
    | none=>simp[q2]at e
    | some dw =>
     obtain⟨ds,W1⟩:=dw;simp[q2]at e;obtain⟨e3,e4⟩:=e;subst e3 e4;obtain⟨_,h2,xs,hx,hr⟩:=D.ce p _ q;obtain⟨D1,s1⟩:=D.del q rfl;obtain⟨D2,s2,r2,k2⟩:=gu (ju n) D1 (hr.mono s1) q2;refine⟨D2,s1.trans s2,⟨p,xs,h,au.mpr ⟨fun z=>?_,hx⟩,r2⟩,fun a z=>k2 a ?_⟩
     ·rcases z with z | z
      ·exact h2 z
      ·rw[k2 p gL]at z;cases z
     ·by_cases ha:a=p
      ·rw[ha];exact gL
      ·rw[gX ha];exact z
   | aE _ _=>cases e
   | part=>cases e
   | dk _=>cases e
   | dt _=>cases e
   | ob _ _ _=>cases e
 | 0,_,_,_,.cst _,_,_,_,_,e=>by cases e
 | n+1,_,_,_,.cst _,_,_,_,_,e=>by cases e
 | 0,_,_,_,.rf _,_,_,_,_,e=>by cases e
 | n+1,_,_,_,.rf _,_,_,_,_,e=>by cases e
 | 0,_,_,_,.ty _,_,_,_,_,e=>by cases e
 | n+1,_,_,_,.ty _,_,_,_,_,e=>by cases e
 | 0,_,_,_,.xh _,_,_,_,_,e=>by cases e
 | n+1,_,_,_,.xh _,_,_,_,_,e=>by cases e
 | 0,_,_,_,.raw _,_,_,_,_,e=>by cases e
 | n+1,_,_,_,.raw _,_,_,_,_,e=>by cases e
 | 0,_,_,_,.jh _,_,_,_,_,e=>by cases e
 | n+1,_,_,_,.jh _,_,_,_,_,e=>by cases e
 | 0,_,_,_,.tp _,_,_,_,_,e=>by cases e
 | n+1,_,_,_,.tp _,_,_,_,_,e=>by cases e
end
abbrev DK:=DV->Wd->Prop
abbrev cW:=bS->Wd->DK->Prop
abbrev nR:=bS->Wd->(Bool->Wd->Prop)->Prop
abbrev lN:=bS->Wd->(List DV->Wd->Prop)->Prop
abbrev My:=bS->Wd->(Option Int->Wd->Prop)->Prop
abbrev rR:=DV->DV->Wd->DK->Prop
def KE(C:DC)(σ:St)(ρ:bS)(W:Wd)(H:Hp)(Qd:DK)(Q:VK):Prop:=∀ x dv H' W',DR C σ H' ρ W'->aM (Fz C W H) (Fz C W' H')->dX C (Fz C W' H') dv x->Qd dv W'->Q x H'
def Ts(C:DC)(σ:St)(ρ:bS)(W:Wd)(H:Hp)(Qd:Bool->Wd->Prop)(Q:Bool->Hp->Prop):Prop:=∀ b H' W',DR C σ H' ρ W'->aM (Fz C W H) (Fz C W' H')->Qd b W'->Q b H'
def KA(C:DC)(σ:St)(ρ:bS)(W:Wd)(H:Hp)(Qd:List DV->Wd->Prop)(Q:List V->Hp->Prop):Prop:=∀ xs aK H' W',DR C σ H' ρ W'->aM (Fz C W H) (Fz C W' H')->aD C (Fz C W' H') aK xs->Qd aK W'->Q xs H'
def KO(C:DC)(σ:St)(ρ:bS)(W:Wd)(H:Hp)(Qd:v0->Wd->Prop)(Q:v0->Hp->Prop):Prop:=∀ o H' W',DR C σ H' ρ W'->aM (Fz C W H) (Fz C W' H')->Qd o W'->Q o H'
class lO (C:DC) (K:zn):Prop where
 eq:C.K=K
instance {K:zn}{Rs:Hp->Addr->Addr->Nat->Prop}{H0:Hp}{T O:Addr->Prop}{E:XK}{ex:Addr->Prop}:lO ⟨K,Rs,H0,T,O,E,ex⟩ K:=⟨rfl⟩
class HE (C:DC) (Rs:Hp->Addr->Addr->Nat->Prop):Prop where
 eq:C.Rs=Rs
instance {K:zn}{Rs:Hp->Addr->Addr->Nat->Prop}{H0:Hp}{T O:Addr->Prop}{E:XK}{ex:Addr->Prop}:HE ⟨K,Rs,H0,T,O,E,ex⟩ Rs:=⟨rfl⟩
class X2 (C:DC) (E:XK) (X:outParam (Addr->Prop)):Prop where
 e:C.E=E
 x:C.ex=X
instance {K:zn}{Rs:Hp->Addr->Addr->Nat->Prop}{H0:Hp}{T O:Addr->Prop}{E:XK}{ex:Addr->Prop}:X2 ⟨K,Rs,H0,T,O,E,ex⟩ E ex:=⟨rfl,rfl⟩
class LE (C:DC) (t:TE) (d:outParam cW):Prop where
 go:∀{σ:St} {H:Hp} {ρ:bS} {W:Wd} {Qd:DK} {Q:VK},DR C σ H ρ W->d ρ W Qd->KE C σ ρ W H Qd Q->t σ H Q
class LT (C:DC) (t:TT) (d:outParam nR):Prop where
 go:∀{σ:St} {H:Hp} {ρ:bS} {W:Wd} {Qd:Bool->Wd->Prop} {Q:Bool->Hp->Prop},DR C σ H ρ W->d ρ W Qd->Ts C σ ρ W H Qd Q->t σ H Q
class LA (C:DC) (t:TA) (d:outParam lN):Prop where
 go:∀{σ:St} {H:Hp} {ρ:bS} {W:Wd} {Qd:List DV->Wd->Prop} {Q:List V->Hp->Prop},DR C σ H ρ W->d ρ W Qd->KA C σ ρ W H Qd Q->t σ H Q
class LO (C:DC) (t:TO) (d:outParam My):Prop where
 go:∀{σ:St} {H:Hp} {ρ:bS} {W:Wd} {Qd:v0->Wd->Prop} {Q:v0->Hp->Prop},DR C σ H ρ W->d ρ W Qd->KO C σ ρ W H Qd Q->t σ H Q
class B5 (C:DC) (r:R2) (d:outParam rR):Prop where
 go:∀{σ:St} {H:Hp} {ρ:bS} {W:Wd} {Qd:DK} {Q:VK} {a b:DV} {x y:V},DR C σ H ρ W->dX C (Fz C W H) a x->dX C (Fz C W H) b y->d a b W Qd->KE C σ ρ W H Qd Q->r x y H Q
class Vb (C:DC) (r:V->Hp->VK->Prop) (d:outParam (DV->Wd->DK->Prop)):Prop where
 go:∀{σ:St} {H:Hp} {ρ:bS} {W:Wd} {Qd:DK} {Q:VK} {a:DV} {x:V},DR C σ H ρ W->dX C (Fz C W H) a x->d a W Qd->KE C σ ρ W H Qd Q->r x H Q
class Dv (C:DC) (r:List V->Hp->VK->Prop) (d:outParam (List DV->Wd->DK->Prop)):Prop where
 go:∀{σ:St} {H:Hp} {ρ:bS} {W:Wd} {Qd:DK} {Q:VK} {as:List DV} {xs:List V},DR C σ H ρ W->aD C (Fz C W H) as xs->d as W Qd->KE C σ ρ W H Qd Q->r xs H Q
class QC (C:DC) (r:V->List V->Hp->VK->Prop) (d:outParam (DV->List DV->Wd->DK->Prop)):Prop where
 go:∀{σ:St} {H:Hp} {ρ:bS} {W:Wd} {Qd:DK} {Q:VK} {a:DV} {x:V} {as:List DV} {xs:List V},DR C σ H ρ W->dX C (Fz C W H) a x->aD C (Fz C W H) as xs->d a as W Qd->KE C σ ρ W H Qd Q->r x xs H Q
section
variable {C:DC}{ta tb tc te:TE}{da db dc:cW}{r r':R2}{dr Vc:rR}{c c':TT}{dt QD:nR}{ts:TA}{ds:lN}{σ:St}{H':Hp}{ρ:bS}{W W':Wd}{Qd:DK}{Q:VK}{x:V}{dv:DV}
theorem KE.mono(k:KE C σ ρ W H Qd Q)(s:aM (Fz C W H) (Fz C W' H')):KE C σ ρ W' H' Qd Q:=fun x dv H2 W2 D s2 v q=>k x dv H2 W2 D (s.trans s2) v q
theorem KE.now(k:KE C σ ρ W H Qd Q)(D:DR C σ H ρ W)(v:dX C (Fz C W H) dv x)(q:Qd dv W):Q x H:=k x dv H W D (aM.refl _) v q
theorem KE.to(k:KE C σ ρ W H Qd Q)(D:DR C σ H' ρ W'/\aM (Fz C W H) (Fz C W' H'))(v:dX C (Fz C W' H') dv x)(q:Qd dv W'):Q x H':=k x dv H' W' D.1 D.2 v q
def QE(i:Nat):cW:=fun ρ W Q=>∃ v,ρ[i]?=some (some v)/\Q v W
instance {i:Nat}:LE C (La i) (QE i):=⟨fun D zz k=>by obtain⟨v,e,q⟩:=zz; obtain⟨u,h1,h2⟩:=D.sl.get e;exact⟨u,h1,k.now D h2 q⟩⟩
def dC(v:DV):cW:=fun _ W Q=>Q v W
instance {n:Int}:LE C (tC (.int n)) (dC (.im (.int n))):=⟨fun D h k=>k.now (dv:=.im (.int n)) D rfl h⟩
instance {b:Bool}:LE C (tC (.bl b)) (dC (.im (.bool b))):=⟨fun D h k=>k.now (dv:=.im (.bool b)) D rfl h⟩
instance {s:Str}:LE C (tC (.str s)) (dC (.im (.str s))):=⟨fun D h k=>k.now (dv:=.im (.str s)) D rfl h⟩
instance:LE C (tC .cS) (dC (.im .none)):=⟨fun D h k=>k.now (dv:=.im .none) D rfl h⟩
instance {n:String}:LE C (tC (.ty n)) (dC (.ty n)):=⟨fun D h k=>k.now (dv:=.ty n) D rfl h⟩
def X3(dr:rR)(da db:cW):cW:=fun ρ W Q=>da ρ W fun v W1=>db ρ W1 fun u W2=>dr v u W2 Q
instance [ir:B5 C r dr][ia:LE C ta da][ib:LE C tb db]:LE C (B1 r ta tb) (X3 dr da db):=⟨fun D h k=>ia.go D h fun x dv H1 W1 D1 s1 v1 h1=>ib.go D1 h1 fun y du H2 W2 D2 s2 v2 h2=>ir.go D2 (v1.mono s2) v2 h2 (k.mono (s1.trans s2))⟩
def X4(f:DV->Wd->DK->Prop)(da:cW):cW:=fun ρ W Q=>da ρ W fun v W1=>f v W1 Q
instance {u:V->Hp->VK->Prop}{f:DV->Wd->DK->Prop}[iu:Vb C u f][ia:LE C ta da]:LE C (S5 u ta) (X4 f da):=⟨fun D h k=>ia.go D h fun x dv H1 W1 D1 s1 v1 h1=>iu.go D1 v1 h1 (k.mono s1)⟩
def Vd(da:cW):nR:=fun ρ W Q=>da ρ W fun v W1=>∃ b,v=.im (.bool b)/\Q b W1
instance [ia:LE C ta da]:LT C (tB ta) (Vd da):=⟨fun D h k=>ia.go D h fun x dv H1 W1 D1 s1 v1 zz=>by obtain⟨b,e,q⟩:=zz; subst e;exact⟨b,v1,k b H1 W1 D1 s1 q⟩⟩
instance [ia:LE C ta da]:LT C (yG ta) (Vd da):=⟨fun D h k=>ia.go D h fun x dv H1 W1 D1 s1 v1 zz=>by obtain⟨b,e,q⟩:=zz; subst e;exact⟨b,v1,k b H1 W1 D1 s1 q⟩⟩
def QF(a b:nR):nR:=fun ρ W Q=>a ρ W fun c W1=>if c=true then b ρ W1 Q else Q false W1
def X5(a b:nR):nR:=fun ρ W Q=>a ρ W fun c W1=>if c=true then Q true W1 else b ρ W1 Q
def QG(a:nR):nR:=fun ρ W Q=>a ρ W fun c W1=>Q (!c) W1
theorem Ts.mono{Qd:Bool->Wd->Prop}{Q:Bool->Hp->Prop}(k:Ts C σ ρ W H Qd Q)(s:aM (Fz C W H) (Fz C W' H')):Ts C σ ρ W' H' Qd Q:=fun b H2 W2 D s2 q=>k b H2 W2 D (s.trans s2) q
instance [it:LT C c dt][Dw:LT C c' QD]:LT C (Le c c') (QF dt QD):=⟨fun D h k=>it.go D h fun b H1 W1 D1 s1 h1=>by
 cases b with
 | true=>exact Dw.go D1 h1 (k.mono s1)
 | false=>exact k false H1 W1 D1 s1 h1⟩
instance [it:LT C c dt][Dw:LT C c' QD]:LT C (Um c c') (X5 dt QD):=⟨fun D h k=>it.go D h fun b H1 W1 D1 s1 h1=>by
 cases b with
 | true=>exact k true H1 W1 D1 s1 h1
 | false=>exact Dw.go D1 h1 (k.mono s1)⟩
instance [it:LT C c dt]:LT C (Lg c) (QG dt):=⟨fun D h k=>it.go D h fun b H1 W1 D1 s1 h1=>k (!b) H1 W1 D1 s1 h1⟩
def J8(a b:cW):cW:=fun ρ W Q=>a ρ W fun v W1=>∃ c,v=.im (.bool c)/\if c=true then b ρ W1 Q else Q (.im (.bool false)) W1
def QH(a b:cW):cW:=fun ρ W Q=>a ρ W fun v W1=>∃ c,v=.im (.bool c)/\if c=true then Q (.im (.bool true)) W1 else b ρ W1 Q
def J9(a:cW):cW:=fun ρ W Q=>a ρ W fun v W1=>∃ c,v=.im (.bool c)/\Q (.im (.bool (!c))) W1
instance [ia:LE C ta da][ib:LE C tb db]:LE C (Co ta tb) (J8 da db):=⟨fun D h k=>ia.go D h fun x dv H1 W1 D1 s1 v1 zz=>by
 obtain⟨b,e,q⟩:=zz
 subst e;refine⟨b,v1,?_⟩;cases b with
 | true=>exact ib.go D1 q (k.mono s1)
 | false=>exact(k.mono s1).now (dv:=.im (.bool _)) D1 rfl q⟩
instance [ia:LE C ta da][ib:LE C tb db]:LE C (Lk ta tb) (QH da db):=⟨fun D h k=>ia.go D h fun x dv H1 W1 D1 s1 v1 zz=>by
 obtain⟨b,e,q⟩:=zz
 subst e;refine⟨b,v1,?_⟩;cases b with
 | true=>exact(k.mono s1).now (dv:=.im (.bool _)) D1 rfl q
 | false=>exact ib.go D1 q (k.mono s1)⟩
instance [ia:LE C ta da]:LE C (Cp ta) (J9 da):=⟨fun D h k=>ia.go D h fun x dv H1 W1 D1 s1 v1 zz=>by obtain⟨b,e,q⟩:=zz; subst e;exact⟨b,v1,(k.mono s1).now (dv:=.im (.bool _)) D1 rfl q⟩⟩
def X6(c:nR)(a b:cW):cW:=fun ρ W Q=>c ρ W fun k W1=>if k=true then a ρ W1 Q else b ρ W1 Q
instance [it:LT C c dt][ia:LE C ta da][ib:LE C tb db]:LE C (Uo c ta tb) (X6 dt da db):=⟨fun D h k=>it.go D h fun b H1 W1 D1 s1 h1=>by
 cases b with
 | true=>exact ia.go D1 h1 (k.mono s1)
 | false=>exact ib.go D1 h1 (k.mono s1)⟩
def isNone:DV->Bool
 | .im .none=>true
 | _=>false
theorem qe:∀{dv:DV} {x:V},dX C F dv x->decide (x=.cS)=isNone dv
 | .im .none,x,h=>by rw[show x=.cS from h];rfl
 | .im (.bool _),x,h=>by rw[show x=.bl _ from h];rfl
 | .im (.int _),x,h=>by rw[show x=.int _ from h];exact aaF (fun z=>nomatch z)
 | .im (.str _),x,h=>by rw[show x=.str _ from h];exact aaF (fun z=>nomatch z)
 | .im (.list _),x,⟨a,_,e,_⟩=>by rw[e];exact aaF (fun z=>nomatch z)
 | .im (.tuple _),x,⟨a,_,e,_⟩=>by rw[e];exact aaF (fun z=>nomatch z)
 | .im (.dict _),x,h=>h.elim
 | .pt _,x,h=>by rw[show x=.ref _ from h];exact aaF (fun z=>nomatch z)
 | .cst _,x,⟨a,e,_⟩=>by rw[e];exact aaF (fun z=>nomatch z)
 | .rf _,x,h=>by rw[show x=.ref _ from h];exact aaF (fun z=>nomatch z)
 | .ty _,x,h=>by rw[show x=.ty _ from h];exact aaF (fun z=>nomatch z)
 | .xh _,x,⟨a,e,_⟩=>by rw[e];exact aaF (fun z=>nomatch z)
 | .raw _,x,⟨a,e,_⟩=>by rw[e];exact aaF (fun z=>nomatch z)
 | .jh _,x,⟨a,e,_⟩=>by rw[e];exact aaF (fun z=>nomatch z)
 | .tp _,x,⟨a,_,e,_⟩=>by rw[e];exact aaF (fun z=>nomatch z)
def QI(a:cW):cW:=fun ρ W Q=>a ρ W fun v W1=>Q (.im (.bool (isNone v))) W1
def Ka(a:cW):cW:=fun ρ W Q=>a ρ W fun v W1=>Q (.im (.bool (!isNone v))) W1
instance [ia:LE C ta da]:LE C (GO ta) (QI da):=⟨fun D h k=>ia.go D h fun x dv H1 W1 D1 s1 v1 q=>by rw[qe v1];exact(k.mono s1).now (dv:=.im (.bool _)) D1 rfl q⟩
instance [ia:LE C ta da]:LE C (Ck ta) (Ka da):=⟨fun D h k=>ia.go D h fun x dv H1 W1 D1 s1 v1 q=>by rw[qe v1];exact(k.mono s1).now (dv:=.im (.bool _)) D1 rfl q⟩
def Dx(r r':rR)(a b c:cW):cW:=fun ρ W Q=>a ρ W fun x W1=>b ρ W1 fun y W2=>r x y W2 fun z W3=>∃ k,z=.im (.bool k)/\if k=true then c ρ W3 fun w W4=>r' y w W4 Q else Q (.im (.bool false)) W3
instance [ir:B5 C r dr][ir':B5 C r' Vc][ia:LE C ta da][ib:LE C tb db][ic:LE C tc dc]:LE C (wB r r' ta tb tc) (Dx dr Vc da db dc):=⟨fun D h k=>ia.go D h fun x dv H1 W1 D1 s1 v1 h1=>ib.go D1 h1 fun y du H2 W2 D2 s2 v2 h2=>ir.go D2 (v1.mono s2) v2 h2 fun z dz H3 W3 D3 s3 v3 zz=>by
 obtain⟨b,e,q⟩:=zz
 subst e;refine⟨b,v3,?_⟩;cases b with
 | true=>exact ic.go D3 q fun w dw H4 W4 D4 s4 v4 h4=>ir'.go D4 ((v2.mono s3).mono s4) v4 h4 (k.mono (((s1.trans s2).trans s3).trans s4))
 | false=>exact(k.mono ((s1.trans s2).trans s3)).now (dv:=.im (.bool _)) D3 rfl q⟩
def QJ:lN:=fun _ W Q=>Q [] W
def Kb(a:cW)(b:lN):lN:=fun ρ W Q=>a ρ W fun v W1=>b ρ W1 fun vs W2=>Q (v::vs) W2
instance:LA C ue QJ:=⟨fun D h k=>k [] [] _ _ D (aM.refl _) rfl h⟩
instance [ia:LE C ta da][is:LA C ts ds]:LA C (nc ta ts) (Kb da ds):=⟨fun D h k=>ia.go D h fun x dv H1 W1 D1 s1 v1 h1=>is.go D1 h1 fun xs aK H2 W2 D2 s2 v2 h2=>k (x::xs) (dv::aK) H2 W2 D2 (s1.trans s2) ⟨x,xs,rfl,v1.mono s2,v2⟩ h2⟩
def QK:V->DV
 | .cS=>.im .none
 | .bl b=>.im (.bool b)
 | .int i=>.im (.int i)
 | .str s=>.im (.str s)
 | .ref a=>.rf a
 | .ty n=>.ty n
 | _=>.im (.dict [])
theorem Mz:∀{x:V},dq x=true->dX C F (QK x) x
 | .cS,_=>rfl
 | .bl _,_=>rfl
 | .int _,_=>rfl
 | .str _,_=>rfl
 | .ref _,h=>by cases h
 | .ty _,h=>by cases h
 | .yw _,h=>by cases h
 | .GJ _,h=>by cases h
theorem mF{F:Hp}:∀{xs:List V},xs.all dq=true->aD C F (xs.map QK) xs
 | [],_=>rfl
 | x::r,h=>by
  rw[aba,aaK]at h;exact⟨x,r,rfl,Mz h.1,mF h.2⟩
def X7(vs:List V):lN:=fun _ W Q=>vs.all dq=true/\Q (vs.map QK) W
instance {vs:List V}:LA C (tK vs) (X7 vs):=⟨fun D h k=>k vs _ _ _ D (aM.refl _) (mF h.1) h.2⟩
def MA:DV->Option V
 | .rf a=>some (.ref a)
 | .ty n=>some (.ty n)
 | _=>none
def Dz:List DV->Option (List V)
 | []=>some []
 | x::r=>(MA x).bind fun v=>(Dz r).map (v::·)
theorem HF{v:V}:∀{dv:DV} {x:V},dX C F dv x->MA dv=some v->x=v
 | .rf a,x,h,e=>by cases e;exact h
 | .ty a,x,h,e=>by cases e;exact h
 | .im _,_,_,e=>by cases e
 | .pt _,_,_,e=>by cases e
 | .cst _,_,_,e=>by cases e
 | .xh _,_,_,e=>by cases e
 | .raw _,_,_,e=>by cases e
 | .jh _,_,_,e=>by cases e
 | .tp _,_,_,e=>by cases e
theorem yY{F:Hp}:∀{aK:List DV} {xs vs:List V},aD C F aK xs->Dz aK=some vs->xs=vs
 | [],_,_,h,e=>by cases h;cases e;rfl
 | d::r,_,_,⟨y,ys,e1,h,hr⟩,e=>by
  unfold Dz at e;cases q:MA d with
  | none=>rw[q]at e;cases e
  | some v =>
   rw[q]at e;cases q2:Dz r with
   | none=>simp[q2]at e
   | some vs =>
    simp[q2]at e;subst e;rw[e1,HF h q,yY hr q2]
def yZ(vs:List DV)(W1:Wd)(Q:DK):Prop:=vs.length<=sizeLine/\((∃ ds W2,iC (ku 3) W1 vs=some (ds,W2)/\Q (.im (.tuple ds)) W2)\/(∃ us,Dz vs=some us/\Q (.raw us) W1)\/∃ ts,vs=ts.map Mx/\Q (.tp ts) W1)
def QL(a:lN):cW:=fun ρ W Q=>a ρ W fun vs W1=>yZ vs W1 Q
instance [is:LA C ts ds]:LE C (LR ts) (QL ds):=⟨fun D h k=>is.go D h fun xs aK H1 W1 D1 s1 v1 ⟨hl,h1⟩=>⟨by rw[<- v1.length];exact hl,fun p hp=>by
 rcases h1 with⟨ds,W2,e,q⟩ | ⟨us,e,q⟩ | ⟨vZ,e,q⟩
 ·obtain⟨D2,s2,r2,k2⟩:=gu (ju 3) D1 v1 e;obtain⟨D3,s3,e3⟩:=D2.GA hp (.tup xs);exact k _ (.im (.tuple ds)) _ _ D3 ((s1.trans s2).trans s3) ⟨p,xs,rfl,e3,ak.same s3 r2⟩ q
 ·obtain⟨D3,s3,e3⟩:=D1.GA hp (.tup xs);exact k _ (.raw us) _ _ D3 (s1.trans s3) ⟨p,rfl,by rw[e3,yY v1 e]⟩ q
 ·subst e;obtain⟨D3,s3,e3⟩:=D1.GA hp (.tup xs);exact k _ (.tp vZ) _ _ D3 (s1.trans s3) ⟨p,xs,rfl,e3,(xi v1).same s3⟩ q⟩⟩
def iK(vs:List DV)(W:Wd)(Q:DK):Prop:=(∀ p,W p=none->Q (.pt p) (aH W p (.lst vs)))\/∃ ds,vs=ds.map .im/\Q (.im (.list ds)) W
theorem gv{vs:List DV}{xs:List V}{p:Addr}(D:DR C σ H ρ W)(r:aD C (Fz C W H) vs xs)(hp:H p=none)(h:iK vs W Qd)(k:KE C σ ρ W H Qd Q):Q (.ref p) (upd H p (.lst xs)):=by
 rcases h with h | ⟨ds,rfl,h⟩
 ·exact k.to (dv:=.pt p) (D.U9 hp r) rfl (h p (D.fresh hp))
 ·obtain⟨D3,s3,e3⟩:=D.GA hp (.lst xs);exact k _ (.im (.list ds)) _ _ D3 s3 ⟨p,xs,rfl,e3,ak.same s3 r.nQ⟩ h
def y6(vs:List DV)(W:Wd)(Q:DK):Prop:=vs.length<=sizeLine/\iK vs W Q
def QM(a:lN):cW:=fun ρ W Q=>a ρ W fun vs W1=>y6 vs W1 Q
instance [is:LA C ts ds]:LE C (G2 ts) (QM ds):=⟨fun D h k=>is.go D h fun xs aK H1 W1 D1 s1 v1 ⟨hl,h1⟩=>⟨by rw[<- v1.length];exact hl,fun p hp=>by
 exact gv D1 v1 hp h1 (k.mono s1)⟩⟩
class y8 (f:Int->Int->V) (g:outParam (Int->Int->PyData)):Prop where
 at_:∀ i j F,Rep F (g i j) (f i j)
instance:y8 (fun i j=>.int (i+j)) (fun i j=>.int (i+j)):=⟨fun _ _ _=>rfl⟩
instance:y8 (fun i j=>.int (i - j)) (fun i j=>.int (i - j)):=⟨fun _ _ _=>rfl⟩
instance:y8 (fun i j=>.int (i * j)) (fun i j=>.int (i * j)):=⟨fun _ _ _=>rfl⟩
instance:y8 (fun i j=>.int (i / j)) (fun i j=>.int (i / j)):=⟨fun _ _ _=>rfl⟩
instance:y8 (fun i j=>.int (i % j)) (fun i j=>.int (i % j)):=⟨fun _ _ _=>rfl⟩
instance:y8 (fun i j=>.int (i ^ j.toNat)) (fun i j=>.int (i ^ j.toNat)):=⟨fun _ _ _=>rfl⟩
instance:y8 (fun i j=>.bl (decide (i < j))) (fun i j=>.bool (decide (i < j))):=⟨fun _ _ _=>rfl⟩
instance:y8 (fun i j=>.bl (decide (i<=j))) (fun i j=>.bool (decide (i<=j))):=⟨fun _ _ _=>rfl⟩
instance:y8 (fun i j=>.bl (decide (j < i))) (fun i j=>.bool (decide (j < i))):=⟨fun _ _ _=>rfl⟩
instance:y8 (fun i j=>.bl (decide (j<=i))) (fun i j=>.bool (decide (j<=i))):=⟨fun _ _ _=>rfl⟩
def X8(g:Int->Int->PyData):rR:=fun a b W Q=>∃ i j,a=.im (.int i)/\b=.im (.int j)/\Q (.im (g i j)) W
def dI(P:Int->Int->Prop)(g:Int->Int->PyData):rR:=fun a b W Q=>∃ i j,a=.im (.int i)/\b=.im (.int j)/\P i j/\Q (.im (g i j)) W
instance {f:Int->Int->V}{g:Int->Int->PyData}[y8 f g]:B5 C (Gw f) (X8 g):=⟨fun D h1 h2 zz k=>by obtain⟨i,j,e1,e2,q⟩:=zz; subst e1 e2;exact⟨i,j,h1,h2,k.now (dv:=.im (g i j)) D (y8.at_ (f:=f) i j _) q⟩⟩
instance {P:Int->Int->Prop}{f:Int->Int->V}{g:Int->Int->PyData}[y8 f g]:B5 C (rI P f) (dI P g):=⟨fun D h1 h2 zz k=>by obtain⟨i,j,e1,e2,p,q⟩:=zz; subst e1 e2;exact⟨i,j,h1,h2,p,k.now (dv:=.im (g i j)) D (y8.at_ (f:=f) i j _) q⟩⟩
def dU(g:Int->PyData):DV->Wd->DK->Prop:=fun a W Q=>∃ i,a=.im (.int i)/\Q (.im (g i)) W
instance:Vb C (rU fun i=>.int (-i)) (dU fun i=>.int (-i)):=⟨fun D h1 zz k=>by obtain⟨i,e1,q⟩:=zz; subst e1;exact⟨i,h1,k.now (dv:=.im (.int (-i))) D rfl q⟩⟩
end
mutual
theorem Rep.inj{H:Hp}:∀{d d':PyData} {v:V},Rep H d v->Rep H d' v->d=d'
 | .none,d',v,h,h'=>by
  rw[show v=.cS from h]at h';cases d' with
  | none=>rfl
  | bool _=>cases (show V.cS=.bl _ from h')
  | int _=>cases (show V.cS=.int _ from h')
  | str _=>cases (show V.cS=.str _ from h')
  | list _=>obtain⟨a,xs,e,_⟩:=h';cases e
  | tuple _=>obtain⟨a,xs,e,_⟩:=h';cases e
  | dict _=>exact h'.elim
 | .bool b,d',v,h,h'=>by
  rw[show v=.bl b from h]at h';cases d' with
  | none=>cases (show V.bl b=.cS from h')
  | bool _=>cases (show V.bl b=.bl _ from h');rfl
  | int _=>cases (show V.bl b=.int _ from h')
  | str _=>cases (show V.bl b=.str _ from h')
  | list _=>obtain⟨a,xs,e,_⟩:=h';cases e
  | tuple _=>obtain⟨a,xs,e,_⟩:=h';cases e
  | dict _=>exact h'.elim
 | .int b,d',v,h,h'=>by
  rw[show v=.int b from h]at h';cases d' with
  | none=>cases (show V.int b=.cS from h')
  | bool _=>cases (show V.int b=.bl _ from h')
  | int _=>cases (show V.int b=.int _ from h');rfl
  | str _=>cases (show V.int b=.str _ from h')
  | list _=>obtain⟨a,xs,e,_⟩:=h';cases e
  | tuple _=>obtain⟨a,xs,e,_⟩:=h';cases e
  | dict _=>exact h'.elim
 | .str b,d',v,h,h'=>by
  rw[show v=.str b from h]at h';cases d' with
  | none=>cases (show V.str b=.cS from h')
  | bool _=>cases (show V.str b=.bl _ from h')
  | int _=>cases (show V.str b=.int _ from h')
  | str _=>cases (show V.str b=.str _ from h');rfl
  | list _=>obtain⟨a,xs,e,_⟩:=h';cases e
  | tuple _=>obtain⟨a,xs,e,_⟩:=h';cases e
  | dict _=>exact h'.elim
 | .list ds,d',v,⟨a,xs,e,ha,r⟩,h'=>by
  subst e;cases d' with
  | none=>cases (show V.ref a=.cS from h')
  | bool _=>cases (show V.ref a=.bl _ from h')
  | int _=>cases (show V.ref a=.int _ from h')
  | str _=>cases (show V.ref a=.str _ from h')
  | list _=>obtain⟨a',Gy,e,pI,r'⟩:=h';cases e;rw[ha]at pI;cases pI;rw[ak.inj r r']
  | tuple _=>obtain⟨a',Gy,e,pI,r'⟩:=h';cases e;rw[ha]at pI;cases pI
  | dict _=>exact h'.elim
 | .tuple ds,d',v,⟨a,xs,e,ha,r⟩,h'=>by
  subst e;cases d' with
  | none=>cases (show V.ref a=.cS from h')
  | bool _=>cases (show V.ref a=.bl _ from h')
  | int _=>cases (show V.ref a=.int _ from h')
  | str _=>cases (show V.ref a=.str _ from h')
  | list _=>obtain⟨a',Gy,e,pI,r'⟩:=h';cases e;rw[ha]at pI;cases pI
  | tuple _=>obtain⟨a',Gy,e,pI,r'⟩:=h';cases e;rw[ha]at pI;cases pI;rw[ak.inj r r']
  | dict _=>exact h'.elim
 | .dict _,_,_,h,_=>h.elim
theorem ak.inj{H:Hp}:∀{ds B4:wE} {xs:List V},ak H ds xs->ak H B4 xs->ds=B4
 | [],B4,xs,h,h'=>by
  cases h;cases B4 with
  | nil=>rfl
  | cons _ _=>obtain⟨_,_,e,_⟩:=h';cases e
 | d::ds,B4,xs,⟨y,ys,e,h,r⟩,h'=>by
  subst e;cases B4 with
  | nil=>cases (show y::ys=[] from h')
  | cons d' r'=>obtain⟨_,_,e,h2,r2⟩:=h';cases e;rw[Rep.inj h h2,ak.inj r r2]
end
open Classical in
noncomputable def y9 (H:Hp) (v:V):Option PyData:=if h:∃ d,Rep H d v then some (Classical.choose h)else none
theorem DA{v:V}(h:Rep H d v):y9 H v=some d:=by
 unfold y9;rw[dif_pos ⟨d,h⟩];exact abJ some (Rep.inj (Classical.choose_spec (⟨d,h⟩:∃ d,Rep H d v)) h)
noncomputable def ji (H:Hp) (dx:PyData) (u:Value):Bool:=match Pl u with
 | some v=>match y9 H v with
  | some d=>PyData.eqv d dx
  | none=>false
 | none=>false
theorem za{u:Value}{v:V}(r:RelV v u)(h:Rep H d v):ji H dx u=PyData.eqv d dx:=by
 unfold ji;rw[r.abs];show(match y9 H v with | some d=>PyData.eqv d dx | none=>false)=_;rw[DA h]
theorem iL{H:Hp}{dx:PyData}:∀{ds:wE} {xs:List V} {us:wf},ak H ds xs->Vals xs us->us.any (ji H dx)=ds.any fun d=>PyData.eqv d dx
 | [],_,_,h,r=>by cases h;cases r;rfl
 | d::ds,_,_,⟨y,ys,e,h,hr⟩,r=>by
  subst e;cases r with
  | cons r1 r2=>rw[acj,acj,za r1 h,iL hr r2]
section
variable {X:Cx}{C:DC}
theorem iM{pins:yp}{s:Shared}{σ:St}{H:Hp}{x:V}{v:Value}{dx:PyData}(I:Inv X pins σ H s)(hu:X.A.units+64 < cLine)(rx:RelV x v)(hx:Rep H dx x)(cx:dx.canLay0=true)(hd:dx.depth<=62) :
  ∀{ds:wE} {xs:List V} {us:wf},ak H ds xs->Vals xs us->PyData.canLayAll0 ds=true->∀ u∈us,SeqAt.EqAt X.A.in1 s u v (ji H dx u)
 | [],_,_,h,r,_=>fun u hu=>by cases h;cases r;cases hu
 | d::ds,_,_,⟨y,ys,e,h,hr⟩,r,cl=>fun u OW=>by
  subst e;have X9:d.canLay0=true/\PyData.canLayAll0 ds=true:=by simpa [PyData.canLayAll0] using cl
  cases r with
  | cons r1 r2 =>
   rcases aat.mp OW with e | OW
   ·subst e;rw[za r1 h];obtain⟨as,q1⟩:=h.reads I.ck r1;obtain⟨bs,q2⟩:=hx.reads I.ck rx;exact SeqAt.eqAt_reads d dx X.A.in1 s u v as bs q1 q2 X9.1 cx (by
     have:X.A.in1.units<=X.A.units+1:=by first | exact aar _ | (simp[Around.in1]) | omega
     omega)
   ·exact iM I hu rx hx cx hd hr r2 X9.2 u OW
def MB(K:zn)(neg:Bool):R2:=fun x y H Q=>∃ p xs dx ds,y=.ref p/\(eE K H p xs\/fg K H p xs)/\Rep H dx x/\ak H ds xs/\dx.canLay0=true/\PyData.canLayAll0 ds=true/\dx.depth<=62/\Q (.bl (if neg then !ds.any (fun d=>PyData.eqv d dx)else ds.any fun d=>PyData.eqv d dx)) H
theorem MC(hu:X.A.units+64 < cLine):gE X (compareOp .In) (MB X.K false):=by
 intro pins s σ H x y v u Q I rx ry h;obtain⟨p,xs,dx,ds,rfl,hq,hx,hs,cx,cs,hd,q⟩:=h;cases ry;rcases hq with hq | hq
 ·obtain⟨aQ,r,pl,hz⟩:=I.list hq;refine SeqAt.in_listAt (ji H dx) pl.isList (fun w hw=>iM I hu rx hx cx hd hs r cs w (by simpa using hw)) ⟨.bl _,H,I,rfl,?_⟩;rw[show aQ.toArray.any (ji H dx)=aQ.any (ji H dx) by simp,iL hs r];exact q
 ·obtain⟨aQ,r,pl,hz⟩:=I.tuple hq;refine SeqAt.in_tupleAt (ji H dx) pl (fun w hw=>iM I hu rx hx cx hd hs r cs w (by simpa using hw)) ⟨.bl _,H,I,rfl,?_⟩;rw[show aQ.toArray.any (ji H dx)=aQ.any (ji H dx) by simp,iL hs r];exact q
theorem A1(hu:X.A.units+64 < cLine):gE X (compareOp .NotIn) (MB X.K true):=by
 intro pins s σ H x y v u Q I rx ry h;obtain⟨p,xs,dx,ds,rfl,hq,hx,hs,cx,cs,hd,q⟩:=h;cases ry;rcases hq with hq | hq
 ·obtain⟨aQ,r,pl,hz⟩:=I.list hq;refine SeqAt.notIn_listAt (ji H dx) pl.isList (fun w hw=>iM I hu rx hx cx hd hs r cs w (by simpa using hw)) ⟨.bl _,H,I,rfl,?_⟩;rw[show aQ.toArray.any (ji H dx)=aQ.any (ji H dx) by simp,iL hs r];exact q
 ·obtain⟨aQ,r,pl,hz⟩:=I.tuple hq;refine SeqAt.notIn_tupleAt (ji H dx) pl (fun w hw=>iM I hu rx hx cx hd hs r cs w (by simpa using hw)) ⟨.bl _,H,I,rfl,?_⟩;rw[show aQ.toArray.any (ji H dx)=aQ.any (ji H dx) by simp,iL hs r];exact q
def QN:R2:=fun x y H Q=>Xy x y H Q\/P4 x y H Q
def MD:R2:=fun x y H Q=>Xz x y H Q\/P5 x y H Q
theorem aI(hu:X.A.units+64 < cLine):gE X (compareOp .Eq) QN:=fun pins s σ H x y v u Q I rx ry h=>h.elim (Pw pins s σ H x y v u Q I rx ry) (Mc hu pins s σ H x y v u Q I rx ry)
theorem fc(hu:X.A.units+64 < cLine):gE X (compareOp .NotEq) MD:=fun pins s σ H x y v u Q I rx ry h=>h.elim (Px pins s σ H x y v u Q I rx ry) (Md hu pins s σ H x y v u Q I rx ry)
def ME(K:zn)(neg:Bool):R2:=fun x y H Q=>Uy K neg x y H Q\/MB K neg x y H Q
theorem nS(hu:X.A.units+64 < cLine):gE X (compareOp .In) (ME X.K false):=fun pins s σ H x y v u Q I rx ry h=>h.elim (AF pins s σ H x y v u Q I rx ry) (MC hu pins s σ H x y v u Q I rx ry)
theorem qf(hu:X.A.units+64 < cLine):gE X (compareOp .NotIn) (ME X.K true):=fun pins s σ H x y v u Q I rx ry h=>h.elim (rA pins s σ H x y v u Q I rx ry) (A1 hu pins s σ H x y v u Q I rx ry)
end
end L2
namespace L2
open PySem PySem.Spec PyProof.Rows
variable {C:DC}{σ:St}{H H' F:Hp}{ρ:bS}{W W':Wd}{Qd Q:DK}{x qual:Str}{vs us as:List DV}{xs:List V}{ds:wE}{v dv:DV}{da:cW}{T:String}{hi:v0}{a p f t g:Addr}{n k:Nat}{X:Cx}{E:XK}{N ps:wv}{P:sB}{w:World}{mg:xL}{base:Heap}{st:Stmt}{fd:wT}{c:Cell}{pos:Pos}{es:ut}{ns:wn}{nx ct Qs:bS->Wd->Prop}{m:Int}{d:PyData}{items:Array Value}{rt:DV->Wd->Prop}
def zb:PyData->Bool
 | .none=>true
 | .bool _=>true
 | .int _=>true
 | .str _=>true
 | _=>false
noncomputable def HG:V->PyData
 | .cS=>.none
 | .bl b=>.bool b
 | .int i=>.int i
 | .str s=>.str s
 | _=>.dict []
def c9(W:Wd):DV->Option (List DV)
 | .im (.list ds)=>some (ds.map .im)
 | .pt p=>match W p with
  | some (.lst xs)=>some xs
  | _=>none
 | _=>none
def jO:DV->Option (List DV)
 | .im (.tuple ds)=>some (ds.map .im)
 | .cst xs=>if xs.all dq=true then some (xs.map QK)else none
 | .tp ts=>some (ts.map Mx)
 | _=>none
def pJ:DV->Option (List DV)
 | .jh ns=>some (ns.map fun n=>.im (.int n))
 | _=>none
def gM(W:Wd)(dv:DV):Option (List DV):=match c9 W dv with
 | some vs=>some vs
 | none=>match pJ dv with
  | some vs=>some vs
  | none=>jO dv
section
variable {Q:VK}{x y:V}{a b:DV}
theorem DR.c9(D:DR C σ H ρ W)(h:dX C (Fz C W H) a x)(e:L2.c9 W a=some vs):∃ p xs,x=.ref p/\H p=some (.lst xs)/\aD C (Fz C W H) vs xs:=by
 cases a with
 | im d =>
  cases d with
  | list ds=>cases e;obtain⟨p,xs,e1,h1,r⟩:=h;exact⟨p,xs,e1,Fz.le h1,.fi r⟩
  | _=>cases e
 | pt p =>
  unfold L2.c9 at e;cases q:W p with
  | none=>simp[q]at e
  | some c =>
   cases c with
   | lst ys=>simp[q]at e;subst e;obtain⟨_,_,xs,h1,r⟩:=D.ce p _ q;exact⟨p,xs,h,h1,r⟩
   | _=>simp[q]at e
 | _=>cases e
theorem DR.jO(D:DR C σ H ρ W)(h:dX C (Fz C W H) a x)(e:L2.jO a=some vs):∃ p xs,x=.ref p/\fg C.K H p xs/\aD C (Fz C W H) vs xs:=by
 cases a with
 | im d =>
  cases d with
  | tuple ds=>cases e;obtain⟨p,xs,e1,h1,r⟩:=h;exact⟨p,xs,e1,fg.of (Fz.le h1),.fi r⟩
  | _=>cases e
 | cst ys =>
  obtain⟨p,e1,h1⟩:=h;unfold L2.jO at e
  by_cases q:ys.all dq=true
  ·simp only[q,acW]at e;cases e;exact⟨p,ys,e1,h1 H,mF q⟩
  ·simp only[q]at e;cases e
 | tp ts=>cases e;obtain⟨p,A2,e1,h1,r⟩:=h;exact⟨p,A2,e1,fg.of (Fz.le h1),nP r⟩
 | _=>cases e
theorem iN{F:Hp}:∀ ns:List Int,aD C F (ns.map fun n=>.im (.int n)) (ns.map V.int)
 | []=>rfl
 | n::r=>⟨.int n,r.map V.int,rfl,rfl,iN r⟩
theorem DR.pJ(D:DR C σ H ρ W)(h:dX C (Fz C W H) a x)(e:L2.pJ a=some vs):∃ p xs,x=.ref p/\eE C.K H p xs/\eE C.K (Fz C W H) p xs/\aD C (Fz C W H) vs xs:=by
 cases a with
 | jh ns=>cases e;obtain⟨p,e1,h1⟩:=h;exact⟨p,_,e1,(Fz.sm (C:=C) (W:=W)).seq h1,h1,iN ns⟩
 | _=>cases e
theorem DR.gM(D:DR C σ H ρ W)(h:dX C (Fz C W H) a x)(e:L2.gM W a=some vs):∃ p xs,x=.ref p/\(eE C.K H p xs\/fg C.K H p xs)/\aD C (Fz C W H) vs xs:=by
 unfold L2.gM at e;cases q:L2.c9 W a with
 | some us=>rw[q]at e;cases e;obtain⟨p,xs,e1,h1,r⟩:=D.c9 h q;exact⟨p,xs,e1,.inl (eE.of h1),r⟩
 | none =>
  rw[q]at e;cases q2:L2.pJ a with
  | some us=>rw[q2]at e;cases e;obtain⟨p,xs,e1,h1,_,r⟩:=D.pJ h q2;exact⟨p,xs,e1,.inl h1,r⟩
  | none=>rw[q2]at e;obtain⟨p,xs,e1,h1,r⟩:=D.jO h e;exact⟨p,xs,e1,.inr h1,r⟩
theorem aD.gF{F:Hp}{i:Int}(r:aD C F vs xs)(e:L2.gF vs i=some a):∃ x,L2.gF xs i=some x/\dX C F a x:=by
 unfold L2.gF at e ⊢;rw[<- r.length];cases q:yL vs.length i with
 | none=>rw[q]at e;cases e
 | some j=>rw[q]at e;exact r.get e
def MF(d1 d2:PyData):Prop:=(∃ a b,d1=.str a/\d2=.str b)\/(d1.canLay0=true/\d2.canLay0=true/\min d1.depth d2.depth<=64)
def DB:rR:=fun a b W Q=>∃ d1 d2,dat 4 W a=some d1/\dat 4 W b=some d2/\MF d1 d2/\Q (.im (.bool (PyData.eqv d1 d2))) W
def DD:rR:=fun a b W Q=>∃ d1 d2,dat 4 W a=some d1/\dat 4 W b=some d2/\MF d1 d2/\Q (.im (.bool (!PyData.eqv d1 d2))) W
instance:B5 C QN DB:=⟨fun D h1 h2 zz k=>by
 obtain⟨d1,d2,e1,e2,ok,q⟩:=zz
 have r1:=D.uC h1 e1;have r2:=D.uC h2 e2;rcases ok with⟨a,b,rfl,rfl⟩ | ⟨c1,c2,hd⟩
 ·cases r1;cases r2;refine .inl ⟨rfl,k.now (dv:=.im (.bool _)) D ?_ q⟩;show V.bl _=V.bl _;congr 1;show _=(a == b);rw[show decide (V.str a=V.str b)=decide (a=b) by simp]
  by_cases e:a=b<;>simp[e]
 ·exact .inr ⟨d1,d2,r1,r2,c1,c2,hd,k.now (dv:=.im (.bool _)) D rfl q⟩⟩
instance:B5 C MD DD:=⟨fun D h1 h2 zz k=>by
 obtain⟨d1,d2,e1,e2,ok,q⟩:=zz
 have r1:=D.uC h1 e1;have r2:=D.uC h2 e2;rcases ok with⟨a,b,rfl,rfl⟩ | ⟨c1,c2,hd⟩
 ·cases r1;cases r2;refine .inl ⟨rfl,k.now (dv:=.im (.bool _)) D ?_ q⟩;show V.bl _=V.bl _;congr 1;show _=!(a == b);rw[show decide (V.str a=V.str b)=decide (a=b) by simp]
  by_cases e:a=b<;>simp[e]
 ·exact .inr ⟨d1,d2,r1,r2,c1,c2,hd,k.now (dv:=.im (.bool _)) D rfl q⟩⟩
def gA(W:Wd)(dv:DV):Option (List PyData):=(gM W dv).bind fun vs=>eR (dat 3 W) vs
theorem DR.gA{ds:wE}(D:DR C σ H ρ W)(h:dX C (Fz C W H) a x)(e:L2.gA W a=some ds):∃ p xs,x=.ref p/\(eE C.K H p xs\/fg C.K H p xs)/\ak H ds xs:=by
 unfold L2.gA at e;cases q:L2.gM W a with
 | none=>rw[q]at e;cases e
 | some vs =>
  rw[q]at e;obtain⟨p,xs,e1,h1,r⟩:=D.gM h q;exact⟨p,xs,e1,h1,fU (fun dv x d h e=>D.uC h e) r e⟩
def Ve(dx:PyData)(ds:wE):Prop:=(zb dx=true/\ds.all zb=true)\/(dx.canLay0=true/\PyData.canLayAll0 ds=true/\dx.depth<=62)
theorem uD:∀{d:PyData} {x:V},zb d=true->Rep F d x->dq x=true/\d=HG x
 | .none,_,_,h=>by cases h;exact⟨rfl,rfl⟩
 | .bool _,_,_,h=>by cases h;exact⟨rfl,rfl⟩
 | .int _,_,_,h=>by cases h;exact⟨rfl,rfl⟩
 | .str _,_,_,h=>by cases h;exact⟨rfl,rfl⟩
 | .list _,_,h,_=>by cases h
 | .tuple _,_,h,_=>by cases h
 | .dict _,_,h,_=>by cases h
theorem HH:∀{x y:V},dq x=true->dq y=true->He y x=PyData.eqv (HG y) (HG x):=by
 intro x y hx hy;cases x<;>cases y<;>first | rfl | cases hx | cases hy
theorem uE{F:Hp}:∀{ds:wE} {xs:List V},ds.all zb=true->ak F ds xs->xs.all dq=true/\∀ x,dq x=true->Td x xs=ds.any fun d=>PyData.eqv d (HG x)
 | [],_,_,h=>by cases h;exact⟨rfl,fun _ _=>rfl⟩
 | d::ds,_,hf,⟨y,ys,e,h,r⟩=>by
  subst e;rw[aba,aaK]at hf;obtain⟨f1,e1⟩:=uD hf.1 h;obtain⟨f2,e2⟩:=uE hf.2 r;refine⟨by rw[aba,f1,f2];rfl,fun x hx=>?_⟩;have:=e2 x hx;unfold Td at this ⊢;rw[acj,acj,this,HH hx f1,e1]
def DE(neg:Bool):rR:=fun a b W Q=>∃ dx ds,dat 3 W a=some dx/\gA W b=some ds/\Ve dx ds/\Q (.im (.bool (if neg then !ds.any (fun d=>PyData.eqv d dx)else ds.any fun d=>PyData.eqv d dx))) W
instance {K:zn}[hk:lO C K]{neg:Bool}:B5 C (ME K neg) (DE neg):=by
 obtain⟨rfl⟩:=hk;exact⟨fun D h1 h2 zz k=>by
 obtain⟨dx,ds,e1,e2,ok,q⟩:=zz
 have r1:=D.uC h1 e1;obtain⟨p,xs,rfl,hq,r2⟩:=D.gA h2 e2;rcases ok with⟨f1,f2⟩ | ⟨c1,c2,hd⟩
 ·obtain⟨g1,g2⟩:=uD f1 r1;obtain⟨g3,g4⟩:=uE f2 r2;refine .inl ⟨p,xs,rfl,hq,g1,g3,?_⟩;rw[g4 _ g1,<- g2];exact k.now (dv:=.im (.bool _)) D rfl q
 ·exact .inr ⟨p,xs,dx,ds,rfl,hq,r1,r2,c1,c2,hd,k.now (dv:=.im (.bool _)) D rfl q⟩⟩
noncomputable def MG(W:Wd)(a:DV)(i:Int):Option DV:=match a with
 | .im (.str z)=>if z.length<=sizeLine then(gF z.cps.toList i).map fun c=>.im (.str ⟨#[c]⟩)else none
 | a=>(gM W a).bind fun vs=>gF vs i
noncomputable def MH:rR:=fun a b W Q=>∃ i v,b=.im (.int i)/\MG W a i=some v/\Q v W
theorem DF(D:DR C σ H ρ W)(h1:dX C (Fz C W H) a x){i:Int}{Q':VK}(e:((gM W a).bind fun vs=>gF vs i)=some v)(q:∀ z,dX C (Fz C W H) v z->Q' z H):Tc C.K x (.int i) H Q':=by
 cases q1:gM W a with
 | none=>rw[q1]at e;cases e
 | some vs =>
  rw[q1]at e;obtain⟨p,xs,rfl,hq,r⟩:=D.gM h1 q1;obtain⟨z,hz,rz⟩:=r.gF e;rcases hq with hq | hq
  ·exact .inl ⟨p,xs,i,z,rfl,rfl,hq,hz,q z rz⟩
  ·exact .inr (.inl ⟨p,xs,i,z,rfl,rfl,hq,hz,q z rz⟩)
noncomputable instance {K:zn}[hk:lO C K]:B5 C (Tc K) MH:=by
 obtain⟨rfl⟩:=hk;exact⟨fun{σ H ρ W Qd Q a b x y} D h1 h2 ⟨i,v,e1,e2,q⟩ k=>by
 subst e1;cases (show y=V.int i from h2);cases a with
 | im d =>
  cases d with
  | str z =>
   cases (show x=V.str z from h1)
   by_cases hz:z.length<=sizeLine
   ·simp only[MG,hz,acW]at e2;cases q2:gF z.cps.toList i with
    | none=>simp[q2]at e2
    | some c=>simp[q2]at e2;subst e2;exact .inr (.inr ⟨z,i,c,rfl,rfl,hz,q2,k.now (dv:=.im (.str _)) D rfl q⟩)
   ·simp only[MG,hz]at e2;cases e2
  | _=>exact DF D h1 e2 fun z hz=>k.now D hz q
 | _=>exact DF D h1 e2 fun z hz=>k.now D hz q⟩
def MI:rR:=fun a b W Q=>∃ vs us,c9 W a=some vs/\c9 W b=some us/\vs.length+us.length<=sizeLine/\iK (vs++us) W Q
instance:B5 C PX MI:=⟨fun D h1 h2 zz k=>by
 obtain⟨vs,us,e1,e2,hl,q⟩:=zz
 obtain⟨p1,xs,rfl,hx,rx⟩:=D.c9 h1 e1;obtain⟨p2,ys,rfl,hy,ry⟩:=D.c9 h2 e2;exact⟨p1,p2,xs,ys,rfl,rfl,hx,hy,by rw[<- rx.length,<- ry.length];exact hl,fun p hp=>gv D (rx.append ry) hp q k⟩⟩
theorem ak.append{F:Hp}:∀{ds:wE} {xs:List V} {B4:wE} {Gy:List V},ak F ds xs->ak F B4 Gy->ak F (ds++B4) (xs++Gy)
 | [],_,_,_,h,h'=>by cases h;exact h'
 | _::_,_,_,_,⟨y,ys,e,h,r⟩,h'=>by subst e;exact⟨y,_,rfl,h,ak.append r h'⟩
def QO:rR:=fun a b W Q=>∃ ds es,a=.im (.tuple ds)/\b=.im (.tuple es)/\ds.length+es.length<=sizeLine/\Q (.im (.tuple (ds++es))) W
instance {K:zn}[hk:lO C K]:B5 C (J0 K) QO:=by
 obtain⟨rfl⟩:=hk;exact⟨fun D h1 h2 zz k=>by
 obtain⟨ds,es,e1,e2,hl,q⟩:=zz
 subst e1 e2;obtain⟨p1,xs,rfl,hx,rx⟩:=h1;obtain⟨p2,ys,rfl,hy,ry⟩:=h2;refine⟨p1,p2,xs,ys,rfl,rfl,fg.of (Fz.le hx),fg.of (Fz.le hy),by rw[<- rx.length,<- ry.length];exact hl,fun e=>?_,fun _ e=>?_,fun _ _ p hp=>?_⟩
 ·subst e;have:ds=[]:=abU.mp (by rw[rx.length];rfl);subst this;exact k.now (dv:=.im (.tuple es)) D ⟨p2,ys,rfl,hy,ry⟩ q
 ·subst e;have:es=[]:=abU.mp (by rw[ry.length];rfl);subst this;rw[ace]at q;exact k.now (dv:=.im (.tuple ds)) D ⟨p1,xs,rfl,hx,rx⟩ q
 ·obtain⟨D3,s3,e3⟩:=D.GA hp (.tup (xs++ys));exact k _ (.im (.tuple (ds++es))) _ _ D3 s3 ⟨p,_,rfl,e3,ak.same s3 (rx.append ry)⟩ q⟩
end
section
variable {Q:VK}{x y:V}{a b:DV}{te:TE}{ts:TA}{ds:lN}
theorem aD.cY(h:aD C F [a] xs):∃ x,xs=[x]/\dX C F a x:=by
 obtain⟨y,ys,e,h1,h2⟩:=h;cases h2;exact⟨y,e,h1⟩
theorem aD.jP(h:aD C F [a,b] xs):∃ x y,xs=[x,y]/\dX C F a x/\dX C F b y:=by
 obtain⟨y,ys,e,h1,h2⟩:=h;obtain⟨z,rfl,h3⟩:=h2.cY;exact⟨y,z,e,h1,h3⟩
def Vf(f:List DV->Wd->DK->Prop)(d:lN):cW:=fun ρ W Q=>d ρ W fun vs W1=>f vs W1 Q
instance {rr:List V->Hp->VK->Prop}{f:List DV->Wd->DK->Prop}[ir:Dv C rr f][is:LA C ts ds]:LE C (LX rr ts) (Vf f ds):=⟨fun D h k=>is.go D h fun xs aK H1 W1 D1 s1 v1 h1=>ir.go D1 v1 h1 (k.mono s1)⟩
def HI:List DV->Wd->DK->Prop:=fun as W Q=>∃ a vs,as=[a]/\gM W a=some vs/\Q (.im (.int vs.length)) W
instance {K:zn}[hk:lO C K]:Dv C (Ds K) HI:=by
 obtain⟨rfl⟩:=hk;exact⟨fun D h zz k=>by
 obtain⟨a,vs,e,e2,q⟩:=zz
 subst e;obtain⟨x,rfl,hx⟩:=h.cY;obtain⟨p,xs,rfl,hq,r⟩:=D.gM hx e2;refine⟨p,xs,rfl,hq,?_⟩;rw[<- r.length];exact k.now (dv:=.im (.int _)) D rfl q⟩
def zc:List DV->Wd->DK->Prop:=fun as W Q=>∃ a vs,as=[a]/\gM W a=some vs/\iK vs W Q
instance {K:zn}[hk:lO C K]:Dv C (yX K) zc:=by
 obtain⟨rfl⟩:=hk;exact⟨fun D h zz k=>by
 obtain⟨a,vs,e,e2,q⟩:=zz
 subst e;obtain⟨x,rfl,hx⟩:=h.cY;obtain⟨p,xs,rfl,hq,r⟩:=D.gM hx e2;exact⟨p,xs,rfl,hq,fun l hl=>gv D r hl q k⟩⟩
def MJ:List DV->Wd->DK->Prop:=fun as W Q=>∃ a,as=[a]/\((∃ vs ds W2,c9 W a=some vs/\iC (ku 3) W vs=some (ds,W2)/\Q (.im (.tuple ds)) W2)\/∃ ds,a=.im (.tuple ds)/\Q a W)
instance {K:zn}[hk:lO C K]:Dv C (Dr K) MJ:=by
 obtain⟨rfl⟩:=hk;exact⟨fun D h zz k=>by
 obtain⟨a,e,q⟩:=zz
 subst e;obtain⟨x,rfl,hx⟩:=h.cY;rcases q with⟨vs,ds,W2,e2,e3,q⟩ | ⟨ds,e2,q⟩
 ·obtain⟨p,xs,rfl,hq,r⟩:=D.c9 hx e2;obtain⟨D2,s2,r2,k2⟩:=gu (ju 3) D r e3;refine⟨p,xs,rfl,.inl ⟨eE.of hq,fun l hl=>?_⟩⟩;obtain⟨D3,s3,e4⟩:=D2.GA hl (.tup xs);exact k _ (.im (.tuple ds)) _ _ D3 (s2.trans s3) ⟨l,xs,rfl,e4,ak.same s3 r2⟩ q
 ·subst e2;obtain⟨p,xs,rfl,h1,r⟩:=hx;exact⟨p,xs,rfl,.inr ⟨fg.of (Fz.le h1),k.now (dv:=.im (.tuple ds)) D ⟨p,xs,rfl,h1,r⟩ q⟩⟩⟩
def Kd:List DV->Wd->DK->Prop:=fun as W Q=>∃ i j,as=[.im (.int i),.im (.int j)]/\Q (.im (.int (if j > i then j else i))) W
instance:Dv C JY Kd:=⟨fun D h zz k=>by
 obtain⟨i,j,e,q⟩:=zz
 subst e;obtain⟨x,y,rfl,hx,hy⟩:=h.jP;cases hx;cases hy;exact⟨i,j,rfl,k.now (dv:=.im (.int _)) D rfl q⟩⟩
def Ke:List DV->Wd->DK->Prop:=fun as W Q=>∃ i j,as=[.im (.int i),.im (.int j)]/\Q (.im (.int (if j < i then j else i))) W
instance:Dv C JZ Ke:=⟨fun D h zz k=>by
 obtain⟨i,j,e,q⟩:=zz
 subst e;obtain⟨x,y,rfl,hx,hy⟩:=h.jP;cases hx;cases hy;exact⟨i,j,rfl,k.now (dv:=.im (.int _)) D rfl q⟩⟩
def DG:List DV->Wd->DK->Prop:=fun as W Q=>(∃ i,as=[.im (.int i)]/\Q (.im (.int i)) W)\/∃ b,as=[.im (.bool b)]/\Q (.im (.int (if b then 1 else 0))) W
instance:Dv C J4 DG:=⟨fun D h q k=>by
 rcases q with⟨i,e,q⟩ | ⟨b,e,q⟩
 ·subst e;obtain⟨x,rfl,hx⟩:=h.cY;cases hx;exact .inl ⟨i,rfl,k.now (dv:=.im (.int _)) D rfl q⟩
 ·subst e;obtain⟨x,rfl,hx⟩:=h.cY;cases hx;exact .inr ⟨b,rfl,k.now (dv:=.im (.int _)) D rfl q⟩⟩
noncomputable def iO:List DV->Option (List Bool)
 | []=>some []
 | .im (.bool b)::r=>(iO r).map (b::·)
 | _=>none
theorem qg{F:Hp}:∀{vs:List DV} {xs:List V} {bs:List Bool},aD C F vs xs->iO vs=some bs->xs=bs.map V.bl
 | [],_,_,h,e=>by cases h;cases e;rfl
 | .im (.bool b)::r,_,bs,⟨y,ys,e1,h,hr⟩,e=>by
  unfold iO at e;cases q:iO r with
  | none=>rw[q]at e;cases e
  | some cs =>
   rw[q]at e;cases e;rw[e1,show y=V.bl b from h,qg hr q];rfl
 | .im .none::_,_,_,_,e=>by cases e
 | .im (.int _)::_,_,_,_,e=>by cases e
 | .im (.str _)::_,_,_,_,e=>by cases e
 | .im (.list _)::_,_,_,_,e=>by cases e
 | .im (.tuple _)::_,_,_,_,e=>by cases e
 | .im (.dict _)::_,_,_,_,e=>by cases e
 | .pt _::_,_,_,_,e=>by cases e
 | .cst _::_,_,_,_,e=>by cases e
 | .rf _::_,_,_,_,e=>by cases e
 | .ty _::_,_,_,_,e=>by cases e
 | .xh _::_,_,_,_,e=>by cases e
 | .raw _::_,_,_,_,e=>by cases e
 | .jh _::_,_,_,_,e=>by cases e
 | .tp _::_,_,_,_,e=>by cases e
theorem xl(bs:List Bool):iO (bs.map fun b=>.im (.bool b))=some bs:=by
 induction bs with
 | nil=>rfl
 | cons b r ih=>rw[aaZ];unfold iO;rw[ih];rfl
noncomputable def Vg:List DV->Wd->DK->Prop:=fun as W Q=>∃ a vs bs,as=[a]/\c9 W a=some vs/\iO vs=some bs/\Q (.im (.bool (bs.any id))) W
noncomputable instance {K:zn}[hk:lO C K]:Dv C (Qy K) Vg:=by
 obtain⟨rfl⟩:=hk;exact⟨fun D h zz k=>by
 obtain⟨a,vs,bs,e,e1,e2,q⟩:=zz
 subst e;obtain⟨x,rfl,hx⟩:=h.cY;obtain⟨p,xs,rfl,hq,r⟩:=D.c9 hx e1;rw[qg r e2]at hq;exact⟨p,bs,rfl,eE.of hq,k.now (dv:=.im (.bool _)) D rfl q⟩⟩
def QP(T:String):List DV->Wd->DK->Prop:=fun as W Q=>∃ a d,as=[a,.ty T]/\dat 4 W a=some d/\Q (.im (.bool (Qj d T))) W
instance {T:String}:Dv C (Hm T) (QP T):=⟨fun D h zz k=>by
 obtain⟨a,d,e,e1,q⟩:=zz
 subst e;obtain⟨x,y,rfl,hx,hy⟩:=h.jP;cases hy;exact⟨x,d,rfl,D.uC hx e1,k.now (dv:=.im (.bool _)) D rfl q⟩⟩
def A3(T:String)(a:DV)(W:Wd):Prop:=(T = "list"/\∃ vs,c9 W a=some vs)\/(T = "str"/\∃ s,a=.im (.str s))\/(T = "dict"/\∃ p,a=.pt p/\((∃ bO,W p=some (.dk bO))\/∃ bO,W p=some (.dt bO)))
theorem HJ(D:DR C σ H ρ W)(h:dX C (Fz C W H) a x)(e:A3 T a W):Uz C.K T x H:=by
 rcases e with⟨rfl,vs,e⟩ | ⟨rfl,s,rfl⟩ | ⟨rfl,p,rfl,e⟩
 ·obtain⟨p,xs,rfl,hq,r⟩:=D.c9 h e;exact .inl ⟨rfl,xs,eE.of hq⟩
 ·cases h;exact rfl
 ·cases h;rcases e with⟨bO,e⟩ | ⟨bO,e⟩
  ·obtain⟨_,_,ks,h1,_⟩:=D.ce p _ e;exact .inr (.inr (.inl ⟨rfl,.inl ⟨ks,h1⟩⟩))
  ·obtain⟨_,_,ks,h1,_⟩:=D.ce p _ e;exact .inr (.inr (.inl ⟨rfl,.inr ⟨ks,h1⟩⟩))
def Yb(T:String)(f:DV->List DV->Wd->DK->Prop)(d:cW)(e:lN):cW:=fun ρ W Q=>d ρ W fun a W1=>A3 T a W1/\e ρ W1 fun vs W2=>f a vs W2 Q
instance {K:zn}[hk:lO C K]{T:String}{rr:V->List V->Hp->VK->Prop}{f:DV->List DV->Wd->DK->Prop}[ir:QC C rr f][ia:LE C te da][is:LA C ts ds]:LE C (UA K T rr te ts) (Yb T f da ds):=by
 obtain⟨rfl⟩:=hk;exact⟨fun D h k=>ia.go D h fun x dv H1 W1 D1 s1 v1 ⟨ht,h1⟩=>⟨HJ D1 v1 ht,is.go D1 h1 fun xs aK H2 W2 D2 s2 v2 h2=>ir.go D2 (v1.mono s2) v2 h2 (k.mono (s1.trans s2))⟩⟩
def rS:DV->List DV->Wd->DK->Prop:=fun a as W Q=>∃ p vs v,a=.pt p/\as=[v]/\W p=some (.lst vs)/\vs.length < sizeLine/\Q (.im .none) (aH W p (.lst (vs++[v])))
instance:QC C yO rS:=⟨fun D h1 h2 zz k=>by
 obtain⟨p,vs,v,e1,e2,e3,hl,q⟩:=zz
 subst e1 e2;cases h1;obtain⟨y,rfl,hy⟩:=h2.cY;obtain⟨_,_,xs,h3,r⟩:=D.ce p _ e3;exact⟨p,xs,y,rfl,rfl,h3,by rw[<- r.length];exact hl,k.to (dv:=.im .none) (D.wr e3 (r.append (.one hy))) rfl q⟩⟩
def MK:DV->List DV->Wd->DK->Prop:=fun a as W Q=>∃ p vs i j v,a=.pt p/\as=[.im (.int i)]/\W p=some (.lst vs)/\-(2 ^ 63)<=i/\i < 2 ^ 63/\seqIndex? i vs.length=some j/\vs[j]?=some v/\Q v (aH W p (.lst (vs.eraseIdx j)))
instance:QC C CU MK:=⟨fun D h1 h2 zz k=>by
 obtain⟨p,vs,i,j,v,e1,e2,e3,l1,l2,e4,e5,q⟩:=zz
 subst e1 e2;cases h1;obtain⟨y,rfl,hy⟩:=h2.cY;cases hy;obtain⟨_,_,xs,h3,r⟩:=D.ce p _ e3;obtain⟨y,hy,ry⟩:=r.get e5;obtain⟨D2,s2⟩:=D.wr e3 (r.erase j);exact⟨p,xs,i,j,y,rfl,rfl,h3,l1,l2,by rw[<- r.length];exact e4,hy,k _ v _ _ D2 s2 (ry.mono s2) q⟩⟩
def zd:My:=fun _ W Q=>Q none W
def Kf(d:cW):My:=fun ρ W Q=>d ρ W fun v W1=>∃ i,v=.im (.int i)/\Q (some i) W1
instance:LO C rh zd:=⟨fun D h k=>k none _ _ D (aM.refl _) h⟩
instance [ia:LE C te da]:LO C (CN te) (Kf da):=⟨fun D h k=>ia.go D h fun x dv H1 W1 D1 s1 v1 zz=>by obtain⟨i,e,q⟩:=zz; subst e;exact⟨i,v1,k (some i) H1 W1 D1 s1 q⟩⟩
class Vh (C:DC) (r:V->v0->v0->Hp->VK->Prop) (d:outParam (DV->v0->v0->Wd->DK->Prop)):Prop where
 go:∀{σ:St} {H:Hp} {ρ:bS} {W:Wd} {Qd:DK} {Q:VK} {a:DV} {x:V} {lo hi:v0},DR C σ H ρ W->dX C (Fz C W H) a x->d a lo hi W Qd->KE C σ ρ W H Qd Q->r x lo hi H Q
def Yc(f:DV->v0->v0->Wd->DK->Prop)(d:cW)(l u:My):cW:=fun ρ W Q=>d ρ W fun v W1=>l ρ W1 fun lo W2=>u ρ W2 fun hi W3=>f v lo hi W3 Q
instance {rr:V->v0->v0->Hp->VK->Prop}{f:DV->v0->v0->Wd->DK->Prop}{tl tu:TO}{dl du:My}[ir:Vh C rr f][ia:LE C te da][il:LO C tl dl][iu:LO C tu du]:LE C (Ux rr te tl tu) (Yc f da dl du) :=
 ⟨fun D h k=>ia.go D h fun x dv H1 W1 D1 s1 v1 h1=>il.go D1 h1 fun lo H2 W2 D2 s2 h2=>iu.go D2 h2 fun hi H3 W3 D3 s3 h3=>ir.go D3 ((v1.mono s2).mono s3) h3 (k.mono ((s1.trans s2).trans s3))⟩
def cutD{α:Type}(xs:List α)(lo hi:v0):List α:=(xs.drop (HT.dN xs.length 0 lo)).take (HT.dN xs.length xs.length hi - HT.dN xs.length 0 lo)
theorem aD.cut{lo:v0}(h:aD C F vs xs):aD C F (cutD vs lo hi) (nv xs lo hi):=by
 unfold cutD nv;rw[<- h.length];exact(h.drop _).take _
theorem ak.drop{F:Hp}:∀{ds:wE} {xs:List V} (i:Nat),ak F ds xs->ak F (ds.drop i) (xs.drop i)
 | [],_,_,h=>by cases h;simp[ak]
 | _::_,_,0,h=>h
 | _::_,_,i+1,⟨y,ys,e,h,r⟩=>by subst e;exact ak.drop i r
theorem ak.take{F:Hp}:∀{ds:wE} {xs:List V} (i:Nat),ak F ds xs->ak F (ds.take i) (xs.take i)
 | [],_,_,h=>by cases h;simp[ak]
 | _::_,_,0,_=>by simp[ak]
 | _::_,_,i+1,⟨y,ys,e,h,r⟩=>by subst e;exact⟨y,_,rfl,h,ak.take i r⟩
theorem ak.cut{ds:wE}{lo:v0}(h:ak F ds xs):ak F (cutD ds lo hi) (nv xs lo hi):=by
 unfold cutD nv;rw[<- h.length];exact(h.drop _).take _
def ML:DV->v0->v0->Wd->DK->Prop:=fun a lo hi W Q=>∃ vs,(c9 W a=some vs\/pJ a=some vs)/\iK (cutD vs lo hi) W Q
instance {K:zn}[hk:lO C K]:Vh C (PU K) ML:=by
 obtain⟨rfl⟩:=hk;exact⟨fun D h zz k=>by
 obtain⟨vs,e,q⟩:=zz
 rcases e with e | e
 ·obtain⟨p,xs,rfl,hq,r⟩:=D.c9 h e;exact⟨p,xs,rfl,eE.of hq,fun l hl=>gv D r.cut hl q k⟩
 ·obtain⟨p,xs,rfl,hq,_,r⟩:=D.pJ h e;exact⟨p,xs,rfl,hq,fun l hl=>gv D r.cut hl q k⟩⟩
def HK:DV->v0->v0->Wd->DK->Prop:=fun a lo hi W Q=>∃ ds,a=.im (.tuple ds)/\¬ (HT.dN ds.length 0 lo=0/\HT.dN ds.length ds.length hi=ds.length)/\Q (.im (.tuple (cutD ds lo hi))) W
instance {K:zn}[hk:lO C K]:Vh C (PL K) HK:=by
 obtain⟨rfl⟩:=hk;exact⟨fun D h zz k=>by
 obtain⟨ds,e,hn,q⟩:=zz
 subst e;obtain⟨p,xs,rfl,hq,r⟩:=h;refine⟨p,xs,rfl,fg.of (Fz.le hq),by rw[<- r.length];exact hn,fun l hl=>?_⟩;obtain⟨D3,s3,e3⟩:=D.GA hl (.tup (nv xs _ _));exact k _ (.im (.tuple _)) _ _ D3 s3 ⟨l,_,rfl,e3,ak.same s3 r.cut⟩ q⟩
end
abbrev rT:=DV->bS->Wd->(bS->Wd->Prop)->Prop
abbrev rV:=List DV->bS->Wd->(bS->Wd->Prop)->Prop
structure gw where
 nx:bS->Wd->Prop
 rt:DK
 bk:bS->Wd->Prop
 ct:bS->Wd->Prop
abbrev jQ:=gw->bS->Wd->Prop
variable {b:jQ}
def KG(C:DC)(F:Hp)(Qd:bS->Wd->Prop)(Q:St->Hp->Prop):Prop:=∀ bB H' bZ W',DR C bB H' bZ W'->aM F (Fz C W' H')->Qd bZ W'->Q bB H'
class LG (C:DC) (g:TG) (d:outParam rT):Prop where
 go:∀{σ:St} {H:Hp} {ρ:bS} {W:Wd} {v:V} {dv:DV} {Qd:bS->Wd->Prop} {Q:St->Hp->Prop},DR C σ H ρ W->dX C (Fz C W H) dv v->d dv ρ W Qd->KG C (Fz C W H) Qd Q->g v σ H Q
class Tt (C:DC) (g:vV) (d:outParam rV):Prop where
 go:∀{σ:St} {H:Hp} {ρ:bS} {W:Wd} {vs:List V} {aK:List DV} {Qd:bS->Wd->Prop} {Q:St->Hp->Prop},DR C σ H ρ W->aD C (Fz C W H) aK vs->d aK ρ W Qd->KG C (Fz C W H) Qd Q->g vs σ H Q
structure EM(C:DC)(F:Hp)(De:gw)(D:Ends):Prop where
 nx:KG C F De.nx D.nx
 bk:KG C F De.bk D.bk
 ct:KG C F De.ct D.ct
 rt:∀ x dv bB H' bZ W',DR C bB H' bZ W'->aM F (Fz C W' H')->dX C (Fz C W' H') dv x->De.rt dv W'->D.rt x H'
class LS (C:DC) (t:TS) (d:outParam jQ):Prop where
 go:∀{σ:St} {H:Hp} {ρ:bS} {W:Wd} {De:gw} {D:Ends},DR C σ H ρ W->d De ρ W->EM C (Fz C W H) De D->t D σ H
section
variable {ta tb tc te to ti:TE}{db dc Yd di:cW}{r r':R2}{dr Vc:rR}{c c':TT}{dt QD:nR}{ts:TA}{ds:lN}{Q:VK}{x:V}{g:TG}{dg:rT}{gs:vV}{QQ:rV}{t u:TS}{d e:jQ}{F':Hp}
theorem KG.mono{Qd:bS->Wd->Prop}{Q:St->Hp->Prop}(k:KG C F Qd Q)(s:aM F F'):KG C F' Qd Q:=fun bB H' bZ W' D s' q=>k bB H' bZ W' D (s.trans s') q
theorem EM.mono{De:gw}{D:Ends}(m:EM C F De D)(s:aM F F'):EM C F' De D:=⟨m.nx.mono s,m.bk.mono s,m.ct.mono s,fun x dv bB H' bZ W' D s' v q=>m.rt x dv bB H' bZ W' D (s.trans s') v q⟩
def Vi(i:Nat):rT:=fun dv ρ W Q=>Q (ρ.set i (some dv)) W
instance {i:Nat}:LG C (mR i) (Vi i):=⟨fun D v h k=>k _ _ _ _ (D.set i v) (aM.refl _) h⟩
def Vj:rV:=fun vs ρ W Q=>vs=[]/\Q ρ W
def Vk(a:rT)(b:rV):rV:=fun vs ρ W Q=>∃ v r,vs=v::r/\a v ρ W fun bZ W'=>b r bZ W' Q
instance:Tt C Lu Vj:=⟨fun D v h k=>by obtain⟨e,q⟩:=h;subst e;cases v;exact⟨rfl,k _ _ _ _ D (aM.refl _) q⟩⟩
instance [ia:LG C g dg][ib:Tt C gs QQ]:Tt C (Cu g gs) (Vk dg QQ):=⟨fun D v h k=>by
 obtain⟨dv,r,e,q⟩:=h;subst e;obtain⟨y,ys,e,v1,v2⟩:=v;subst e;exact⟨y,ys,rfl,ia.go D v1 q fun bB H' bZ W' D' s' q'=>ib.go D' (v2.mono s') q' (k.mono s')⟩⟩
def ze(a b dv:DV)(W2:Wd)(Kc:Wd->Prop):Prop:=∃ p vs k j,a=.pt p/\b=.im (.int k)/\W2 p=some (.lst vs)/\yL vs.length k=some j/\Kc (aH W2 p (.lst (vs.set j dv)))
def Ye(o i:cW):rT:=fun dv ρ W Q=>o ρ W fun a W1=>i ρ W1 fun b W2=>ze a b dv W2 (Q ρ)
instance [io:LE C to Yd][ii:LE C ti di]:LG C (Lw to ti JD) (Ye Yd di):=⟨fun D v h k=>io.go D h fun x dx H1 W1 D1 s1 v1 h1=>ii.go D1 h1 fun y dy H2 W2 D2 s2 v2 zz=>by
 obtain⟨p,vs,n,j,e1,e2,e3,e4,q⟩:=zz
 subst e1 e2;cases (v1.mono s2);cases v2;obtain⟨_,_,xs,h3,r⟩:=D2.ce p _ e3;obtain⟨D3,s3⟩:=D2.wr e3 (r.set j ((v.mono s1).mono s2));exact⟨p,xs,n,j,rfl,rfl,h3,by rw[<- r.length];exact e4,k _ _ _ _ D3 ((s1.trans s2).trans s3) q⟩⟩
def Kg:jQ:=fun De ρ W=>De.nx ρ W
instance:LS C Cr Kg:=⟨fun D h m=>m.nx _ _ _ _ D (aM.refl _) h⟩
def dD(a b:jQ):jQ:=fun De ρ W=>a ⟨b De,De.rt,De.bk,De.ct⟩ ρ W
instance [ia:LS C t d][ib:LS C u e]:LS C (Lo t u) (dD d e):=⟨fun D h m=>ia.go D h ⟨fun bB H' bZ W' D' s' q=>ib.go D' q (m.mono s'),m.bk,m.ct,m.rt⟩⟩
def zf(a:cW):jQ:=fun De ρ W=>a ρ W fun _ W1=>De.nx ρ W1
instance [ia:LE C ta da]:LS C (Ct ta) (zf da):=⟨fun D h m=>ia.go D h fun x dv H1 W1 D1 s1 v1 q=>m.nx _ _ _ _ D1 s1 q⟩
def QR(a:cW):jQ:=fun De ρ W=>a ρ W De.rt
instance [ia:LE C ta da]:LS C (Lp ta) (QR da):=⟨fun D h m=>ia.go D h fun x dv H1 W1 D1 s1 v1 q=>m.rt x dv _ _ _ _ D1 s1 v1 q⟩
def QS(c:nR)(a b:jQ):jQ:=fun De ρ W=>c ρ W fun k W1=>if k=true then a De ρ W1 else b De ρ W1
instance [it:LT C c dt][ia:LS C t d][ib:LS C u e]:LS C (Lr c t u) (QS dt d e):=⟨fun D h m=>it.go D h fun b H1 W1 D1 s1 h1=>by
 cases b with
 | true=>exact ia.go D1 h1 (m.mono s1)
 | false=>exact ib.go D1 h1 (m.mono s1)⟩
def HL(a:cW)(g:rT):jQ:=fun De ρ W=>a ρ W fun v W1=>g v ρ W1 De.nx
instance [ia:LE C ta da][ig:LG C g dg]:LS C (wx ta g) (HL da dg):=⟨fun D h m=>ia.go D h fun x dv H1 W1 D1 s1 v1 q=>ig.go D1 v1 q (m.nx.mono s1)⟩
def DH(P:Prop)(a:lN):jQ:=fun _ ρ W=>a ρ W fun vs _=>vs.length<=sizeLine/\P
instance {E':XK}{X':Addr->Prop}[he:X2 C E' X']{k:Addr}[ia:LA C ts ds]:LS C (xg k E' ts) (DH (X' k) ds):=by
 obtain⟨rfl,rfl⟩:=he;exact⟨fun D h m=>ia.go D h fun xs aK H1 W1 D1 s1 v1 ⟨hl,p⟩=>⟨by rw[<- v1.length];exact hl,D1.ok.ex k p H1 D1.fr⟩⟩
def DI(c:nR)(b:jQ):jQ:=fun De ρ W=>∃ Pv:Nat->bS->Wd->Prop,(∃ m,Pv m ρ W)/\∀ m ρ W,Pv m ρ W->c ρ W fun k W1=>if k=true then b ⟨fun bZ W'=>∃ m',m' < m/\Pv m' bZ W',De.rt,De.nx,fun bZ W'=>∃ m',m' < m/\Pv m' bZ W'⟩ ρ W1 else De.nx ρ W1
instance [it:LT C c dt][ib:LS C t d]:LS C (wy c t) (DI dt d):=⟨fun{σ H ρ W De D} R h m=>by
 obtain⟨Pv,⟨m0,p0⟩,hs⟩:=h;refine⟨fun n bB H'=>∃ bZ W',DR C bB H' bZ W'/\aM (Fz C W H) (Fz C W' H')/\Pv n bZ W',⟨m0,ρ,W,R,aM.refl _,p0⟩,?_⟩;rintro n bB H' ⟨bZ,W',D',s',p'⟩;refine it.go D' (hs n bZ W' p') fun b H1 W1 D1 s1 h1=>?_;cases b with
 | true =>
  refine⟨fun B0 H2=>∃ iP W2,DR C B0 H2 iP W2/\aM (Fz C W H) (Fz C W2 H2)/\∃ m',m' < n/\Pv m' iP W2,fun B0 H2 ⟨iP,W2,D2,s2,m',l,p2⟩=>⟨m',l,iP,W2,D2,s2,p2⟩,ib.go D1 h1 ?_⟩;have ss:=s'.trans s1;exact⟨fun B0 H2 iP W2 D2 s2 q=>⟨iP,W2,D2,ss.trans s2,q⟩,m.nx.mono ss,fun B0 H2 iP W2 D2 s2 q=>⟨iP,W2,D2,ss.trans s2,q⟩,(m.mono ss).rt⟩
 | false=>exact m.nx _ _ _ _ D1 (s'.trans s1) h1⟩
structure qh where
 vs:List DV
 kp:Wd->Prop
abbrev GB:=bS->Wd->(qh->Wd->Prop)->Prop
structure HN(C:DC)(F:Hp)(J:It)(it:qh):Prop where
 go:∀ i σ H ρ W,DR C σ H ρ W->aM F (Fz C W H)->it.kp W->i < it.vs.length->J.go i H
 Gv:∀ i σ H ρ W,DR C σ H ρ W->aM F (Fz C W H)->it.kp W->i < it.vs.length->∀ x H',J.Gv i H x H'->DR C σ H' ρ W/\aM (Fz C W H) (Fz C W H')/\∃ dv,it.vs[i]?=some dv/\dX C (Fz C W H') dv x
 stop:∀ σ H ρ W,DR C σ H ρ W->aM F (Fz C W H)->it.kp W->J.stop it.vs.length H
class LI (C:DC) (w:TI) (d:outParam GB):Prop where
 go:∀{σ:St} {H:Hp} {ρ:bS} {W:Wd} {Qd:qh->Wd->Prop} {Q:It->Hp->Prop},DR C σ H ρ W->d ρ W Qd->(∀ J it H' W',DR C σ H' ρ W'->aM (Fz C W H) (Fz C W' H')->HN C (Fz C W' H') J it->Qd it W'->Q J H')->w σ H Q
def qi(it:qh)(g:rT)(b:jQ)(De:gw)(ρ:bS)(W1:Wd):Prop:=∃ Pv:Nat->bS->Wd->Prop,Pv 0 ρ W1/\(∀ i ρ W,Pv i ρ W->it.kp W) /\
 (∀ i v ρ W,it.vs[i]?=some v->Pv i ρ W->g v ρ W fun iP W2=>b ⟨Pv (i+1),De.rt,De.nx,Pv (i+1)⟩ iP W2)/\∀ ρ W,Pv it.vs.length ρ W->De.nx ρ W
def QT(w:GB)(g:rT)(b:jQ):jQ:=fun De ρ W=>w ρ W fun it W1=>qi it g b De ρ W1
instance {w:TI}{dw:GB}[iw:LI C w dw][ig:LG C g dg][ib:LS C t d]:LS C (LB w g t) (QT dw dg d):=⟨fun{σ H ρ W De D} R h m=>iw.go R h fun J it H1 W1 D1 s1 ok zz=>by
 obtain⟨Pv,p0,kp,hs,hd⟩:=zz
 refine⟨fun i n bB H'=>n=it.vs.length - i/\i<=it.vs.length/\∃ bZ W',DR C bB H' bZ W'/\aM (Fz C W1 H1) (Fz C W' H')/\Pv i bZ W',⟨it.vs.length,by simp,aaW _,ρ,W1,D1,aM.refl _,p0⟩,?_⟩;rintro i n bB H' ⟨rfl,hi,bZ,W',D',s',p'⟩;have kw:=kp i bZ W' p'
 by_cases gh:i < it.vs.length
 ·refine .inr ⟨ok.go i bB H' bZ W' D' s' kw gh,fun B0 H2=>∃ iP W2,DR C B0 H2 iP W2/\aM (Fz C W1 H1) (Fz C W2 H2)/\Pv (i+1) iP W2,fun B0 H2 ⟨iP,W2,D2,s2,p2⟩=>⟨it.vs.length - (i+1),by omega,rfl,gh,iP,W2,D2,s2,p2⟩,fun x H2 hy=>?_⟩;obtain⟨D2,s2,dv,e,v⟩:=ok.Gv i bB H' bZ W' D' s' kw gh x H2 hy;refine ig.go D2 v (hs i dv bZ W' e p') fun yA H3 Yg W3 D3 s3 q3=>ib.go D3 q3 ?_;have ss:=(s'.trans s2).trans s3;exact⟨fun σ4 H4 Vl W4 D4 s4 q=>⟨Vl,W4,D4,ss.trans s4,q⟩,m.nx.mono (s1.trans ss),fun σ4 H4 Vl W4 D4 s4 q=>⟨Vl,W4,D4,ss.trans s4,q⟩,(m.mono (s1.trans ss)).rt⟩
 ·have e:i=it.vs.length:=by omega
  subst e;exact .inl ⟨ok.stop bB H' bZ W' D' s' kw,m.nx _ _ _ _ D' (s1.trans s') (hd bZ W' p')⟩⟩
def uF(it:qh)(g:rT)(c:nR)(e:cW)(ρ:bS)(W1:Wd)(Q:DK):Prop:=it.vs.length<=sizeLine/\∃ Pv:Nat->List DV->Wd->Prop,Pv 0 [] W1/\(∀ i ys W,Pv i ys W->it.kp W) /\
 (∀ i v ys W,it.vs[i]?=some v->ys.length<=i->Pv i ys W->g v ρ W fun iP W2=>c iP W2 fun b W3=>if b=true then e iP W3 fun y W4=>Pv (i+1) (ys++[y]) W4 else Pv (i+1) ys W3) /\
 ∀ ys W,Pv it.vs.length ys W->iK ys W Q
def Kh(w:GB)(g:rT)(c:nR)(e:cW)(ix:List (Option Nat)):cW:=fun ρ W Q=>w ρ W fun it W1=>uF it g c e (AY ix ρ) W1 Q
instance {w:TI}{dw:GB}{ix:List (Option Nat)}[iw:LI C w dw][ig:LG C g dg][it:LT C c dt][ie:LE C te da]:LE C (uz w g c te ix) (Kh dw dg dt da ix):=⟨fun{σ H ρ W Qd Q} R h k=>iw.go R h fun J Dw H1 W1 D1 s1 ok zz=>by
 obtain⟨hz,Pv,p0,kp,hs,hd⟩:=zz
 refine⟨fun i n ys H'=>n=Dw.vs.length - i/\i<=Dw.vs.length/\∃ zs W',DR C σ H' ρ W'/\aM (Fz C W1 H1) (Fz C W' H')/\aD C (Fz C W' H') zs ys/\zs.length<=i/\Pv i zs W',⟨Dw.vs.length,by simp,aaW _,[],W1,D1,aM.refl _,rfl,aar _,p0⟩,?_⟩;rintro i n ys H' ⟨rfl,hi,zs,W',D',s',vz,hl,p'⟩;have kw:=kp i zs W' p'
 by_cases gh:i < Dw.vs.length
 ·refine .inr ⟨ok.go i σ H' ρ W' D' s' kw gh,by rw[<- vz.length];omega,
   fun y H2=>∃ zy W2,DR C σ H2 ρ W2/\aM (Fz C W1 H1) (Fz C W2 H2)/\aD C (Fz C W2 H2) zs ys/\dX C (Fz C W2 H2) zy y/\Pv (i+1) (zs++[zy]) W2,fun H2=>∃ W2,DR C σ H2 ρ W2/\aM (Fz C W1 H1) (Fz C W2 H2)/\aD C (Fz C W2 H2) zs ys/\Pv (i+1) zs W2,
   fun y H2 ⟨zy,W2,D2,s2,v2,vy,p2⟩=>⟨Dw.vs.length - (i+1),by omega,rfl,gh,zs++[zy],W2,D2,s2,v2.append (.one vy),by rw[aaP];simp;omega,p2⟩,
   fun H2 ⟨W2,D2,s2,v2,p2⟩=>⟨Dw.vs.length - (i+1),by omega,rfl,gh,zs,W2,D2,s2,v2,by omega,p2⟩,fun x H2 hy=>?_⟩
  obtain⟨D2,s2,dv,e,v⟩:=ok.Gv i σ H' ρ W' D' s' kw gh x H2 hy;have D2':DR C (blk ix σ) H2 (AY ix ρ) W':=D2.slots (D2.sl.blk ix);refine ig.go D2' v (hs i dv zs W' e hl p') fun yA H3 Yg W3 D3 s3 q3=>it.go D3 q3 fun b H4 W4 D4 s4 h4=>?_;have back:∀ H5 W5,DR C yA H5 Yg W5->aM (Fz C W' H2) (Fz C W5 H5)->DR C σ H5 ρ W5:=fun H5 W5 D5 s5=>D5.slots (D2.sl.mono s5);cases b with
  | true =>
   refine ie.go D4 h4 fun y zy H5 W5 D5 s5 v5 q5=>?_;exact⟨zy,W5,back H5 W5 D5 ((s3.trans s4).trans s5),(((s'.trans s2).trans s3).trans s4).trans s5,vz.mono (((s2.trans s3).trans s4).trans s5),v5,q5⟩
  | false=>exact⟨W4,back H4 W4 D4 (s3.trans s4),((s'.trans s2).trans s3).trans s4,vz.mono ((s2.trans s3).trans s4),h4⟩
 ·have e:i=Dw.vs.length:=by omega
  subst e;refine .inl ⟨ok.stop σ H' ρ W' D' s' kw,fun p hp=>?_⟩;exact gv D' vz hp (hd zs W' p') (k.mono (s1.trans s'))⟩
def QU:nR:=fun _ W Q=>Q true W
instance:LT C Mp QU:=⟨fun D h k=>k true _ _ D (aM.refl _) h⟩
def DJ(v:DV)(W1:Wd)(Q:qh->Wd->Prop):Prop:=(∃ ds,v=.im (.list ds)/\Q ⟨ds.map .im,fun _=>True⟩ W1)\/(∃ p vs,v=.pt p/\W1 p=some (.lst vs)/\Q ⟨vs,fun W'=>W' p=some (.lst vs)⟩ W1)\/(∃ ns,v=.jh ns/\Q ⟨ns.map fun n=>.im (.int n),fun _=>True⟩ W1)
def DL(a:cW):GB:=fun ρ W Q=>a ρ W fun v W1=>DJ v W1 Q
theorem xm{it:qh}(h:∀ σ H ρ W,DR C σ H ρ W->aM F (Fz C W H)->it.kp W->∃ xs,eE C.K H a xs/\aD C (Fz C W H) it.vs xs):HN C F (Uq C.K a) it where
 go:=fun i σ H ρ W D s kw hi=>by
  obtain⟨xs,q,v⟩:=h σ H ρ W D s kw;have hl:=v.length;exact⟨xs,xs[i]'(by omega),q,by simp[show i < xs.length by omega]⟩
 Gv:=fun i σ H ρ W D s kw hi x H' zz=>by
  obtain⟨e,y⟩:=zz
  obtain⟨xs,q,v⟩:=h σ H ρ W D s kw;subst e;obtain⟨dv,e2,v2⟩:=v.get' (y xs q);exact⟨D,aM.refl _,dv,e2,v2⟩
 stop:=fun σ H ρ W D s kw=>by
  obtain⟨xs,q,v⟩:=h σ H ρ W D s kw;exact⟨xs,q,by rw[v.length];exact aar _⟩
instance {K:zn}[hk:lO C K][ia:LE C ta da]:LI C (Cy K ta) (DL da):=by
 obtain⟨rfl⟩:=hk;exact⟨fun D h k=>ia.go D h fun x dv H1 W1 D1 s1 v1 h1=>by
 rcases h1 with⟨ds,e,q⟩ | ⟨p,vs,e,ew,q⟩ | ⟨ns,e,q⟩
 ·subst e;obtain⟨p,xs,rfl,hp,r⟩:=v1;exact⟨p,rfl,⟨xs,eE.of (Fz.le hp)⟩,k _ _ _ _ D1 s1 (xm fun σ H ρ W D s _=>⟨xs,eE.of (Fz.le (s _ _ hp)),.fi (ak.same s r)⟩) q⟩
 ·subst e;cases v1;obtain⟨_,_,xs,h3,r⟩:=D1.ce p _ ew;exact⟨p,rfl,⟨xs,eE.of h3⟩,k _ _ _ _ D1 s1 (xm fun σ H ρ W D s kw=>by
   obtain⟨_,_,ys,h4,r4⟩:=D.ce p _ kw;exact⟨ys,eE.of h4,r4⟩) q⟩
 ·subst e;obtain⟨p,rfl,hp⟩:=v1;exact⟨p,rfl,⟨_,(Fz.sm (C:=C) (W:=W1)).seq hp⟩,k _ _ _ _ D1 s1 (xm fun σ H ρ W D s _=>⟨_,(Fz.sm (C:=C) (W:=W)).seq (s.seq hp),iN ns⟩) q⟩⟩
theorem A4(D:DR C σ H ρ W)(h:dX C (Fz C W H) dv x)(e:jO dv=some vs):∃ p xs,x=.ref p/\∀ bB H' bZ W',DR C bB H' bZ W'->aM (Fz C W H) (Fz C W' H')->fg C.K H' p xs/\aD C (Fz C W' H') vs xs:=by
 cases dv with
 | im d =>
  cases d with
  | tuple ds=>cases e;obtain⟨p,xs,e1,h1,r⟩:=h;exact⟨p,xs,e1,fun bB H' bZ W' D' s=>⟨fg.of (Fz.le (s _ _ h1)),.fi (ak.same s r)⟩⟩
  | _=>cases e
 | cst ys =>
  obtain⟨p,e1,h1⟩:=h;unfold jO at e
  by_cases q:ys.all dq=true
  ·simp only[q,acW]at e;cases e;exact⟨p,ys,e1,fun bB H' bZ W' D' s=>⟨h1 H',mF q⟩⟩
  ·simp only[q]at e;cases e
 | tp ts=>cases e;obtain⟨p,A2,e1,h1,r⟩:=h;exact⟨p,A2,e1,fun bB H' bZ W' D' s=>⟨fg.of (Fz.le (s _ _ h1)),nP (r.same s)⟩⟩
 | _=>cases e
theorem MM{lo:Int}:HN C F (S2 lo n) ⟨(List.range n).map fun i=>.im (.int (lo+(i:Nat))),fun _=>True⟩ where
 go:=fun i σ H ρ W D s kw hi=>by show i < n;simpa using hi
 Gv:=fun i σ H ρ W D s kw hi x H' zz=>by
  obtain⟨e,y⟩:=zz
  subst e;have A5:i < n:=by simpa using hi
  exact⟨D,aM.refl _,.im (.int (lo+i)),by simp[A5],y⟩
 stop:=fun σ H ρ W D s kw=>by show n<=_;simp
def MN(vs:List DV)(W1:Wd)(Q:qh->Wd->Prop):Prop:=∃ j:Int,vs=[.im (.int j)]/\-(2 ^ 62)<=j/\j < 2 ^ 62/\Q ⟨(List.range j.toNat).map fun i=>.im (.int (0+(i:Nat))),fun _=>True⟩ W1
def Ki(a:lN):GB:=fun ρ W Q=>a ρ W fun vs W1=>MN vs W1 Q
instance [is:LA C ts ds]:LI C (CA ts) (Ki ds):=⟨fun D h k=>is.go D h fun xs aK H1 W1 D1 s1 v1 zz=>by
 obtain⟨j,e,l1,l2,q⟩:=zz
 subst e;obtain⟨x,rfl,hx⟩:=v1.cY;cases hx;exact⟨j,rfl,l1,l2,k _ _ _ _ D1 s1 MM q⟩⟩
end
variable {B':qh->Wd->Prop}
section
variable {ta:TE}{ts:TA}{ds:lN}{Q:VK}{x:V}{F':Hp}
def A6(k:SK)(W:Wd)(dv:DV):Option (List DV):=match k with
 | .L=>match c9 W dv with
  | some vs=>some vs
  | none=>pJ dv
 | .T=>jO dv
def xn(dv:DV)(vs:List DV):Wd->Prop:=match dv with
 | .pt p=>fun W'=>W' p=some (.lst vs)
 | _=>fun _=>True
theorem qj(D:DR C σ H ρ W)(h:dX C (Fz C W H) dv x){k:SK}(e:A6 k W dv=some vs):∃ p,x=.ref p/\xn dv vs W/\∀ bB H' bZ W',DR C bB H' bZ W'->aM (Fz C W H) (Fz C W' H')->xn dv vs W'->∃ xs,wR C.K k H' p xs/\aD C (Fz C W' H') vs xs:=by
 cases k with
 | T =>
  obtain⟨p,xs,e1,hk⟩:=A4 D h (show jO dv=some vs from e);have tt:∀ W',xn dv vs W':=fun W'=>by
   cases dv with
   | pt q=>cases (show jO (.pt q)=some vs from e)
   | _=>exact trivial
  exact⟨p,e1,tt W,fun bB H' bZ W' D' s _=>⟨xs,hk bB H' bZ W' D' s⟩⟩
 | L =>
  cases dv with
  | im d =>
   cases d with
   | list ds =>
    cases (show some (ds.map DV.im)=some vs from e);obtain⟨p,xs,e1,h1,r⟩:=h;exact⟨p,e1,trivial,fun bB H' bZ W' D' s _=>⟨xs,eE.of (Fz.le (s _ _ h1)),.fi (ak.same s r)⟩⟩
   | _=>cases (show none=some vs from e)
  | pt p =>
   unfold A6 c9 at e;cases q:W p with
   | none=>simp[q,pJ]at e
   | some c =>
    cases c with
    | lst ys =>
     simp[q]at e;subst e;refine⟨p,h,q,fun bB H' bZ W' D' s kw=>?_⟩;obtain⟨_,_,zs,h4,r4⟩:=D'.ce p _ kw;exact⟨zs,eE.of h4,r4⟩
    | _=>simp[q,pJ]at e
  | jh ns =>
   cases (show some (ns.map fun n=>DV.im (.int n))=some vs from e);obtain⟨p,e1,h1⟩:=h;exact⟨p,e1,trivial,fun bB H' bZ W' D' s _=>⟨_,(Fz.sm (C:=C) (W:=W')).seq (s.seq h1),iN ns⟩⟩
  | _=>cases (show none=some vs from e)
def MO:DV->Option PyData
 | .im d=>some d
 | _=>none
theorem rW:∀{vs:List DV} {ds:wE},eR MO vs=some ds->vs=ds.map .im
 | [],_,e=>by cases e;rfl
 | .im d::r,_,e=>by
  unfold eR at e;cases q:eR MO r with
  | none=>simp[MO,q]at e
  | some cs=>simp[MO,q]at e;subst e;rw[rW q];rfl
 | .pt _::_,_,e=>by cases e
 | .cst _::_,_,e=>by cases e
 | .rf _::_,_,e=>by cases e
 | .ty _::_,_,e=>by cases e
 | .xh _::_,_,e=>by cases e
 | .raw _::_,_,e=>by cases e
 | .jh _::_,_,e=>by cases e
 | .tp _::_,_,e=>by cases e
def Vm(k1 k2:SK)(vs:List DV)(W1:Wd)(Q:qh->Wd->Prop):Prop:=∃ v1 v2 MP wb d1 d2,vs=[v1,v2]/\A6 k1 W1 v1=some MP/\A6 k2 W1 v2=some wb/\eR MO MP=some d1/\eR MO wb=some d2 /\
 Q ⟨(d1.zip d2).map fun p=>.im (.tuple [p.1,p.2]),fun W'=>xn v1 MP W'/\xn v2 wb W'⟩ W1
def QV(k1 k2:SK)(a:lN):GB:=fun ρ W Q=>a ρ W fun vs W1=>Vm k1 k2 vs W1 Q
theorem MQ{k1 k2:SK}{b:Addr}{d1 d2:wE}{kp:Wd->Prop}(h1:∀ σ H ρ W,DR C σ H ρ W->aM F (Fz C W H)->kp W->∃ xs,wR C.K k1 H a xs/\ak (Fz C W H) d1 xs)(h2:∀ σ H ρ W,DR C σ H ρ W->aM F (Fz C W H)->kp W->∃ xs,wR C.K k2 H b xs/\ak (Fz C W H) d2 xs) :
  HN C F (UN C.K k1 k2 a b) ⟨(d1.zip d2).map fun p=>.im (.tuple [p.1,p.2]),kp⟩ where
 go:=fun i σ H ρ W D s kw hi=>by
  obtain⟨xs,q1,r1⟩:=h1 σ H ρ W D s kw;obtain⟨ys,q2,r2⟩:=h2 σ H ρ W D s kw;have A5:i < d1.length/\i < d2.length:=by simp at hi;omega
  have l1:=r1.length;have l2:=r2.length;exact⟨xs,ys,xs[i]'(by omega),ys[i]'(by omega),q1,q2,by simp[show i < xs.length by omega],by simp[show i < ys.length by omega]⟩
 Gv:=fun i σ H ρ W D s kw hi x H' zz=>by
  obtain⟨p,y,z,e,hp,eH,g1,g2⟩:=zz
  subst e eH;obtain⟨xs,q1,r1⟩:=h1 σ H ρ W D s kw;obtain⟨ys,q2,r2⟩:=h2 σ H ρ W D s kw;have A5:i < d1.length/\i < d2.length:=by simp at hi;omega
  obtain⟨y',ey,ry⟩:=r1.get (i:=i) (d:=d1[i]) (by simp[A5.1]);obtain⟨z',ez,rz⟩:=r2.get (i:=i) (d:=d2[i]) (by simp[A5.2]);rw[g1 xs q1]at ey;cases ey;rw[g2 ys q2]at ez;cases ez;obtain⟨D2,s2,e2⟩:=D.GA hp (.tup [y,z]);refine⟨D2,s2,.im (.tuple [d1[i],d2[i]]),?_,p,_,rfl,e2,y,_,rfl,ry.same s2,z,_,rfl,rz.same s2,rfl⟩;have:(d1.zip d2)[i]?=some (d1[i],d2[i]):=by simp[aby,A5.1,A5.2]
  show((d1.zip d2).map fun p=>DV.im (.tuple [p.1,p.2]))[i]?=_;rw[aap,this];rfl
 stop:=fun σ H ρ W D s kw=>by
  obtain⟨xs,q1,r1⟩:=h1 σ H ρ W D s kw;obtain⟨ys,q2,r2⟩:=h2 σ H ρ W D s kw;refine⟨xs,ys,q1,q2,?_⟩;show xs.length<=((d1.zip d2).map _).length\/ys.length<=((d1.zip d2).map _).length;rw[aal,ad0,<- r1.length,<- r2.length];omega
instance {K:zn}[hk:lO C K]{k1 k2:SK}[is:LA C ts ds]:LI C (Mi K k1 k2 ts) (QV k1 k2 ds):=by
 obtain⟨rfl⟩:=hk;exact⟨fun D h k=>is.go D h fun xs aK H1 W1 D1 s1 v1 zz=>by
 obtain⟨a,b,MP,wb,d1,d2,e,e1,e2,i1,i2,q⟩:=zz
 subst e;obtain⟨x,y,rfl,hx,hy⟩:=v1.jP;obtain⟨p1,rfl,k1',f1⟩:=qj D1 hx e1;obtain⟨p2,rfl,k2',f2⟩:=qj D1 hy e2;have u1:=rW i1;have u2:=rW i2;subst u1 u2;refine⟨p1,p2,rfl,let ⟨xs,q,_⟩:=f1 _ _ _ _ D1 (aM.refl _) k1';⟨xs,q⟩,let ⟨xs,q,_⟩:=f2 _ _ _ _ D1 (aM.refl _) k2';⟨xs,q⟩,k _ _ _ _ D1 s1 (MQ (fun σ H ρ W D s kw=>?_) fun σ H ρ W D s kw=>?_) q⟩
 ·obtain⟨xs,q,r⟩:=f1 σ H ρ W D s kw.1;exact⟨xs,q,r.nQ⟩
 ·obtain⟨xs,q,r⟩:=f2 σ H ρ W D s kw.2;exact⟨xs,q,r.nQ⟩⟩
inductive Res where
 | im (d:PyData) | nw (ds:wE)
def Tu:Res->Bool
 | .im d=>Im d
 | .nw ds=>gK ds
def zg(O:Addr->Prop)(H H':Hp):Res->V->Prop
 | .im d,v=>Rep (hide O H') d v
 | .nw ds,v=>∃ p xs,v=.ref p/\H p=none/\H' p=some (.lst xs)/\ak (hide (fun a=>O a\/a=p) H') ds xs
abbrev jj:=List PyData->(Res->Prop)->(Addr->Prop)->Prop
def df(S:jj):Sp:=fun vs H Q E=>∃(O:Addr->Prop) (ds:wE) (R:Res->Prop) (X:Addr->Prop),(∀ a,O a->H a≠none)/\ak (hide O H) ds vs/\S ds R X/\(∀ r v H',R r->aM H H'->zg O H H' r v->Q v H')/\∀ c H',X c->aM H H'->E (.ref c) none H'
def jk(W:Wd)(Q:DK):Res->Prop
 | .im d=>Q (.im d) W
 | .nw ds=>(∀ p,W p=none->Q (.pt p) (aH W p (.lst (ds.map .im))))\/Q (.im (.list ds)) W
def uG(S:jj)(X:Addr->Prop):List DV->Wd->DK->Prop:=fun as W Q =>
 (∃ ds,eR (dat 4 W) as=some ds/\S ds (fun r=>Tu r=true/\jk W Q r) X)\/∃ ds W1,iC (ku 4) W as=some (ds,W1)/\S ds (jk W1 Q) X
class HP (C:DC) (sp:Sp) (E:XK) (d:outParam (List DV->Wd->DK->Prop)):Prop where
 go:∀{σ:St} {H:Hp} {ρ:bS} {W:Wd} {Qd:DK} {Q:VK} {as:List DV} {xs:List V},DR C σ H ρ W->aD C (Fz C W H) as xs->d as W Qd->KE C σ ρ W H Qd Q->sp xs H Q E
theorem DR.sameNew(D:DR C σ H ρ W)(s:aM H H'){aK:List DV}(hp:H p=none)(rX:H' p=some (.lst xs))(r:aD C (Fz C (aH W p (.lst aK)) H') aK xs):DR C σ H' ρ (aH W p (.lst aK))/\aM (Fz C W H) (Fz C (aH W p (.lst aK)) H'):=by
 have np:∀ a,H a≠none->a≠p:=fun a ha z=>ha (by rw[z];exact hp);refine D.step (fun a z=>?_) (fun a u e _=>s a u e) (rQ s) fun s' q c' e=>?_
 ·by_cases hq:a=p
  ·exact .inr (by rw[hq];exact hp)
  ·rw[aw hq]at z;exact .inl z
 ·by_cases hq:q=p
  ·subst hq;rw[aq]at e;cases e;exact⟨.inl (D.J6 hp),D.nO hp,xs,rX,r⟩
  ·rw[aw hq]at e;obtain⟨h1,h2,h3⟩:=D.ce q c' e;refine⟨h1,h2,h3.mono s' D.ok (gr s (D.there e)) (fun g hg=>?_) fun t' g' n' z=>?_⟩
   ·have:=np g (D.there hg);exact⟨by rw[aw this];exact hg,gr s (D.there hg)⟩
   ·by_cases ht:t'=p
    ·subst ht;rw[aq]at z;cases z
    ·rw[aw ht]at z;exact⟨n',z⟩
theorem DR.tp(D:DR C σ H ρ W){O:Addr->Prop}(hO:∀ a,C.O a->O a):Tp (hide O H) (Fz C W H):=fun b xs e=>by
 obtain⟨h1,h2⟩:=au.mp e;refine au.mpr ⟨fun z=>?_,h2⟩;rcases z with z | z
 ·exact h1 (hO b z)
 ·cases q:W b with
  | none=>rw[q]at z;cases z
  | some c =>
   obtain⟨u,e1,e2⟩:=(D.ce b c q).2.2.mu D.ok;rw[h2]at e1;cases e1;exact e2 xs rfl
theorem zh{S:jj}{X:Addr->Prop}(hX:∀ c H',X c->(∀ a o,C.H0 a=some o->¬ C.T a->H' a=some o)->E (.ref c) none H')(D:DR C σ H ρ W)(h:aD C (Fz C W H) as xs)(hd:uG S X as W Qd)(k:KE C σ ρ W H Qd Q):df S xs H Q E:=by
 have hE:∀ c H',X c->aM H H'->E (.ref c) none H':=fun c H' hc s=>hX c H' hc fun a o e ht=>s a o (D.fr a o e ht);rcases hd with⟨ds,e,hS⟩ | ⟨ds,W1,e,hS⟩
 ·refine⟨fun a=>C.O a\/dO (W a),ds,_,X,fun a ha=>?_,fU (fun dv x d h e=>D.dat 4 h e) h e,hS,fun r v H' hr s hv=>?_,hE⟩
  ·rcases ha with ha | ha
   ·exact D.ho a ha
   ·obtain⟨c,e⟩:=fE ha;exact D.there e
  ·obtain⟨D1,s1⟩:=D.same s;cases r with
   | im d=>exact k _ (.im d) _ _ D1 s1 (Rep.tp (D1.tp fun a ha=>.inl ha) hr.1 hv) hr.2
   | nw es =>
    obtain⟨p,ys,rfl,hp,rX,rr⟩:=hv;have base:ak (Fz C W H') es ys:=ak.tp (D1.tp fun a ha=>.inl (.inl ha)) hr.1 rr;have DM:Tp (Fz C W H') (Fz C (aH W p (.lst (es.map .im))) H'):=fun b zs e=>by
     obtain⟨h1,h2⟩:=au.mp e;have nb:b≠p:=fun z=>by rw[z,rX]at h2;cases h2
     refine au.mpr ⟨fun z=>h1 (z.elim .inl fun z=>.inr ?_),h2⟩;rw[aw nb]at z;exact z
    rcases hr.2 with h2 | h2
    ·obtain⟨D2,s2⟩:=D.sameNew s hp rX (.fi (ak.tp DM hr.1 base));exact k _ (.pt p) _ _ D2 s2 rfl (h2 p (D.fresh hp))
    ·exact k _ (.im (.list es)) _ _ D1 s1 ⟨p,ys,rfl,au.mpr ⟨(fun z=>z.elim (D.nO hp) (fun z=>by rw[D.fresh hp]at z;cases z)),rX⟩,base⟩ h2
 ·obtain⟨D1,s1,r1,k1⟩:=gu (ju 4) D h e;refine⟨fun a=>C.O a\/(W1 a).isSome=true,ds,_,X,fun a ha=>?_,r1,hS,fun r v H' hr s hv=>?_,hE⟩
  ·rcases ha with ha | ha
   ·exact D1.ho a ha
   ·cases q:W1 a with
    | none=>rw[q]at ha;cases ha
    | some c=>exact D1.there q
  ·obtain⟨D2,s2⟩:=D1.same s;cases r with
   | im d=>exact k _ (.im d) _ _ D2 (s1.trans s2) hv hr
   | nw es =>
    obtain⟨p,ys,rfl,hp,rX,rr⟩:=hv;have:aM (hide (fun a=>(C.O a\/(W1 a).isSome=true)\/a=p) H') (Fz C (aH W1 p (.lst (es.map .im))) H'):=fun b o e=>by
     obtain⟨h1,h2⟩:=au.mp e;refine au.mpr ⟨fun z=>h1 ?_,h2⟩;rcases z with z | z
     ·exact .inl (.inl z)
     ·by_cases hb:b=p
      ·exact .inr hb
      ·rw[aw hb]at z;exact .inl (.inr z)
    rcases hr with h2 | h2
    ·obtain⟨D3,s3⟩:=D1.sameNew s hp rX (.fi (ak.same this rr));exact k _ (.pt p) _ _ D3 (s1.trans s3) rfl (h2 p (D1.fresh hp))
    ·refine k _ (.im (.list es)) _ _ D2 (s1.trans s2) ⟨p,ys,rfl,au.mpr ⟨(fun z=>z.elim (D1.nO hp) (fun z=>by rw[D1.fresh hp]at z;cases z)),rX⟩,ak.same (fun b o e=>?_) rr⟩ h2;obtain⟨g1,g2⟩:=au.mp e;exact au.mpr ⟨fun z=>g1 (.inl z),g2⟩
instance {S:jj}:HP C (df S) E0 (uG S fun _=>False):=⟨fun D h hd k=>zh (fun c H' hc _=>hc.elim) D h hd k⟩
instance {sp:Sp}{E:XK}{f:List DV->Wd->DK->Prop}[ir:HP C sp E f][is:LA C ts ds]:LE C (yI sp [] E ts) (Vf f ds):=⟨fun D h k=>is.go D h fun xs aK H1 W1 D1 s1 v1 h1=>by
 show sp (xs++[]) H1 _ E;rw[ace];exact ir.go D1 v1 h1 (k.mono s1)⟩
end
def W0:Wd:=fun _=>none
def kN:Hp->Addr->Addr->Nat->Prop:=fun _ _ _ _=>False
def xo:Addr->Prop:=fun _=>False
def cf(N:wv)(ds:List DV):bS:=ds.map some++List.replicate (N.length - ds.length) none
def HQ(W:Wd)(R:Res->Prop):DV->Prop
 | .im d=>R (.im d)
 | .pt p=>∃ vs ds W2,W p=some (.lst vs)/\iC (ku 3) W vs=some (ds,W2)/\(W2 p).isSome=true/\R (.nw ds)
 | _=>False
def MR(R:Res->Prop):gw:=⟨fun _ _=>R (.im .none),fun dv W=>HQ W R dv,fun _ _=>False,fun _ _=>False⟩
theorem Slots.none:∀ n:Nat,Slots C F (List.replicate n Option.none) (List.replicate n Option.none)
 | 0=>trivial
 | n+1=>Slots.none n
theorem Slots.start:∀{aK:List DV} {vs:List V} (n:Nat),aD C F aK vs->Slots C F (aK.map some++List.replicate n Option.none) (vs.map some++List.replicate n Option.none)
 | [],_,n,h=>by cases h;exact Slots.none n
 | d::r,_,n,⟨y,ys,e,h,hr⟩=>by subst e;exact⟨h,Slots.start n hr⟩
theorem MS{R:Res->Prop}{x:V}(D:DR C σ H' ρ W)(hT:∀ p,C.H0 p=none\/C.T p->W p=none\/C.H0 p=none)(v:dX C (Fz C W H') dv x)(h:HQ W R dv):∃ r,R r/\zg C.O C.H0 H' r x:=by
 cases dv with
 | im d=>exact⟨.im d,h,Rep.same (fun a o e=>by obtain⟨h1,h2⟩:=au.mp e;exact au.mpr ⟨fun z=>h1 (.inl z),h2⟩) v⟩
 | pt p =>
  obtain⟨vs,ds,W2,e,ef,hs,hr⟩:=h;obtain⟨h0,hO,xs,hx,rx⟩:=D.ce p _ e;have h0':C.H0 p=none:=by
   rcases hT p h0 with z | z
   ·rw[e]at z;cases z
   ·exact z
  obtain⟨D2,s2,r2,_⟩:=gu (ju 3) D rx ef;refine⟨.nw ds,hr,p,xs,v,h0',hx,ak.same (fun a o q=>?_) r2⟩;obtain⟨g1,g2⟩:=au.mp q;refine au.mpr ⟨fun z=>?_,g2⟩;rcases z with z | z
  ·exact g1 (.inl z)
  ·subst z;exact g1 (.inr hs)
 | _=>exact h.elim
section
variable {K:zn}{Sd:jj}
theorem zi{vs:List V}{Q:VK}{t:TS}(h:df Sd vs H Q E)(hb:∀ O X,∃ d,LS ⟨K,kN,H,xo,O,E,X⟩ t d/\∀ ds R,Sd ds R X->d (MR R) (cf N (ds.map .im)) W0):t { nx:=fun _ H'=>Q .cS H',rt:=Q } (start N vs) H:=by
 obtain⟨O,ds,R,X,hO,hr,hS,hR,hX⟩:=h;obtain⟨d,hd,hb⟩:=hb O X;have fz:∀ H1,Fz ⟨K,kN,H,xo,O,E,X⟩ W0 H1=hide O H1:=fun H1=>by
  funext a;unfold Fz hide
  by_cases ha:O a
  ·rw[aaN ha,aaN (.inl ha)]
  ·rw[aaD ha,aaD (by rintro(z | z);exact ha z;cases z)]
 have D:DR ⟨K,kN,H,xo,O,E,X⟩ (start N vs) H (cf N (ds.map .im)) W0:=by
  refine⟨⟨fun z=>z.elim,fun z=>z.elim,fun c hc H' hf=>hX c H' hc fun a o e=>hf a o e (fun z=>z)⟩,fun a o e _=>e,hO,fun a z=>z.elim,?_,fun p c e=>by cases e⟩;rw[fz H];have va:aD ⟨K,kN,H,xo,O,E,X⟩ (hide O H) (ds.map .im) vs:=aD.fi hr;unfold start cf;rw[va.length];exact Slots.start _ va
 refine hd.go D (hb ds R hS) ⟨fun bB H' bZ W' D' s q=>?_,fun bB H' bZ W' D' s q=>q.elim,fun bB H' bZ W' D' s q=>q.elim,fun x dv bB H' bZ W' D' s v q=>?_⟩
 ·exact hR (.im .none) .cS H' q (fun a o e=>D'.fr a o e (fun z=>z)) rfl
 ·obtain⟨r,hr,hv⟩:=MS D' (fun p z=>z.elim .inr fun z=>z.elim) v q;exact hR r x H' hr (fun a o e=>D'.fr a o e (fun z=>z)) hv
theorem zj(hlen:∀ ds R X,Sd ds R X->ds.length=ps.length):∀ vs H Q E,df Sd vs H Q E->vs.length=ps.length:=fun vs H Q E zz=>by obtain⟨O,ds,R,X,_,hr,hS,_⟩:=zz; rw[<- hr.length];exact hlen ds R X hS
theorem cL.nT(F:cL K x qual st f fd)(S:av N ps (defScope st))(hlen:∀ ds R X,Sd ds R X->ds.length=ps.length)(c7:∀(bC:Value) (A:sK) (outer:List Env) (s:Shared) (H:Hp) (E:XK),cT k (A.deeper (envOfC qual (defScope st) s.heap.objs.size f bC)) ->
   ∃ t,tR (eW cU P w K mg base N qual (defScope st) f bC A outer s H E).Ap (defBody st) t/\∀ O X,∃ d,LS ⟨K,kN,H,xo,O,E,X⟩ t d/\∀ ds R,Sd ds R X->d (MR R) (cf N (ds.map .im)) W0):ba P w K mg base cU (k+1) f fd ps (df Sd) :=
 F.Mn S (zj hlen) fun bC A outer s H vs Q E hr h=>by
  obtain⟨t,h1,h2⟩:=c7 bC A outer s H E hr;exact⟨t,h1,zi h h2⟩
theorem cL.QW(F:cL K x qual st f fd)(S:av N ps (defScope st))(hlen:∀ ds R X,Sd ds R X->ds.length=ps.length)(c7:∀(bC:Value) (A:sK) (outer:List Env) (s:Shared) (H:Hp) (E:XK),cT k (A.deeper (envOfC qual (defScope st) s.heap.objs.size f bC)) ->
   ∃ t,tR (eW (vY P w) P w K mg base N qual (defScope st) f bC A outer s H E) (defBody st) t/\∀ O X,∃ d,LS ⟨K,kN,H,xo,O,E,X⟩ t d/\∀ ds R,Sd ds R X->d (MR R) (cf N (ds.map .im)) W0):ba P w K mg base (vY P w) (k+1) f fd ps (df Sd) :=
 F.okX S (zj hlen) fun bC A outer s H vs Q E hr h=>by
  obtain⟨t,h1,h2⟩:=c7 bC A outer s H E hr;exact⟨t,h1,zi h h2⟩
end
def zk(f:Wd->DV->Option (PyData×Wd)):Prop:=∀{W W':Wd} {dv:DV} {d:PyData},f W dv=some (d,W')->∀ a,dO (W a)->W' a=W a
theorem i8{f:Wd->DV->Option (PyData×Wd)}(hf:zk f):∀{aK:List DV} {W W':Wd} {ds:wE},iC f W aK=some (ds,W')->∀ a,dO (W a)->W' a=W a
 | [],W,_,_,e,a,_=>by cases e;rfl
 | d::r,W,W',ds,e,a,ht=>by
  unfold iC at e;cases q:f W d with
  | none=>rw[q]at e;cases e
  | some dw =>
   obtain⟨d',W1⟩:=dw;rw[q]at e;cases q2:iC f W1 r with
   | none=>simp[q2]at e
   | some Va =>
    obtain⟨B4,W2⟩:=Va;simp[q2]at e;obtain⟨e3,e4⟩:=e;subst e3 e4;have h1:=hf q a ht;rw[i8 hf q2 a (by rw[h1];exact ht),h1]
theorem nU:∀ n:Nat,zk (ku n)
 | n,W,W',.im d',d,e,a,ht=>by
  have e':(d',W)=(d,W'):=by cases n<;>exact aa5 e
  cases e';rfl
 | 0,_,_,.pt p,_,e,_,_=>by cases e
 | n+1,W,W',.pt p,d,e,a,ht=>by
  unfold ku at e;cases q:W p with
  | none=>rw[q]at e;cases e
  | some c =>
   rw[q]at e;cases c with
   | lst ys =>
    cases q2:iC (ku n) (rP W p) ys with
    | none=>simp[q2]at e
    | some dw =>
     obtain⟨ds,W1⟩:=dw;simp[q2]at e;obtain⟨e3,e4⟩:=e;subst e3 e4;have ap:a≠p:=fun z=>by rw[z,q]at ht;exact ht
     rw[i8 (nU n) q2 a (by rw[gX ap];exact ht),gX ap]
   | aE _ _=>cases e
   | part=>cases e
   | dk _=>cases e
   | dt _=>cases e
   | ob _ _ _=>cases e
 | 0,_,_,.cst _,_,e,_,_=>by cases e
 | n+1,_,_,.cst _,_,e,_,_=>by cases e
 | 0,_,_,.rf _,_,e,_,_=>by cases e
 | n+1,_,_,.rf _,_,e,_,_=>by cases e
 | 0,_,_,.ty _,_,e,_,_=>by cases e
 | n+1,_,_,.ty _,_,e,_,_=>by cases e
 | 0,_,_,.xh _,_,e,_,_=>by cases e
 | n+1,_,_,.xh _,_,e,_,_=>by cases e
 | 0,_,_,.raw _,_,e,_,_=>by cases e
 | n+1,_,_,.raw _,_,e,_,_=>by cases e
 | 0,_,_,.jh _,_,e,_,_=>by cases e
 | n+1,_,_,.jh _,_,e,_,_=>by cases e
 | 0,_,_,.tp _,_,e,_,_=>by cases e
 | n+1,_,_,.tp _,_,e,_,_=>by cases e
abbrev uH:=Nat->wE->(Res->Nat->Prop)->Prop
def spT(Rs:Hp->Addr->Addr->Nat->Prop)(S:uH):Sp:=fun vs H Q _=>∃(t g:Addr) (n:Nat) (A2:List V) (O:Addr->Prop) (ds:wE) (R:Res->Nat->Prop),vs=.ref t::A2/\Rs H t g n/\g≠t/\(∀ a,O a->H a≠none)/\¬ O t/\¬ O g /\
 ak (hide (fun a=>O a\/a=t\/a=g) H) ds A2/\S n ds R/\∀ r n' v H',R r n'->Kp t g H H'->Rs H' t g n'->zg (fun a=>O a\/a=t\/a=g) H H' r v->Q v H'
def uI(S:uH):List DV->Wd->DK->Prop:=fun as W Q=>∃ t g n Tv,as=.pt t::Tv/\W t=some (.aE g n) /\
 ((∃ ds,eR (dat 4 W) Tv=some ds/\S n ds fun r n'=>Tu r=true/\jk (aH W t (.aE g n')) Q r)\/∃ ds W1,iC (ku 4) W Tv=some (ds,W1)/\W1 t=some (.aE g n)/\S n ds fun r n'=>jk (aH W1 t (.aE g n')) Q r)
section
variable {Q:VK}
theorem A7{b:Addr}{d:Cell}(h:a≠b):aH (aH W a c) b d=aH (aH W b d) a c:=by
 funext z;unfold aH
 by_cases h1:z=b
 ·subst h1;rw[aaN rfl,aaD (abi h),aaN rfl]
 ·rw[aaD h1];by_cases h2:z=a
  ·rw[aaN h2,aaN h2]
  ·rw[aaD h2,aaD h2,aaD h1]
theorem DR.Kj{n':Nat}{aK:List DV}(D:DR C σ H ρ W)(e:W t=some (.aE g n))(k:Kp t g H H')(r:C.Rs H' t g n')(hp:H p=none)(rX:H' p=some (.lst xs))(rx:aD C (Fz C (aH (aH W t (.aE g n')) p (.lst aK)) H') aK xs):DR C σ H' ρ (aH (aH W t (.aE g n')) p (.lst aK))/\aM (Fz C W H) (Fz C (aH (aH W t (.aE g n')) p (.lst aK)) H'):=by
 obtain⟨_,eg,uq⟩:=(D.ce t _ e).2.2;have pt:p≠t:=fun z=>D.there e (by rw[<- z];exact hp);have pg:p≠g:=fun z=>D.there eg (by rw[<- z];exact hp);have gt:g≠t:=fun z=>by rw[z,e]at eg;cases eg
 obtain⟨D1,s1⟩:=D.kp e k r;have keep:∀ a,a≠t->a≠g->H a≠none->H' a=H a:=fun a h1 h2 h=>by
  cases q:H a with
  | none=>exact absurd q h
  | some o=>exact k a o q h1 h2
 refine D.step (fun a z=>?_) (fun a u q w'=>?_) (fun a ha=>?_) fun s q c e'=>?_
 ·by_cases hq:a=p
  ·exact .inr (by rw[hq];exact hp)
  ·rw[aw hq]at z
   by_cases hq:a=t
   ·exact .inl (by rw[hq,e];rfl)
   ·rw[aw hq]at z;exact .inl z
 ·exact k a u q (fun z=>by rw[z,e]at w';cases w') (fun z=>by rw[z,eg]at w';cases w')
 ·by_cases h1:a=t
  ·rw[h1];exact(D.ok.rn r).1.ne
  by_cases h2:a=g
  ·rw[h2];exact(D.ok.rn r).2.ne
  rw[keep a h1 h2 ha];exact ha
 ·by_cases hq:q=p
  ·subst hq;rw[aq]at e';cases e';exact⟨.inl (D.J6 hp),D.nO hp,xs,rX,rx⟩
  ·rw[aw hq]at e'
   by_cases Kk:q=t
   ·subst Kk;rw[aq]at e';cases e';refine⟨(D.ce q _ e).1,(D.ce q _ e).2.1,r,by rw[aw (abi pg),aw gt];exact eg,fun t' g' m z=>?_⟩
    by_cases ht:t'=p
    ·subst ht;rw[aq]at z;cases z
    ·rw[aw ht]at z
     by_cases ht:t'=q
     ·exact ht
     ·rw[aw ht]at z;exact uq t' g' m z
   ·rw[aw Kk]at e';obtain⟨AZ,h2,h3⟩:=D.ce q c e';refine⟨AZ,h2,?_⟩
    by_cases A0:q=g
    ·subst A0;rw[eg]at e';cases e';exact(D.ok.rn r).2
    ·cases c with
     | aE g2 n2=>exact absurd (uq q g2 n2 e') Kk
     | part=>show Mu (H' q);rw[keep q Kk A0 (D.there e')];exact h3
     | lst ds=>obtain⟨xs,z,rr⟩:=h3;exact⟨xs,k q _ z Kk A0,rr.mono s⟩
     | dk ds=>obtain⟨xs,z,kk,rr⟩:=h3;exact⟨xs,k q _ z Kk A0,kk,rr.mono s⟩
     | dt ds=>obtain⟨xs,z,kk,rr⟩:=h3;exact⟨xs,k q _ z Kk A0,kk,rr.mono s⟩
     | ob _ _ ds=>obtain⟨xs,z,kk,rr⟩:=h3;exact⟨xs,k q _ z Kk A0,kk,rr.mono s⟩
theorem HR{S:uH}(D:DR C σ H ρ W)(h:aD C (Fz C W H) as xs)(hd:uI S as W Qd)(k:KE C σ ρ W H Qd Q):spT C.Rs S xs H Q E:=by
 obtain⟨t,g,n,Tv,rfl,et,hd⟩:=hd;obtain⟨y,ys,rfl,hy,Yh⟩:=h;cases hy;have main:∀(W:Wd) (O:Addr->Prop) (ds:wE) (R:Res->Nat->Prop),DR C σ H ρ W->W t=some (.aE g n)->(∀ a,O a->H a≠none)->¬ O t->¬ O g->ak (hide (fun a=>O a\/a=t\/a=g) H) ds ys->S n ds R ->
   (∀ r n' v H',R r n'->Kp t g H H'->C.Rs H' t g n'->zg (fun a=>O a\/a=t\/a=g) H H' r v->Q v H')->spT C.Rs S (.ref t::ys) H Q E:=fun W O ds R D et ho h1 h2 hr hS hR=>by
  obtain⟨_,nO,xp,eg,uq⟩:=D.ce t _ et;have gt:g≠t:=fun z=>by rw[z,et]at eg;cases eg
  exact⟨t,g,n,ys,O,ds,R,rfl,xp,gt,ho,h1,h2,hr,hS,hR⟩
 have small:∀(W:Wd),DR C σ H ρ W->W t=some (.aE g n)->∀ H1:Hp,aM (hide (fun a=>C.O a\/dO (W a)) H1) (hide (fun a=>C.O a\/a=t\/a=g) H1):=fun W D et H1 a o e=>by
  obtain⟨_,eg,_⟩:=(D.ce t _ et).2.2;obtain⟨h1,h2⟩:=au.mp e;refine au.mpr ⟨fun z=>h1 ?_,h2⟩;rcases z with z | z | z
  ·exact .inl z
  ·exact .inr (by rw[z,et];trivial)
  ·exact .inr (by rw[z,eg];trivial)
 rcases hd with⟨ds,e,hS⟩ | ⟨ds,W1,e,Kl,hS⟩
 ·obtain⟨_,nO,aaa,eg0,_⟩:=D.ce t _ et;refine main W C.O ds _ D et D.ho nO (D.ce g _ eg0).2.1 (ak.same (small W D et H) (fU (fun dv x d h e=>D.dat 4 h e) Yh e)) hS fun r n' v H' hr kp xp hv=>?_;obtain⟨D1,s1⟩:=D.kp et kp xp;cases r with
  | im d=>exact k _ (.im d) _ _ D1 s1 (Rep.tp (D1.tp fun a ha=>.inl ha) hr.1 hv) hr.2
  | nw es =>
   obtain⟨p,zs,rfl,hp,rX,rr⟩:=hv;have base:ak (Fz C (aH W t (.aE g n')) H') es zs:=ak.tp (D1.tp fun a ha=>.inl (.inl ha)) hr.1 rr;have DM:Tp (Fz C (aH W t (.aE g n')) H') (Fz C (aH (aH W t (.aE g n')) p (.lst (es.map .im))) H'):=fun b zs e=>by
    obtain⟨h1,h2⟩:=au.mp e;have nb:b≠p:=fun z=>by rw[z,rX]at h2;cases h2
    refine au.mpr ⟨fun z=>h1 (z.elim .inl fun z=>.inr ?_),h2⟩;rw[aw nb]at z;exact z
   have QX:aH W t (.aE g n') p=none:=by rw[aw (fun z=>D.there et (by rw[<- z];exact hp))];exact D.fresh hp
   rcases hr.2 with h2 | h2
   ·obtain⟨D2,s2⟩:=D.Kj et kp xp hp rX (.fi (ak.tp DM hr.1 base));exact k _ (.pt p) _ _ D2 s2 rfl (h2 p QX)
   ·exact k _ (.im (.list es)) _ _ D1 s1 ⟨p,zs,rfl,au.mpr ⟨(fun z=>z.elim (D.nO hp) (fun z=>by rw[QX]at z;cases z)),rX⟩,base⟩ h2
 ·obtain⟨D1,s1,r1,k1⟩:=gu (ju 4) D Yh e;obtain⟨_,_,_,eg,_⟩:=D1.ce t _ Kl;have sub:∀ H1:Hp,aM (Fz C W1 H1) (hide (fun a=>(C.O a\/((W1 a).isSome=true/\a≠t/\a≠g))\/a=t\/a=g) H1):=fun H1 a o e=>by
   obtain⟨h1,h2⟩:=au.mp e;refine au.mpr ⟨fun z=>h1 ?_,h2⟩;rcases z with(z | z) | z | z
   ·exact .inl z
   ·exact .inr z.1
   ·exact .inr (by rw[z,Kl];rfl)
   ·exact .inr (by rw[z,eg];rfl)
  refine main W1 (fun a=>C.O a\/((W1 a).isSome=true/\a≠t/\a≠g)) ds _ D1 Kl (fun a ha=>?_) (fun z=>?_) (fun z=>?_) (ak.same (sub H) r1) hS fun r n' v H' hr kp xp hv=>?_
  ·rcases ha with ha | ⟨ha,_⟩
   ·exact D1.ho a ha
   ·cases q:W1 a with
    | none=>rw[q]at ha;cases ha
    | some c=>exact D1.there q
  ·rcases z with z | z
   ·exact(D1.ce t _ Kl).2.1 z
   ·exact z.2.1 rfl
  ·rcases z with z | z
   ·exact(D1.ce g _ eg).2.1 z
   ·exact z.2.2 rfl
  ·obtain⟨D2,s2⟩:=D1.kp Kl kp xp;have sup:∀ W2:Wd,(∀ a,(W2 a).isSome=true->(W1 a).isSome=true)->aM (hide (fun a=>(C.O a\/((W1 a).isSome=true/\a≠t/\a≠g))\/a=t\/a=g) H') (Fz C W2 H'):=fun W2 hw a o e=>by
    obtain⟨h1,h2⟩:=au.mp e;refine au.mpr ⟨fun z=>h1 ?_,h2⟩;rcases z with z | z
    ·exact .inl (.inl z)
    ·by_cases ht:a=t
     ·exact .inr (.inl ht)
     by_cases hg:a=g
     ·exact .inr (.inr hg)
     exact .inl (.inr ⟨hw a z,ht,hg⟩)
   have hw:∀ a,(aH W1 t (.aE g n') a).isSome=true->(W1 a).isSome=true:=fun a z=>by
    by_cases ht:a=t
    ·rw[ht,Kl];rfl
    ·rw[aw ht]at z;exact z
   cases r with
   | im d=>exact k _ (.im d) _ _ D2 (s1.trans s2) (Rep.same (sup _ hw) hv) hr
   | nw es =>
    obtain⟨p,zs,rfl,hp,rX,rr⟩:=hv;have Vn:aM (hide (fun a=>((C.O a\/((W1 a).isSome=true/\a≠t/\a≠g))\/a=t\/a=g)\/a=p) H') (Fz C (aH (aH W1 t (.aE g n')) p (.lst (es.map .im))) H'):=fun a o e=>by
     obtain⟨h1,h2⟩:=au.mp e;refine au.mpr ⟨fun z=>h1 ?_,h2⟩;rcases z with z | z
     ·exact .inl (.inl (.inl z))
     ·by_cases ha:a=p
      ·exact .inr ha
      ·rw[aw ha]at z
       by_cases ht:a=t
       ·exact .inl (.inr (.inl ht))
       by_cases hg:a=g
       ·exact .inl (.inr (.inr hg))
       exact .inl (.inl (.inr ⟨hw a z,ht,hg⟩))
    have QX:aH W1 t (.aE g n') p=none:=by rw[aw (fun z=>D1.there Kl (by rw[<- z];exact hp))];exact D1.fresh hp
    rcases hr with h2 | h2
    ·obtain⟨D3,s3⟩:=D1.Kj Kl kp xp hp rX (.fi (ak.same Vn rr));exact k _ (.pt p) _ _ D3 (s1.trans s3) rfl (h2 p QX)
    ·refine k _ (.im (.list es)) _ _ D2 (s1.trans s2) ⟨p,zs,rfl,au.mpr ⟨(fun z=>z.elim (D1.nO hp) (fun z=>by rw[QX]at z;cases z)),rX⟩,ak.same (fun a o e=>?_) rr⟩ h2;obtain⟨g1,g2⟩:=au.mp e;exact sup _ hw a o (au.mpr ⟨fun z=>g1 (.inl z),g2⟩)
instance {Rs:Hp->Addr->Addr->Nat->Prop}[hs:HE C Rs]{S:uH}{E:XK}:HP C (spT Rs S) E (uI S):=by
 obtain⟨rfl⟩:=hs;exact⟨fun D h hd k=>HR D h hd k⟩
def WT(t g:Addr)(n:Nat):Wd:=aH (aH W0 g .part) t (.aE g n)
def QY(t g:Addr)(R:Res->Nat->Prop):gw:=⟨fun _ W=>∃ n,W t=some (.aE g n)/\R (.im .none) n,fun dv W=>∃ n,W t=some (.aE g n)/\HQ W (fun r=>R r n) dv,fun _ _=>False,fun _ _=>False⟩
end
structure xq(Rs:Hp->Addr->Addr->Nat->Prop):Prop where
 rs:∀{H H':Hp} {t g:Addr} {n:Nat},Rs H t g n->H' t=H t->H' g=H g->Rs H' t g n
 rn:∀{H:Hp} {t g:Addr} {n:Nat},Rs H t g n->Mu (H t)/\Mu (H g)
section
variable {K:zn}{Sd:uH}{Rs:Hp->Addr->Addr->Nat->Prop}
theorem DN{vs:List V}{Q:VK}{t:TS}(ok:xq Rs)(h:spT Rs Sd vs H Q E)(hb:∀ a g O,∃ d,LS ⟨K,Rs,H,fun z=>z=a\/z=g,O,E,fun _=>False⟩ t d/\∀ n ds R,Sd n ds R->d (QY a g R) (cf N (.pt a::ds.map .im)) (WT a g n)):t { nx:=fun _ H'=>Q .cS H',rt:=Q } (start N vs) H:=by
 obtain⟨a,g,n,A2,O,ds,R,rfl,xp,gt,hO,nt,ng,hr,hS,hR⟩:=h;obtain⟨d,hd,hb⟩:=hb a g O;have Wg:WT a g n g=some .part:=by unfold WT;rw[aw gt];exact aq
 have Wa:WT a g n a=some (.aE g n):=aq;have Wz:∀ z c,WT a g n z=some c->z=a\/z=g:=fun z c e=>by
  unfold WT at e
  by_cases h1:z=a
  ·exact .inl h1
  ·rw[aw h1]at e
   by_cases h2:z=g
   ·exact .inr h2
   ·rw[aw h2]at e;cases e
 have fz:∀ H1,aM (hide (fun z=>O z\/z=a\/z=g) H1) (Fz ⟨K,Rs,H,fun z=>z=a\/z=g,O,E,fun _=>False⟩ (WT a g n) H1):=fun H1 b o e=>by
  obtain⟨h1,h2⟩:=au.mp e;refine au.mpr ⟨fun z=>h1 ?_,h2⟩;rcases z with z | z
  ·exact .inl z
  ·cases q:WT a g n b with
   | none=>rw[q]at z;cases z
   | some c=>exact .inr (Wz b c q)
 have D:DR ⟨K,Rs,H,fun z=>z=a\/z=g,O,E,fun _=>False⟩ (start N (.ref a::A2)) H (cf N (.pt a::ds.map .im)) (WT a g n):=by
  refine⟨⟨ok.rs,ok.rn,fun c hc=>hc.elim⟩,fun b o e _=>e,hO,fun b z=>?_,?_,fun p c e=>?_⟩
  ·rcases z with z | z
   ·rw[z];exact(ok.rn xp).1.ne
   ·rw[z];exact(ok.rn xp).2.ne
  ·have va:aD ⟨K,Rs,H,fun z=>z=a\/z=g,O,E,fun _=>False⟩ (Fz ⟨K,Rs,H,fun z=>z=a\/z=g,O,E,fun _=>False⟩ (WT a g n) H) (.pt a::ds.map .im) (.ref a::A2):=⟨_,_,rfl,rfl,(aD.fi hr).mono (fz H)⟩;unfold start cf;rw[va.length];exact Slots.start _ va
  ·rcases Wz p c e with z | z
   ·subst z;rw[Wa]at e;cases e;refine⟨.inr (.inl rfl),nt,xp,Wg,fun t' g' n' z=>?_⟩;rcases Wz t' _ z with q | q
    ·exact q
    ·rw[q,Wg]at z;cases z
   ·subst z;rw[Wg]at e;cases e;exact⟨.inr (.inr rfl),ng,(ok.rn xp).2⟩
 have fin:∀ bB H' bZ W' n',DR ⟨K,Rs,H,fun z=>z=a\/z=g,O,E,fun _=>False⟩ bB H' bZ W'->W' a=some (.aE g n')->Kp a g H H'/\Rs H' a g n':=fun bB H' bZ W' n' D' e =>
  ⟨fun b o q h1 h2=>D'.fr b o q (fun z=>z.elim h1 h2),(D'.ce a _ e).2.2.1⟩
 refine hd.go D (hb n ds R hS) ⟨fun bB H' bZ W' D' s q=>?_,fun bB H' bZ W' D' s q=>q.elim,fun bB H' bZ W' D' s q=>q.elim,fun x dv bB H' bZ W' D' s v q=>?_⟩
 ·obtain⟨n',e,q⟩:=q;obtain⟨h1,h2⟩:=fin bB H' bZ W' n' D' e;exact hR (.im .none) n' .cS H' q h1 h2 rfl
 ·obtain⟨n',e,q⟩:=q;obtain⟨h1,h2⟩:=fin bB H' bZ W' n' D' e;have Tw:W' g=some .part:=(D'.ce a _ e).2.2.2.1;cases dv with
  | im d =>
   refine hR (.im d) n' x H' q h1 h2 (Rep.same (fun b o e2=>?_) v);obtain⟨g1,g2⟩:=au.mp e2;refine au.mpr ⟨fun z=>g1 ?_,g2⟩;rcases z with z | z | z
   ·exact .inl z
   ·exact .inr (by rw[z,e];rfl)
   ·exact .inr (by rw[z,Tw];rfl)
  | pt p =>
   obtain⟨us,es,W2,e1,ef,hs,HS⟩:=q;obtain⟨h0,hO2,xs,hx,rx⟩:=D'.ce p _ e1;have pa:p≠a:=fun z=>by rw[z,e]at e1;cases e1
   have pg:p≠g:=fun z=>by rw[z,Tw]at e1;cases e1
   obtain⟨D2,s2,r2,_⟩:=gu (ju 3) D' rx ef;have Yi:(W2 a).isSome=true/\(W2 g).isSome=true:=by
    have q1:=i8 (nU 3) ef a (by rw[e];trivial);have q2:=i8 (nU 3) ef g (by rw[Tw];trivial);rw[q1,q2,e,Tw];exact⟨rfl,rfl⟩
   refine hR (.nw es) n' x H' HS h1 h2 ⟨p,xs,v,h0.elim id fun z=>z.elim (fun z=>absurd z pa) fun z=>absurd z pg,hx,ak.same (fun b o q=>?_) r2⟩;obtain⟨g1,g2⟩:=au.mp q;refine au.mpr ⟨fun z=>g1 ?_,g2⟩;rcases z with(z | z | z) | z
   ·exact .inl z
   ·exact .inr (by rw[z];exact Yi.1)
   ·exact .inr (by rw[z];exact Yi.2)
   ·exact .inr (by rw[z];exact hs)
  | _=>exact q.elim
theorem zl{m:Nat}(hm:ps.length=m+1)(hlen:∀ n ds R,Sd n ds R->ds.length=m):∀ vs H Q E,spT Rs Sd vs H Q E->vs.length=ps.length:=fun vs H Q E zz=>by obtain⟨t,g,n,A2,O,ds,R,e,_,_,_,_,_,hr,hS,_⟩:=zz; rw[e,aaV,<- hr.length,hlen n ds R hS,hm]
theorem cL.Km(F:cL K x qual st f fd)(S:av N ps (defScope st))(ok:xq Rs){m:Nat}(hm:ps.length=m+1)(hlen:∀ n ds R,Sd n ds R->ds.length=m)(c7:∀(bC:Value) (A:sK) (outer:List Env) (s:Shared) (H:Hp) (E:XK),cT k (A.deeper (envOfC qual (defScope st) s.heap.objs.size f bC)) ->
   ∃ t,tR (eW cU P w K mg base N qual (defScope st) f bC A outer s H E).Ap (defBody st) t/\∀ a g O,∃ d,LS ⟨K,Rs,H,fun z=>z=a\/z=g,O,E,fun _=>False⟩ t d/\∀ n ds R,Sd n ds R->d (QY a g R) (cf N (.pt a::ds.map .im)) (WT a g n)):ba P w K mg base cU (k+1) f fd ps (spT Rs Sd) :=
 F.Mn S (zl hm hlen) fun bC A outer s H vs Q E hr h=>by
  obtain⟨t,h1,h2⟩:=c7 bC A outer s H E hr;exact⟨t,h1,DN ok h h2⟩
end
def DO(K:zn):Sp:=fun vs H Q _=>∃(a:Addr) (ns:wn),vs=[.ref a]/\eE K H a (ns.map V.int)/\ns.length<=63/\∀ H',Q (.bl true) H'
def Vo:gw:=⟨fun _ _=>False,fun dv _=>dv=.im (.bool true),fun _ _=>False,fun _ _=>False⟩
section
variable {K:zn}{p:Str}{Rs:Hp->Addr->Addr->Nat->Prop}
theorem Vp{X:Addr->Prop}{H1:Hp}{T:Addr->Prop}:Fz ⟨K,Rs,H,T,xo,E,X⟩ W0 H1=H1:=by
 funext a;unfold Fz hide;rw[aaD (by rintro(z | z);exact z;cases z)]
theorem qk(ok:xq Rs)(h:eE K H a (ns.map V.int)):DR ⟨K,Rs,H,xo,xo,E,fun _=>False⟩ (start N [.ref a]) H (cf N [.jh ns]) W0:=by
 refine⟨⟨ok.rs,ok.rn,fun c hc=>hc.elim⟩,fun a o e _=>e,fun a z=>z.elim,fun a z=>z.elim,?_,fun p c e=>by cases e⟩;rw[Vp];have va:aD ⟨K,Rs,H,xo,xo,E,fun _=>False⟩ H [.jh ns] [.ref a]:=⟨_,_,rfl,⟨a,rfl,h⟩,rfl⟩;unfold start cf;exact Slots.start _ va
theorem cL.QZ(F:cL K x qual st f fd)(S:av N [p] (defScope st))(ok:xq Rs)(c7:∀(bC:Value) (A:sK) (outer:List Env) (s:Shared) (H:Hp) (E:XK),cT k (A.deeper (envOfC qual (defScope st) s.heap.objs.size f bC)) ->
   ∃ t,tR (eW cU P w K mg base N qual (defScope st) f bC A outer s H E).Ap (defBody st) t/\∃ d,LS ⟨K,Rs,H,xo,xo,E,fun _=>False⟩ t d/\∀ ns,ns.length<=63->d Vo (cf N [.jh ns]) W0):ba P w K mg base cU (k+1) f fd [p] (DO K) :=
 F.Mn S (fun vs H Q E zz=>by obtain⟨a,ns,e,_⟩:=zz; rw[e];rfl) fun bC A outer s H vs Q E hr h=>by
  obtain⟨a,ns,rfl,hS,HU,q⟩:=h;obtain⟨t,h1,d,hd,hb⟩:=c7 bC A outer s H E hr;refine⟨t,h1,hd.go (qk ok hS) (hb ns HU) ⟨fun bB H' bZ W' D' s q=>q.elim,fun bB H' bZ W' D' s q=>q.elim,fun bB H' bZ W' D' s q=>q.elim,fun x dv bB H' bZ W' D' s v e=>?_⟩⟩;rw[show dv=.im (.bool true) from e]at v;rw[show x=.bl true from v];exact q H'
end
def HV:DV->Option V
 | .im (.int i)=>some (.int i)
 | .pt p=>some (.ref p)
 | _=>none
def iQ:List DV->Option (List V)
 | []=>some []
 | x::r=>(HV x).bind fun v=>(iQ r).map (v::·)
def zm(H:Hp)(t:Addr):Cell->Prop
 | .lst aK=>∃ xs,iQ aK=some xs/\H t=some (.lst xs)
 | .dk bO=>∃ xs,iQ (bO.map (·.2))=some xs/\H t=some (.dK ((bO.map (·.1)).zip xs))
 | _=>False
def cV(Iv:Addr->Nat->Cell->wn->Prop):Hp->Addr->Addr->Nat->Prop:=fun H t g n=>∃ c gs,Iv g n c gs/\zm H t c/\H g=some (.lst (gs.map V.int))
theorem dY{Iv:Addr->Nat->Cell->wn->Prop}:xq (cV Iv) where
 rs:=fun⟨c,gs,h1,h2,h3⟩ e1 e2=>by
  refine⟨c,gs,h1,?_,by rw[e2];exact h3⟩;cases c with
  | lst aK=>obtain⟨xs,a,b⟩:=h2;exact⟨xs,a,by rw[e1];exact b⟩
  | dk bO=>obtain⟨xs,a,b⟩:=h2;exact⟨xs,a,by rw[e1];exact b⟩
  | _=>exact h2.elim
 rn:=fun⟨c,gs,h1,h2,h3⟩=>by
  refine⟨?_,_,h3,fun _ z=>nomatch z⟩;cases c with
  | lst aK=>obtain⟨xs,a,b⟩:=h2;exact⟨_,b,fun _ z=>nomatch z⟩
  | dk bO=>obtain⟨xs,a,b⟩:=h2;exact⟨_,b,fun _ z=>nomatch z⟩
  | _=>exact h2.elim
theorem HW{v:V}:∀{dv:DV},HV dv=some v->dX C F dv v
 | .im (.int i),e=>by cases e;exact rfl
 | .pt p,e=>by cases e;exact rfl
 | .im .none,e=>by cases e
 | .im (.bool _),e=>by cases e
 | .im (.str _),e=>by cases e
 | .im (.list _),e=>by cases e
 | .im (.tuple _),e=>by cases e
 | .im (.dict _),e=>by cases e
 | .cst _,e=>by cases e
 | .rf _,e=>by cases e
 | .ty _,e=>by cases e
 | .xh _,e=>by cases e
 | .raw _,e=>by cases e
 | .jh _,e=>by cases e
 | .tp _,e=>by cases e
theorem nV:∀{aK:List DV} {xs:List V},iQ aK=some xs->aD C F aK xs
 | [],_,e=>by cases e;exact rfl
 | d::r,xs,e=>by
  unfold iQ at e;cases q:HV d with
  | none=>rw[q]at e;cases e
  | some v =>
   rw[q]at e;cases q2:iQ r with
   | none=>simp[q2]at e
   | some vs=>simp[q2]at e;subst e;exact⟨v,vs,rfl,HW q,nV q2⟩
theorem kO:∀{aK:List DV} {xs ys:List V},iQ aK=some xs->aD C F aK ys->ys=xs
 | [],_,_,e,h=>by cases e;exact h
 | d::r,xs,ys,e,⟨y,zs,e1,h,hr⟩=>by
  unfold iQ at e;cases q:HV d with
  | none=>rw[q]at e;cases e
  | some v =>
   rw[q]at e;cases q2:iQ r with
   | none=>simp[q2]at e
   | some vs =>
    simp[q2]at e;subst e;rw[e1,kO q2 hr];have:y=v:=by
     cases d with
     | im dd=>cases dd with
      | int i=>cases q;exact h
      | _=>cases q
     | pt p=>cases q;exact h
     | _=>cases q
    rw[this]
def DP:Cell->Bool
 | .lst aK=>(iQ aK).isSome
 | .dk bO=>(iQ (bO.map (·.2))).isSome
 | _=>false
abbrev fj(gs:wn):List DV:=gs.map fun z=>.im (.int z)
theorem DQ{κ:Type}:∀{l:List (κ×V)} {ks:List κ} {xs:List V},l.map (·.1)=ks->l.map (·.2)=xs->l=ks.zip xs
 | [],_,_,e1,e2=>by subst e1 e2;rfl
 | (k,v)::r,_,_,e1,e2=>by subst e1 e2;rw[aaZ,aaZ,List.zip_cons_cons,<- DQ rfl rfl]
section
variable {Q:VK}
theorem bP.raw(h:bP C W H t c)(hr:DP c=true):zm H t c:=by
 cases c with
 | lst aK =>
  obtain⟨xs,e,v⟩:=h;obtain⟨ys,hy⟩:=abC.mp hr;rw[kO hy v]at e;exact⟨ys,hy,e⟩
 | dk bO =>
  obtain⟨ks,e,hk,v⟩:=h;obtain⟨ys,hy⟩:=abC.mp hr;refine⟨ys,hy,?_⟩;rw[e,DQ hk (kO hy v)]
 | _=>cases hr
theorem zm.cell(h:zm H t c):bP C W H t c:=by
 cases c with
 | lst aK=>obtain⟨xs,e1,e2⟩:=h;exact⟨xs,e2,nV e1⟩
 | dk bO =>
  obtain⟨xs,e1,e2⟩:=h;have v:aD C (Fz C W H) (bO.map (·.2)) xs:=nV e1;have hl:(bO.map (·.1)).length=xs.length:=by rw[<- v.length,aal,aal]
  refine⟨_,e2,?_,?_⟩
  ·rw[List.map_fst_zip];omega
  ·rw[adT];exact v;omega
 | _=>exact h.elim
theorem ql{gs:wn}(h:aD C F (fj gs) xs):xs=gs.map V.int:=by
 induction gs generalizing xs with
 | nil=>cases h;rfl
 | cons g r ih =>
  obtain⟨y,ys,e,h1,h2⟩:=h;rw[e,show y=.int g from h1,ih h2];rfl
theorem DR.MT(D:DR C σ H ρ W)(s:aM H H')(ht:H t=none)(hg:H g=none)(gt:g≠t)(r:C.Rs H' t g 0)(nt:∀ a,¬ dO (W a)):DR C σ H' ρ (aH (aH W g .part) t (.aE g 0))/\aM (Fz C W H) (Fz C (aH (aH W g .part) t (.aE g 0)) H'):=by
 refine D.step (fun a z=>?_) (fun a u e _=>s a u e) (rQ s) fun s' q c' e=>?_
 ·by_cases h1:a=t
  ·exact .inr (by rw[h1];exact ht)
  by_cases h2:a=g
  ·exact .inr (by rw[h2];exact hg)
  rw[aw h1,aw h2]at z;exact .inl z
 ·have uq:∀ t' g' n',aH (aH W g .part) t (.aE g 0) t'=some (.aE g' n')->t'=t:=fun t' g' n' z=>by
   by_cases h1:t'=t
   ·exact h1
   rw[aw h1]at z
   by_cases h2:t'=g
   ·rw[h2,aq]at z;cases z
   ·rw[aw h2]at z;exact absurd (by rw[z];trivial) (nt t')
  by_cases h1:q=t
  ·subst h1;rw[aq]at e;cases e;exact⟨.inl (D.J6 ht),D.nO ht,r,by rw[aw gt];exact aq,uq⟩
  rw[aw h1]at e
  by_cases h2:q=g
  ·subst h2;rw[aq]at e;cases e;exact⟨.inl (D.J6 hg),D.nO hg,(D.ok.rn r).2⟩
  rw[aw h2]at e;obtain⟨g1,g2,g3⟩:=D.ce q c' e;refine⟨g1,g2,?_⟩;have hq:=gr s (D.there e);cases c' with
  | aE a b=>exact absurd (by rw[e];trivial) (nt q)
  | part=>exact absurd (by rw[e];trivial) (nt q)
  | lst ds=>obtain⟨xs,z,rr⟩:=g3;exact⟨xs,by rw[hq];exact z,rr.mono s'⟩
  | dk ds=>obtain⟨xs,z,kk,rr⟩:=g3;exact⟨xs,by rw[hq];exact z,kk,rr.mono s'⟩
  | dt ds=>obtain⟨xs,z,kk,rr⟩:=g3;exact⟨xs,by rw[hq];exact z,kk,rr.mono s'⟩
  | ob _ _ ds=>obtain⟨xs,z,kk,rr⟩:=g3;exact⟨xs,by rw[hq];exact z,kk,rr.mono s'⟩
def HX(K:zn)(Rs:Hp->Addr->Addr->Nat->Prop):Sp:=fun vs H Q _=>∃(a:Addr) (ns:wn),vs=[.ref a]/\eE K H a (ns.map V.int)/\ns.length<=63/\∀(t g:Addr) (H':Hp),aM H H'->H t=none->H g=none->g≠t->Rs H' t g 0->Q (.ref t) H'
def dMk:List DV->Wd->DK->Prop:=fun as W Q=>∃ ns,as=[.jh ns]/\ns.length<=63/\(∀ a,¬ dO (W a))/\∀ t g,W t=none->W g=none->g≠t->Q (.pt t) (aH (aH W g .part) t (.aE g 0))
instance {K:zn}[hk:lO C K]{Rs:Hp->Addr->Addr->Nat->Prop}[hs:HE C Rs]{E:XK}:HP C (HX K Rs) E dMk:=by
 obtain⟨rfl⟩:=hk;obtain⟨rfl⟩:=hs;exact⟨fun D h hd k=>by
 obtain⟨ns,rfl,HU,nt,q⟩:=hd;obtain⟨x,rfl,hx⟩:=h.cY;obtain⟨a,rfl,ha⟩:=hx;exact⟨a,ns,rfl,Fz.sm.seq ha,HU,fun t g H' s ht hg gt r=>k.to (dv:=.pt t) (D.MT s ht hg gt r nt) rfl (q t g (D.fresh ht) (D.fresh hg) gt)⟩⟩
end
def mkE(Iv:Addr->Nat->Cell->wn->Prop):gw:=⟨fun _ _=>False,fun dv W=>∃ t g c gs,dv=.pt t/\W t=some c/\W g=some (.lst (fj gs))/\g≠t/\Iv g 0 c gs/\DP c=true,fun _ _=>False,fun _ _=>False⟩
def opE(Iv:Addr->Nat->Cell->wn->Prop)(a g:Addr)(R:Res->Nat->Prop):gw:=⟨fun _ _=>False,fun dv W=>∃ n c gs i,dv=.im (.int i)/\W a=some c/\W g=some (.lst (fj gs))/\Iv g n c gs/\DP c=true/\R (.im (.int i)) n,fun _ _=>False,fun _ _=>False⟩
def WO(a g:Addr)(c:Cell)(gs:wn):Wd:=aH (aH W0 g (.lst (fj gs))) a c
section
variable {K:zn}{p:Str}{Iv:Addr->Nat->Cell->wn->Prop}{Sd:uH}
theorem cL.Vq(F:cL K x qual st f fd)(S:av N [p] (defScope st))(c7:∀(bC:Value) (A:sK) (outer:List Env) (s:Shared) (H:Hp) (E:XK),cT k (A.deeper (envOfC qual (defScope st) s.heap.objs.size f bC)) ->
   ∃ t,tR (eW cU P w K mg base N qual (defScope st) f bC A outer s H E).Ap (defBody st) t/\∃ d,LS ⟨K,kN,H,xo,xo,E,fun _=>False⟩ t d/\∀ ns,ns.length<=63->d (mkE Iv) (cf N [.jh ns]) W0):ba P w K mg base cU (k+1) f fd [p] (HX K (cV Iv)) :=
 F.Mn S (fun vs H Q E zz=>by obtain⟨a,ns,e,_⟩:=zz; rw[e];rfl) fun bC A outer s H vs Q E hr h=>by
  obtain⟨a,ns,rfl,hS,HU,q⟩:=h;obtain⟨t,h1,d,hd,hb⟩:=c7 bC A outer s H E hr;refine⟨t,h1,hd.go (qk ⟨fun z=>z.elim,fun z=>z.elim⟩ hS) (hb ns HU) ⟨fun bB H' bZ W' D' s q=>q.elim,fun bB H' bZ W' D' s q=>q.elim,fun bB H' bZ W' D' s q=>q.elim,fun x dv bB H' bZ W' D' s v e=>?_⟩⟩;obtain⟨t,g,c,gs,rfl,e1,e2,gt,hI,hr⟩:=e;cases (show x=.ref t from v);obtain⟨z1,_,c1⟩:=D'.ce t c e1;obtain⟨z2,_,xs,c2,c3⟩:=D'.ce g _ e2;rw[ql c3]at c2;exact q t g H' (fun a o e=>D'.fr a o e (fun z=>z)) (z1.elim id fun z=>z.elim) (z2.elim id fun z=>z.elim) gt ⟨c,gs,hI,c1.raw hr,c2⟩
theorem cL.okO(F:cL K x qual st f fd)(S:av N ps (defScope st)){m:Nat}(hm:ps.length=m+1)(hlen:∀ n ds R,Sd n ds R->ds.length=m)(c7:∀(bC:Value) (A:sK) (outer:List Env) (s:Shared) (H:Hp) (E:XK),cT k (A.deeper (envOfC qual (defScope st) s.heap.objs.size f bC)) ->
   ∃ t,tR (eW cU P w K mg base N qual (defScope st) f bC A outer s H E).Ap (defBody st) t/\∀ a g O,∃ d,LS ⟨K,kN,H,fun z=>z=a\/z=g,O,E,fun _=>False⟩ t d/\∀ n ds R c gs,g≠a->Iv g n c gs->Sd n ds R->d (opE Iv a g R) (cf N (.pt a::ds.map .im)) (WO a g c gs)):ba P w K mg base cU (k+1) f fd ps (spT (cV Iv) Sd) :=
 F.Mn S (zl hm hlen) fun bC A outer s H vs Q E hr h=>by
  obtain⟨t,h1,hb⟩:=c7 bC A outer s H E hr;refine⟨t,h1,?_⟩;obtain⟨a,g,n,A2,O,ds,R,rfl,⟨c,gs,hI,hc,hg⟩,gt,hO,nt,ng,hr,hS,hR⟩:=h;obtain⟨d,hd,hb⟩:=hb a g O;have Wg:WO a g c gs g=some (.lst (fj gs)):=by unfold WO;rw[aw gt];exact aq
  have Wa:WO a g c gs a=some c:=aq;have Wz:∀ z c',WO a g c gs z=some c'->z=a\/z=g:=fun z c' e=>by
   unfold WO at e
   by_cases h1:z=a
   ·exact .inl h1
   ·rw[aw h1]at e
    by_cases h2:z=g
    ·exact .inr h2
    ·rw[aw h2]at e;cases e
  have ok:=dY (Iv:=Iv);have xp:cV Iv H a g n:=⟨c,gs,hI,hc,hg⟩;have fz:∀ H1,aM (hide (fun z=>O z\/z=a\/z=g) H1) (Fz ⟨K,kN,H,fun z=>z=a\/z=g,O,E,fun _=>False⟩ (WO a g c gs) H1):=fun H1 b o e=>by
   obtain⟨h1,h2⟩:=au.mp e;refine au.mpr ⟨fun z=>h1 ?_,h2⟩;rcases z with z | z
   ·exact .inl z
   ·cases q:WO a g c gs b with
    | none=>rw[q]at z;cases z
    | some c'=>exact .inr (Wz b c' q)
  have D:DR ⟨K,kN,H,fun z=>z=a\/z=g,O,E,fun _=>False⟩ (start N (.ref a::A2)) H (cf N (.pt a::ds.map .im)) (WO a g c gs):=by
   refine⟨⟨fun z=>z.elim,fun z=>z.elim,fun c hc=>hc.elim⟩,fun b o e _=>e,hO,fun b z=>?_,?_,fun p c' e=>?_⟩
   ·rcases z with z | z
    ·rw[z];exact(ok.rn xp).1.ne
    ·rw[z];exact(ok.rn xp).2.ne
   ·have va:aD ⟨K,kN,H,fun z=>z=a\/z=g,O,E,fun _=>False⟩ (Fz ⟨K,kN,H,fun z=>z=a\/z=g,O,E,fun _=>False⟩ (WO a g c gs) H) (.pt a::ds.map .im) (.ref a::A2):=⟨_,_,rfl,rfl,(aD.fi hr).mono (fz H)⟩;unfold start cf;rw[va.length];exact Slots.start _ va
   ·rcases Wz p c' e with z | z
    ·subst z;rw[Wa]at e;cases e;exact⟨.inr (.inl rfl),nt,hc.cell⟩
    ·subst z;rw[Wg]at e;cases e;exact⟨.inr (.inr rfl),ng,_,hg,iN gs⟩
  refine hd.go D (hb n ds R c gs gt hI hS) ⟨fun bB H' bZ W' D' s q=>q.elim,fun bB H' bZ W' D' s q=>q.elim,fun bB H' bZ W' D' s q=>q.elim,fun x dv bB H' bZ W' D' s v q=>?_⟩;obtain⟨n',c',GC,i,rfl,e1,e2,MU,hr',q⟩:=q;obtain⟨_,_,c1⟩:=D'.ce a c' e1;obtain⟨_,_,xs,c2,c3⟩:=D'.ce g _ e2;rw[ql c3]at c2;cases (show x=.int i from v);exact hR (.im (.int i)) n' _ H' q (fun b o e h1 h2=>D'.fr b o e (fun z=>z.elim h1 h2)) ⟨c',GC,MU,c1.raw hr',c2⟩ rfl
end
def Fr(t:Addr)(W W':Wd):Prop:=∀ a,a≠t->W' a=W a
theorem Fr.at(h:Fr t W W')(hp:p≠t)(e:W p=some c):W' p=some c:=by rw[h p hp];exact e
section
variable {bk:bS->Wd->Prop}{rt:DK}{a:jQ}{De:gw}{db dc:cW}{g:rT}{c d:nR}{i j:Nat}{u:DV}{f:rR}{B:Bool->Wd->Prop}{as:lN}{R:List DV->Wd->Prop}{gs:rV}{n:Int}{D:PyData}
theorem ax(h:a ⟨b ⟨nx,rt,bk,ct⟩,rt,bk,ct⟩ ρ W):dD a b ⟨nx,rt,bk,ct⟩ ρ W:=h
theorem MV(h:nx ρ W):Kg ⟨nx,rt,bk,ct⟩ ρ W:=h
theorem Q0(h:da ρ W rt):QR da ⟨nx,rt,bk,ct⟩ ρ W:=h
theorem MW(h:da ρ W fun _ W1=>nx ρ W1):zf da ⟨nx,rt,bk,ct⟩ ρ W:=h
theorem Q1(h:da ρ W fun v W1=>g v ρ W1 nx):HL da g ⟨nx,rt,bk,ct⟩ ρ W:=h
theorem Q4(h:c ρ W fun k W1=>if k=true then a De ρ W1 else b De ρ W1):QS c a b De ρ W:=h
theorem MX{r:jQ}(h:HL da g ⟨r ⟨nx,rt,bk,ct⟩,rt,bk,ct⟩ ρ W):dD (HL da g) r ⟨nx,rt,bk,ct⟩ ρ W:=h
theorem MY{r:jQ}(h:zf da ⟨r ⟨nx,rt,bk,ct⟩,rt,bk,ct⟩ ρ W):dD (zf da) r ⟨nx,rt,bk,ct⟩ ρ W:=h
theorem x_raise{P:Prop}(h:as ρ W fun vs _=>vs.length<=sizeLine/\P):DH P as De ρ W:=h
theorem fV(N:bS->Wd->Prop)(h1:∀ k:bS->Wd->Prop,(∀ ρ W,N ρ W->k ρ W)->a ⟨k,rt,bk,ct⟩ ρ W)(h2:∀ ρ W,N ρ W->b ⟨nx,rt,bk,ct⟩ ρ W):dD a b ⟨nx,rt,bk,ct⟩ ρ W:=h1 _ h2
theorem Q5{w:GB}(h:w ρ W fun it W1=>qi it g b ⟨nx,rt,bk,ct⟩ ρ W1):QT w g b ⟨nx,rt,bk,ct⟩ ρ W:=h
theorem HY(Pv:Nat->bS->Wd->Prop)(m:Nat)(h0:Pv m ρ W)(hs:∀ m ρ W,Pv m ρ W->c ρ W fun k W1=>if k=true then b ⟨fun bZ W'=>∃ m',m' < m/\Pv m' bZ W',rt,nx,fun bZ W'=>∃ m',m' < m/\Pv m' bZ W'⟩ ρ W1 else nx ρ W1):DI c b ⟨nx,rt,bk,ct⟩ ρ W:=⟨Pv,⟨m,h0⟩,hs⟩
theorem Vr(h:Qs (ρ.set i (some v)) W):Vi i v ρ W Qs:=h
theorem Vs(h:Qs ρ W):Vj [] ρ W Qs:=⟨rfl,h⟩
theorem Vt{r:List DV}(h:g v ρ W fun bZ W'=>gs r bZ W' Qs):Vk g gs (v::r) ρ W Qs:=⟨v,r,rfl,h⟩
theorem Vu{o e:cW}(h:o ρ W fun a W1=>e ρ W1 fun b W2=>ze a b v W2 (Qs ρ)):Ye o e v ρ W Qs:=h
theorem Q6(e:ρ[i]?=some (some v))(h:Q v W):QE i ρ W Q:=⟨v,e,h⟩
theorem x_c(h:Q v W):dC v ρ W Q:=h
theorem Vv(h:da ρ W fun v W1=>db ρ W1 fun u W2=>f v u W2 Q):X3 f da db ρ W Q:=h
theorem Vw{k:DV->Wd->DK->Prop}(h:da ρ W fun v W1=>k v W1 Q):X4 k da ρ W Q:=h
theorem Vx(h:da ρ W fun v W1=>∃ b,v=.im (.bool b)/\B b W1):Vd da ρ W B:=h
theorem Vy{k:Bool}{P:Bool->Prop}(h:P k):∃ k',DV.im (.bool k)=.im (.bool k')/\P k':=⟨k,rfl,h⟩
theorem Q7(h:c ρ W fun k W1=>if k=true then d ρ W1 B else B false W1):QF c d ρ W B:=h
theorem Vz(h:c ρ W fun k W1=>if k=true then B true W1 else d ρ W1 B):X5 c d ρ W B:=h
theorem Q8(h:c ρ W fun k W1=>B (!k) W1):QG c ρ W B:=h
theorem MZ(h:da ρ W fun v W1=>∃ c,v=.im (.bool c)/\if c=true then db ρ W1 Q else Q (.im (.bool false)) W1):J8 da db ρ W Q:=h
theorem Q9(h:da ρ W fun v W1=>∃ c,v=.im (.bool c)/\if c=true then Q (.im (.bool true)) W1 else db ρ W1 Q):QH da db ρ W Q:=h
theorem Na(h:da ρ W fun v W1=>∃ c,v=.im (.bool c)/\Q (.im (.bool (!c))) W1):J9 da ρ W Q:=h
theorem VA(h:c ρ W fun k W1=>if k=true then da ρ W1 Q else db ρ W1 Q):X6 c da db ρ W Q:=h
theorem Ra(h:da ρ W fun v W1=>Q (.im (.bool (isNone v))) W1):QI da ρ W Q:=h
theorem Nb(h:da ρ W fun v W1=>Q (.im (.bool (!isNone v))) W1):Ka da ρ W Q:=h
theorem HZ{f':rR}(h:da ρ W fun x W1=>db ρ W1 fun y W2=>f x y W2 fun z W3=>∃ k,z=.im (.bool k)/\if k=true then dc ρ W3 fun w W4=>f' y w W4 Q else Q (.im (.bool false)) W3):Dx f f' da db dc ρ W Q:=h
theorem Rb(h:R [] W):QJ ρ W R:=h
theorem Nc(h:da ρ W fun v W1=>as ρ W1 fun vs W2=>R (v::vs) W2):Kb da as ρ W R:=h
theorem VB{ks:List V}(h:ks.all dq=true/\R (ks.map QK) W):X7 ks ρ W R:=h
theorem Rf(h:as ρ W fun vs W1=>yZ vs W1 Q):QL as ρ W Q:=h
theorem Rg(h:as ρ W fun vs W1=>y6 vs W1 Q):QM as ρ W Q:=h
theorem VC{k:List DV->Wd->DK->Prop}(h:as ρ W fun vs W1=>k vs W1 Q):Vf k as ρ W Q:=h
theorem VD{k:DV->List DV->Wd->DK->Prop}(h:da ρ W fun v W1=>A3 T v W1/\as ρ W1 fun vs W2=>k v vs W2 Q):Yb T k da as ρ W Q:=h
theorem VE{k:DV->v0->v0->Wd->DK->Prop}{l t:My}(h:da ρ W fun v W1=>l ρ W1 fun lo W2=>t ρ W2 fun hi W3=>k v lo hi W3 Q):Yc k da l t ρ W Q:=h
theorem DS{Qo:v0->Wd->Prop}(h:Qo none W):zd ρ W Qo:=h
theorem Nd{Qo:v0->Wd->Prop}(h:da ρ W fun v W1=>∃ i,v=.im (.int i)/\Qo (some i) W1):Kf da ρ W Qo:=h
theorem VF{P:Int->Prop}(h:P n):∃ i,DV.im (.int n)=.im (.int i)/\P i:=⟨n,rfl,h⟩
theorem Nf{w:GB}{e:cW}{ix:List (Option Nat)}(h:w ρ W fun it W1=>uF it g c e (AY ix ρ) W1 Q):Kh w g c e ix ρ W Q:=h
theorem Rh(h:B true W):QU ρ W B:=h
theorem VG{h':Int->Int->PyData}(h:Q (.im (h' m n)) W):X8 h' (.im (.int m)) (.im (.int n)) W Q:=⟨m,n,rfl,rfl,h⟩
theorem x_I{P:Int->Int->Prop}{h':Int->Int->PyData}(hp:P m n)(h:Q (.im (h' m n)) W):dI P h' (.im (.int m)) (.im (.int n)) W Q:=⟨m,n,rfl,rfl,hp,h⟩
theorem x_U{h':Int->PyData}(h:Q (.im (h' m)) W):dU h' (.im (.int m)) W Q:=⟨m,rfl,h⟩
theorem rY{i j:Int}:PyData.eqv (.int i) (.int j)=decide (i=j):=by show(i == j)=_;by_cases e:i=j<;>simp[e]
theorem jR{i j:Str}:PyData.eqv (.str i) (.str j)=decide (i=j):=by show(i == j)=_;by_cases e:i=j<;>simp[e]
theorem Ri(h:Q (.im (.bool (decide (m=n)))) W):DB (.im (.int m)) (.im (.int n)) W Q:=⟨_,_,rfl,rfl,.inr ⟨rfl,rfl,by show min 0 0<=64;decide⟩,by rw[rY];exact h⟩
theorem Rj(h:Q (.im (.bool (!decide (m=n)))) W):DD (.im (.int m)) (.im (.int n)) W Q:=⟨_,_,rfl,rfl,.inr ⟨rfl,rfl,by show min 0 0<=64;decide⟩,by rw[rY];exact h⟩
theorem Rk{s t:Str}(h:Q (.im (.bool (decide (s=t)))) W):DB (.im (.str s)) (.im (.str t)) W Q:=⟨_,_,rfl,rfl,.inl ⟨s,t,rfl,rfl⟩,by rw[jR];exact h⟩
theorem Rm{s t:Str}(h:Q (.im (.bool (!decide (s=t)))) W):DD (.im (.str s)) (.im (.str t)) W Q:=⟨_,_,rfl,rfl,.inl ⟨s,t,rfl,rfl⟩,by rw[jR];exact h⟩
theorem Rn{d1 d2:PyData}(e1:dat 4 W v=some d1)(e2:dat 4 W u=some d2)(ok:MF d1 d2)(h:Q (.im (.bool (!PyData.eqv d1 d2))) W):DD v u W Q:=⟨d1,d2,e1,e2,ok,h⟩
theorem Ro{d1:PyData}(e1:dat 4 W v=some d1)(e2:dat 4 W u=some d1)(c:d1.canLay0=true)(hd:d1.depth<=64)(h:Q (.im (.bool true)) W):DB v u W Q:=⟨d1,d1,e1,e2,.inr ⟨c,c,by rw[Nat.min_self];exact hd⟩,by rw[PySem.SeqAt.eqv_refl d1 c];exact h⟩
theorem rZ{α β:Type}{xs:List α}{f:α->β}{i:Int}{x:α}(h:gF xs i=some x):gF (xs.map f) i=some (f x):=by
 unfold gF at h ⊢;rw[aal];cases q:yL xs.length i with
 | none=>rw[q]at h;cases h
 | some j=>rw[q]at h;show(xs.map f)[j]?=_;rw[aap,show xs[j]?=some x from h];rfl
theorem cn(e:gF ds n=some D)(h:Q (.im D) W):MH (.im (.tuple ds)) (.im (.int n)) W Q:=⟨n,.im D,rfl,rZ e,h⟩
theorem bE(e:gF ds n=some D)(h:Q (.im D) W):MH (.im (.list ds)) (.im (.int n)) W Q:=⟨n,.im D,rfl,rZ e,h⟩
theorem jS(e:W p=some (.lst vs)):c9 W (.pt p)=some vs:=by simp[c9,e]
theorem zo(e:W p=some (.lst vs)):gM W (.pt p)=some vs:=by unfold gM;rw[jS e]
theorem fk(e:W p=some (.lst vs))(e2:gF vs n=some v)(h:Q v W):MH (.pt p) (.im (.int n)) W Q:=⟨n,v,rfl,by
 show(gM W (.pt p)).bind _=_
 rw[zo e]
 exact e2,h⟩
theorem Ng(h:Q (.im (.int ds.length)) W):HI [.im (.list ds)] W Q:=⟨_,_,rfl,rfl,by rw[aal];exact h⟩
theorem Nh(h:Q (.im (.int ds.length)) W):HI [.im (.tuple ds)] W Q:=⟨_,_,rfl,rfl,by rw[aal];exact h⟩
theorem Ni(e:W p=some (.lst vs))(h:Q (.im (.int vs.length)) W):HI [.pt p] W Q:=⟨_,vs,rfl,zo e,h⟩
theorem Rp(e:W p=some (.lst vs)):A3 "list" (.pt p) W:=.inl ⟨rfl,vs,jS e⟩
theorem uJ(e:W p=some (.lst vs))(hl:vs.length < sizeLine)(h:Q (.im .none) (aH W p (.lst (vs++[v])))):rS (.pt p) [v] W Q:=⟨p,vs,v,rfl,rfl,e,hl,h⟩
theorem aB(hl:ds.length<=sizeLine)(h:Q (.im (.tuple ds)) W):yZ (ds.map .im) W Q:=⟨by rw[aal];exact hl,.inl ⟨ds,W,fF (fun _ _=>rfl) ds,h⟩⟩
theorem jm(h:∀ p W',W p=none->W' p=some (.lst vs)->Fr p W W'->Q (.pt p) W'):iK vs W Q:=.inl fun p hp=>h p _ hp aq fun a ha=>aw ha
theorem cZ(h:Q (.im (.list ds)) W):iK (ds.map .im) W Q:=.inr ⟨ds,rfl,h⟩
theorem fX(hl:vs.length<=sizeLine)(h:∀ p W',W p=none->W' p=some (.lst vs)->Fr p W W'->Q (.pt p) W'):y6 vs W Q:=⟨hl,jm h⟩
theorem cX(hl:ds.length<=sizeLine)(h:Q (.im (.list ds)) W):y6 (ds.map .im) W Q:=⟨by rw[aal];exact hl,cZ h⟩
theorem Nj(h:as ρ W fun vs W1=>MN vs W1 B'):Ki as ρ W B':=h
theorem VH(h1:-(2 ^ 62)<=m)(h2:m < 2 ^ 62)(h:B' ⟨(List.range m.toNat).map fun i=>.im (.int (0+(i:Nat))),fun _=>True⟩ W):MN [.im (.int m)] W B':=⟨m,rfl,h1,h2,h⟩
theorem Ia(h:da ρ W fun v W1=>DJ v W1 B'):DL da ρ W B':=h
theorem Rq(h:B' ⟨ds.map .im,fun _=>True⟩ W):DJ (.im (.list ds)) W B':=.inl ⟨ds,rfl,h⟩
theorem uK(e:W p=some (.lst vs))(h:B' ⟨vs,fun W'=>W' p=some (.lst vs)⟩ W):DJ (.pt p) W B':=.inr (.inl ⟨p,vs,rfl,e,h⟩)
theorem Rr(h:B' ⟨ns.map fun n=>.im (.int n),fun _=>True⟩ W):DJ (.jh ns) W B':=.inr (.inr ⟨ns,rfl,h⟩)
theorem i9{lo:Int}(Pv:Nat->bS->Wd->Prop)(h0:Pv 0 ρ W)(hs:∀ i ρ W,i < k->Pv i ρ W->g (.im (.int (lo+(i:Nat)))) ρ W fun iP W2=>b ⟨Pv (i+1),rt,nx,Pv (i+1)⟩ iP W2)(hd:∀ ρ W,Pv k ρ W->nx ρ W) :
  qi ⟨(List.range k).map fun i=>.im (.int (lo+(i:Nat))),fun _=>True⟩ g b ⟨nx,rt,bk,ct⟩ ρ W:=by
 refine⟨Pv,h0,fun _ _ _ _=>trivial,fun i v ρ W e p=>?_,fun ρ W p=>hd ρ W (by simpa using p)⟩
 by_cases hi:i < k
 ·have e:((List.range k).map fun i=>DV.im (.int (lo+(i:Nat))))[i]?=some v:=e;simp[hi]at e;subst e;exact hs i ρ W hi p
 ·have e:((List.range k).map fun i=>DV.im (.int (lo+(i:Nat))))[i]?=some v:=e;simp[hi]at e
theorem jT(Pv:Nat->bS->Wd->Prop)(h0:Pv 0 ρ W)(hs:∀ i d ρ W,ds[i]?=some d->Pv i ρ W->g (.im d) ρ W fun iP W2=>b ⟨Pv (i+1),rt,nx,Pv (i+1)⟩ iP W2)(hd:∀ ρ W,Pv ds.length ρ W->nx ρ W) :
  qi ⟨ds.map .im,fun _=>True⟩ g b ⟨nx,rt,bk,ct⟩ ρ W:=by
 refine⟨Pv,h0,fun _ _ _ _=>trivial,fun i v ρ W e p=>?_,fun ρ W p=>hd ρ W (by simpa using p)⟩;rw[aap]at e;cases q:ds[i]? with
 | none=>rw[q]at e;cases e
 | some d=>rw[q]at e;cases e;exact hs i d ρ W q p
theorem gx{lo:Int}{e:cW}(Pv:Nat->List DV->Wd->Prop)(hk:k<=sizeLine)(h0:Pv 0 [] W)(hs:∀ i ys W,i < k->ys.length<=i->Pv i ys W->g (.im (.int (lo+(i:Nat)))) ρ W fun iP W2=>c iP W2 fun b W3=>if b=true then e iP W3 fun y W4=>Pv (i+1) (ys++[y]) W4 else Pv (i+1) ys W3)(hd:∀ ys W,Pv k ys W->iK ys W Q) :
  uF ⟨(List.range k).map fun i=>.im (.int (lo+(i:Nat))),fun _=>True⟩ g c e ρ W Q:=by
 refine⟨by simpa using hk,Pv,h0,fun _ _ _ _=>trivial,fun i v ys W e hl p=>?_,fun ys W q=>hd ys W (by simpa using q)⟩
 by_cases hi:i < k
 ·simp[hi]at e;subst e;exact hs i ys W hi hl p
 ·simp[hi]at e
theorem jU{e:cW}(Pv:Nat->List DV->Wd->Prop)(hk:ds.length<=sizeLine)(h0:Pv 0 [] W)(hs:∀ i d ys W,ds[i]?=some d->ys.length<=i->Pv i ys W->g (.im d) ρ W fun iP W2=>c iP W2 fun b W3=>if b=true then e iP W3 fun y W4=>Pv (i+1) (ys++[y]) W4 else Pv (i+1) ys W3)(hd:∀ ys W,Pv ds.length ys W->iK ys W Q) :
  uF ⟨ds.map .im,fun _=>True⟩ g c e ρ W Q:=by
 refine⟨by simpa using hk,Pv,h0,fun _ _ _ _=>trivial,fun i v ys W e hl p=>?_,fun ys W q=>hd ys W (by simpa using q)⟩;rw[aap]at e;cases q:ds[i]? with
 | none=>rw[q]at e;cases e
 | some d=>rw[q]at e;cases e;exact hs i d ys W q hl p
theorem jV{S:jj}{X:Addr->Prop}(e:eR (dat 4 W) vs=some ds)(h:S ds (fun r=>Tu r=true/\jk W Q r) X):uG S X vs W Q:=.inl ⟨ds,e,h⟩
theorem aY{S:jj}{X:Addr->Prop}(h:S ds (jk W Q) X):uG S X (ds.map .im) W Q:=.inr ⟨ds,W,fF (fun _ _=>rfl) ds,h⟩
end
def Yj(K:zn)(a:Addr)(xs:List V)(_:∀ H,fg K H a xs):TE:=tC (.ref a)
theorem Rt{K:zn}(hm:X.mg x=some (.ref a))(hx:∀ H,fg K H a xs)(hg:autoParam (Gl X x) ra0)(hd:autoParam ((x == ("__debug__":Str))=false) ra1):SE X (.Name x pos) (Yj K a xs hx):=Ql hm hg hd
def Yk(xs:List V):cW:=fun _ W Q=>Q (.cst xs) W
instance {C:DC}{K:zn}[hk:lO C K]{a:Addr}{xs:List V}{hx:∀ H,fg K H a xs}:LE C (Yj K a xs hx) (Yk xs):=by
 obtain⟨rfl⟩:=hk;exact⟨fun D h k=>k.now (dv:=.cst xs) D ⟨a,rfl,hx⟩ h⟩
theorem VI(h:Q (.cst xs) W):Yk xs ρ W Q:=h
def Ru(a:cW):cW:=fun ρ W Q=>a ρ W fun v W1=>∃ d,dat 4 W1 v=some d/\d.canLay0=true/\Q (.im (.bool (!PyData.eqv d (.list [])))) W1
theorem min1(n:Nat):min n (PyData.depth (.list []))<=64:=aaA (adR _ _) (by decide)
instance (priority:=2000){C:DC}{ta:TE}{da:cW}[ia:LE C ta da]:LE C (B1 MD ta (G2 ue)) (Ru da):=⟨fun D h k=>ia.go D h fun x dv H1 W1 D1 s1 v1 ⟨d,e,c,q⟩=>⟨aaW _,fun p hp=>by
 obtain⟨D2,s2,e2⟩:=D1.GA hp (.lst []);exact .inr ⟨d,.list [],(D1.uC v1 e).same (aM.new hp _),⟨p,[],rfl,dF,rfl⟩,c,rfl,min1 _,k _ (.im (.bool _)) _ _ D2 (s1.trans s2) rfl q⟩⟩⟩
theorem Rv{a:cW}(h:a ρ W fun v W1=>∃ d,dat 4 W1 v=some d/\d.canLay0=true/\Q (.im (.bool (!PyData.eqv d (.list [])))) W1):Ru a ρ W Q:=h
section
variable {bk:bS->Wd->Prop}{rt:DK}{g:rT}{c:nR}{es:wE}{as:lN}{u:DV}
theorem Ib(Pv:Nat->bS->Wd->Prop)(h0:Pv 0 ρ W)(hs:∀ i z ρ W,ns[i]?=some z->Pv i ρ W->g (.im (.int z)) ρ W fun iP W2=>b ⟨Pv (i+1),rt,nx,Pv (i+1)⟩ iP W2)(hd:∀ ρ W,Pv ns.length ρ W->nx ρ W) :
  qi ⟨ns.map fun n=>.im (.int n),fun _=>True⟩ g b ⟨nx,rt,bk,ct⟩ ρ W:=by
 refine⟨Pv,h0,fun _ _ _ _=>trivial,fun i v ρ W e p=>?_,fun ρ W p=>hd ρ W (by simpa using p)⟩;rw[aap]at e;cases q:ns[i]? with
 | none=>rw[q]at e;cases e
 | some d=>rw[q]at e;cases e;exact hs i d ρ W q p
theorem zp:eR MO (ds.map .im)=some ds:=jN (fun _=>rfl) ds
theorem Kn{k1 k2:SK}(e1:A6 k1 W v=some (ds.map .im))(e2:A6 k2 W u=some (es.map .im))(h:B' ⟨(ds.zip es).map fun p=>.im (.tuple [p.1,p.2]),fun W'=>xn v (ds.map .im) W'/\xn u (es.map .im) W'⟩ W) :
  Vm k1 k2 [v,u] W B' :=
 ⟨v,u,_,_,ds,es,rfl,e1,e2,zp,zp,h⟩
theorem Nk{k1 k2:SK}(h:as ρ W fun vs W1=>Vm k1 k2 vs W1 B'):QV k1 k2 as ρ W B':=h
theorem zq{kp:Wd->Prop}(Pv:Nat->bS->Wd->Prop)(h0:Pv 0 ρ W)(hk:∀ i ρ W,Pv i ρ W->kp W)(hs:∀ i a d ρ W,ds[i]?=some a->es[i]?=some d->Pv i ρ W->g (.im (.tuple [a,d])) ρ W fun iP W2=>b ⟨Pv (i+1),rt,nx,Pv (i+1)⟩ iP W2)(hd:∀ ρ W,Pv (min ds.length es.length) ρ W->nx ρ W) :
  qi ⟨(ds.zip es).map fun p=>.im (.tuple [p.1,p.2]),kp⟩ g b ⟨nx,rt,bk,ct⟩ ρ W:=by
 refine⟨Pv,h0,hk,fun i v ρ W e p=>?_,fun ρ W p=>hd ρ W (by rw[aal,ad0]at p;exact p)⟩;rw[aap]at e;cases q:(ds.zip es)[i]? with
 | none=>rw[q]at e;cases e
 | some ab =>
  rw[q]at e;cases e;obtain⟨h1,h2⟩:=aby.mp q;exact hs i ab.1 ab.2 ρ W h1 h2 p
theorem Rx{n:Int}(h:Q (.im (.int (if n > m then n else m))) W):Kd [.im (.int m),.im (.int n)] W Q:=⟨m,n,rfl,h⟩
theorem Ry{n:Int}(h:Q (.im (.int (if n < m then n else m))) W):Ke [.im (.int m),.im (.int n)] W Q:=⟨m,n,rfl,h⟩
theorem Nl{k:Bool}(h:Q (.im (.int (if k then 1 else 0))) W):DG [.im (.bool k)] W Q:=.inr ⟨k,rfl,h⟩
theorem Rz(h:Q (.im (.bool (Qj d T))) W):QP T [.im d,.ty T] W Q:=⟨.im d,d,rfl,rfl,h⟩
theorem gY(e:W p=some (.lst (ds.map .im))):dat (n+1) W (.pt p)=some (.list ds):=by
 unfold dat;rw[e];show(eR (dat n W) (ds.map .im)).map _=_;rw[jN (fun d=>by cases n<;>rfl) ds];rfl
theorem VJ{Pr:Prop}(e:W p=some (.lst vs))(h:Pr):A3 "list" (.pt p) W/\Pr:=⟨Rp e,h⟩
theorem nW{gs:wn}(e:W p=some (.lst (fj gs))):dat (n+1) W (.pt p)=some (.list (gs.map .int)):=gY (ds:=gs.map .int) (by rw[e];simp)
theorem gZ{R:Res->Prop}(e:W p=some (.lst (ds.map .im)))(h:R (.nw ds)):HQ W R (.pt p):=⟨_,ds,W,e,fF (fun _ _=>rfl) ds,by rw[e];rfl,h⟩
theorem zr(h:iK (ds.map .im) W Q):zc [.im (.list ds)] W Q:=⟨_,_,rfl,rfl,h⟩
theorem qm{lo:v0}(h:iK ((cutD ds lo hi).map .im) W Q):ML (.im (.list ds)) lo hi W Q:=⟨_,.inl rfl,by rw[show cutD (ds.map DV.im) lo hi=(cutD ds lo hi).map DV.im by unfold cutD;rw[aal,ack,acm]];exact h⟩
theorem RA{q:Addr}{lo:v0}(e:W q=some (.lst vs))(h:iK (cutD vs lo hi) W Q):ML (.pt q) lo hi W Q:=⟨_,.inl (jS e),h⟩
theorem zt(e1:c9 W v=some vs)(e2:c9 W u=some us)(hl:vs.length+us.length<=sizeLine)(h:iK (vs++us) W Q):MI v u W Q:=⟨vs,us,e1,e2,hl,h⟩
theorem r6{S:uH}{g:Addr}(e:W t=some (.aE g n))(e2:eR (dat 4 W) vs=some ds)(h:S n ds fun r n'=>Tu r=true/\jk (aH W t (.aE g n')) Q r):uI S (.pt t::vs) W Q:=⟨t,g,n,vs,rfl,e,.inl ⟨ds,e2,h⟩⟩
end
section
variable {prog:sB}{A:sK}{E:xz}{s:Shared}
theorem qo{it t:Addr}{items:Array Value}(mB:t≠it):∀(n i:Nat) (s:Shared) (Q:wf->Shared->Prop),s.heap.IsListIter it t i->s.heap.IsList t items->i+n<=items.size ->
  (∀ h',h'.IsListIter it t (i+n)->Heap.SameBut it s.heap h'->Q ((items.toList.drop i).take n) { s with heap:=h' })->wpAny (model prog w) A (draw (.ref it) n) Q E s
 | 0,i,s,Q,hit,_,_,hQ=>by
  show wpAny _ _ (pure []) Q E s;exact aao (by simpa using hQ s.heap hit (Heap.SameBut.refl ..))
 | n+1,i,s,Q,hit,ht,hle,hQ=>by
  have gh:i < items.size:=by omega
  show wpAny _ _ (pyNext (.ref it) >>= _) Q E s;refine aak (wpAny_pyNext_list_item hit ht (x:=items[i]) (by simp[gh]) fun eM xr c8=>?_);refine aak (abj (qo mB n (i+1) _ _ xr (ht.extBut c8.extBut mB) (by omega) fun gQ Nm eO=>aao ?_));have hd:items.toList.drop i=items[i]::items.toList.drop (i+1):=by simp[acF,gh]
  have:=hQ gQ (by rw[show i+(n+1)=i+1+n by omega];exact Nm) (c8.trans eO);rw[hd,List.take_succ_cons]at this;exact this
theorem kP{Q:wf->Shared->Prop}(hh:A.handled=none)(ht:s.heap.IsList t items)(hQ:∀ h',Heap.ExtBut s.heap.objs.size s.heap h'->Q items.toList { s with heap:=h' }):wpAny (model prog w) A (unpackItems (.ref t) items.size none) Q E s:=by
 have gh:t≠s.heap.objs.size:=by obtain⟨o,ho,_⟩:=ht;exact aa1 (aay ho)
 unfold unpackItems;refine aak ?_
 ·unfold notIterableAtAll;refine aak (wpAny_specialOf ht.typeIs F.slot_list_iter.lookup ?_);refine aao ?_;simp only[ab4,ady];refine aak (abj (abL ht ?_));refine aak (abj (qo gh items.size 0 _ _ ⟨_,aaz _ rfl,rfl,rfl⟩ (ht.push _) (by omega) fun eM xr c8=>?_));have pE:List.take items.size (List.drop 0 items.toList)=items.toList:=by
   rw[List.drop_zero];exact abp (by simp)
  rw[pE];rw[aaD (by simp)];have RB:eM.IsList t items:=(ht.push _).extBut c8.extBut gh;refine aak (abj (wpAny_pyNext_list_end hh xr RB (by simp) fun gQ RC=>?_));simp only[Option.isSome_none,ab4,ady];refine aao (hQ gQ fun b o hb e=>RC b o hb (c8.extBut b o hb (aam _ e)))
theorem uL{targets:List (Bool×(Value->Sem Unit))}{Q:Unit->Shared->Prop}(hh:A.handled=none)(ht:s.heap.IsList t items)(hn:targets.length=items.size)(DT:targets.findIdx? (·.1)=none)(h:∀ h',Heap.ExtBut s.heap.objs.size s.heap h'->wpAny (model prog w) A (assignInOrder (targets.map (·.2)) items.toList) Q E { s with heap:=h' }) :
  wpAny (model prog w) A (unpack (.ref t) targets) Q E s:=by
 unfold unpack;rw[hn,DT];exact aak (abj (kP hh ht h))
theorem jW{env:Env}{elts:ut}{x1}{Q:Unit->Shared->Prop}(hh:A.handled=none)(ht:s.heap.IsList t items)(hn:(assignEach elts env).length=items.size)(DT:(assignEach elts env).findIdx? (·.1)=none)(h:∀ h',Heap.ExtBut s.heap.objs.size s.heap h'->wpAny (model prog w) A (assignInOrder ((assignEach elts env).map (·.2)) items.toList) Q E { s with heap:=h' }) :
  wpAny (model prog w) A (assign (.Tuple elts x1 pos) env (.ref t)) Q E s:=by
 rw[assign_Tuple];exact aak (adP (uL hh ht hn DT h))
end
def Ko(K:zn)(n:Nat)(t:vV):TG:=fun v σ H Q=>∃ a xs,v=.ref a/\eE K H a xs/\xs.length=n/\t xs σ H Q
theorem Ic{t:vV}(hc:X.calm=true)(h:OL X es t)(hn:autoParam ((assignEach es X.env).length=n) ra0)(ud:autoParam ((assignEach es X.env).findIdx? (·.1)=none) ra0):PG X (.Tuple es k pos) (Ko X.K n t):=by
 intro pins s σ H v u Q I r hw;obtain⟨a,xs,e1,hq,hl,hw⟩:=hw;subst e1;cases r;obtain⟨aQ,rv,pl,hz⟩:=I.list hq;refine jW (I.ok.hd hc) pl.isList (by simp[hn,<- hl,rv.length]) ud fun h' hx=>?_;have I1:Inv X pins σ H { s with heap:=h' }:=I.kept (t':=s.toks) fun b o e=>hx b o (aa1 (aay e)) e;exact h pins _ σ H xs _ Q I1 (by simpa using rv) hw
def Kq(K:zn)(n:Nat)(t:vV):TG:=fun v σ H Q=>Pn K n t v σ H Q\/Ko K n t v σ H Q
theorem fY{Qk:vV}(h:Th X es Qk)(hc:autoParam (X.calm=true) ra0)(hn:autoParam ((assignEach es X.env).length=n) ra0)(ud:autoParam ((assignEach es X.env).findIdx? (·.1)=none) ra0):SG X (.Tuple es k pos) (Kq X.K n Qk) :=
 ⟨fun pins s σ H v u Q I r hw=>hw.elim (Lv hc h.run hn ud pins s σ H v u Q I r) (Ic hc h.run hn ud pins s σ H v u Q I r)⟩
def Yl(n:Nat)(b:rV):rT:=fun dv ρ W Q=>∃ vs,gM W dv=some vs/\vs.length=n/\b vs ρ W Q
instance {C:DC}{K:zn}[hk:lO C K]{gs:vV}{QQ:rV}{n:Nat}[ib:Tt C gs QQ]:LG C (Kq K n gs) (Yl n QQ):=by
 obtain⟨rfl⟩:=hk;exact⟨fun D v h k=>by
  obtain⟨vs,e,hl,q⟩:=h;obtain⟨p,xs,e1,hq,r⟩:=D.gM v e;rcases hq with hq | hq
  ·exact .inr ⟨p,xs,e1,hq,by rw[<- r.length];exact hl,ib.go D r q k⟩
  ·exact .inl ⟨p,xs,e1,hq,by rw[<- r.length];exact hl,ib.go D r q k⟩⟩
section
variable {gs:rV}
theorem RD(hl:ds.length=k)(h:gs (ds.map .im) ρ W Qs):Yl k gs (.im (.tuple ds)) ρ W Qs:=⟨_,rfl,by rw[aal];exact hl,h⟩
theorem RE{a:rT}{r:wE}(h:a (.im d) ρ W fun bZ W'=>gs (r.map .im) bZ W' Qs):Vk a gs ((d::r).map .im) ρ W Qs:=⟨_,_,rfl,h⟩
theorem RF(h:Qs ρ W):Vj (([]:wE).map .im) ρ W Qs:=⟨rfl,h⟩
end
def iy:uH:=fun n ds R=>∃ m:Int,ds=[.int m]/\n<=1000000000/\0 < m/\m < 2 ^ 64/\∀ r:Int,0<=r->r < m->R (.im (.int r)) (n+1)
theorem aZ(e:W t=some (.aE g n))(hn:n<=1000000000)(m0:0 < m)(m1:m < 2 ^ 64)(h:∀(r:Int) (W':Wd),0<=r->r < m->W' t=some (.aE g (n+1))->Fr t W W'->Q (.im (.int r)) W'):uI iy [.pt t,.im (.int m)] W Q :=
 r6 e rfl ⟨m,rfl,hn,m0,m1,fun r r0 r1=>⟨rfl,h r _ r0 r1 aq fun a ha=>aw ha⟩⟩
theorem bU(e:W p=some (.lst vs))(hl:vs.length < sizeLine)(h:∀ W',W' p=some (.lst (vs++[v]))->Fr p W W'->Q (.im .none) W'):rS (.pt p) [v] W Q:=uJ e hl (h _ aq fun a ha=>aw ha)
theorem Np{k:Int}{j:Nat}{Kc:Wd->Prop}(e:W p=some (.lst vs))(hj:yL vs.length k=some j)(h:∀ W',W' p=some (.lst (vs.set j v))->Fr p W W'->Kc W'):ze (.pt p) (.im (.int k)) v W Kc:=⟨p,vs,k,j,rfl,rfl,e,hj,h _ aq fun a ha=>aw ha⟩
theorem xt{k:Int}(h0:0<=k)(h1:k < n):yL n k=some k.toNat:=by unfold yL;rw[aaN h0,aaN h1]
theorem Nq{α:Type}{xs:List α}{k:Int}(h0:0<=k)(h1:k < xs.length):gF xs k=some (xs[k.toNat]'(by omega)):=by unfold gF;rw[xt h0 h1];show xs[k.toNat]?=_;simp[show k.toNat < xs.length by omega]
theorem cQ(h:Q (.im d) W):jk W Q (.im d):=h
theorem RG(h:∀ p W',W p=none->W' p=some (.lst (ds.map .im))->Fr p W W'->Q (.pt p) W'):jk W Q (.nw ds):=Or.inl fun p hp=>h p _ hp aq fun a ha=>aw ha
theorem jX(h:Q (.im (.list ds)) W):jk W Q (.nw ds):=Or.inr h
def jv(sp:Sp):Sp:=fun vs H Q _=>sp vs H Q E0
theorem U7.calm{K:zn}{sp:Sp}(D:U7 P w K mg base k x f fd ps sp):Dn P w K mg base k x f fd ps (jv sp) where
 ok:=⟨fun vs H Q E q=>D.ok.len vs H Q E0 q,fun A outer s H args us vs Q E hr he hb hv hs=>acs (D.ok.run A outer s H args us vs Q E0 hr he hb hv hs) fun r s' h=>by
  cases r with
  | error e=>obtain⟨a,C,H',B,a0,_,R⟩:=h;exact R.want.elim
  | ok fl=>cases fl<;>exact h⟩
 b:=D.b
 kp:=D.kp
 m:=D.m
instance {C:DC}{S:jj}{E:XK}:HP C (jv (df S)) E (uG S fun _=>False):=⟨fun D h hd k=>zh (E:=E0) (fun c H' hc _=>hc.elim) D h hd k⟩
theorem cv:dat n W (.im d)=some d:=by cases n<;>rfl
theorem dP{S:uH}(e:W t=some (.aE g n))(h:S n ds fun r n'=>jk (aH W t (.aE g n')) Q r):uI S (.pt t::ds.map .im) W Q:=⟨t,g,n,_,rfl,e,.inr ⟨ds,W,fF (fun _ _=>rfl) ds,e,h⟩⟩
structure ModT(K:zn)(w:World)(a:Addr)(tab:Str->Option (List V)):Prop where
 ex:∃ bO:List (Key×V),AN K w a bO/\∀ x xs,tab x=some xs->∃ b,nh bO (Sum.inr x)=some (.ref b)/\∀ H,fg K H b xs
def Ym(K:zn)(w:World)(a:Addr)(tab:Str->Option (List V))(_:ModT K w a tab)(ty:TE):TE:=C9 K w (tC (.ref a)) ty
theorem RH{K:zn}{tab:Str->Option (List V)}{p:Pos}{r:Expr}{ty:TE}(hm:X.mg x=some (.ref a))(hM:ModT K w a tab)(hb:SE X r ty)(hK:autoParam (X.K=K) ra0)(hw:autoParam (X.w=w) ra0)(hs:autoParam (G6 r) ra8)(hg:autoParam (Gl X x) ra0)(hd:autoParam ((x == ("__debug__":Str))=false) ra1):SE X (.Subscript (.Name x p) r pos) (Ym K w a tab hM ty):=by
 subst hK hw;exact Mm (Ql hm hg hd) hb hs
def Yn(tab:Str->Option (List V))(d:cW):cW:=fun ρ W Q=>d ρ W fun v W1=>∃ x xs,v=.im (.str x)/\tab x=some xs/\Q (.cst xs) W1
instance {C:DC}{K:zn}{w:World}[hk:lO C K]{a:Addr}{tab:Str->Option (List V)}{hM:ModT K w a tab}{ty:TE}{d:cW}[ia:LE C ty d]:LE C (Ym K w a tab hM ty) (Yn tab d):=by
 obtain⟨rfl⟩:=hk;exact⟨fun D h k=>ia.go D h fun x dv H1 W1 D1 s1 v1 zz=>by
  obtain⟨z,xs,e1,e2,q⟩:=zz
  subst e1;obtain⟨bO,hD,pE⟩:=hM.ex;obtain⟨b,hb,hT⟩:=pE z xs e2;exact⟨a,bO,Sum.inr z,.ref b,rfl,hD,v1,hb,k _ (.cst xs) _ _ D1 s1 ⟨b,rfl,hT⟩ q⟩⟩
theorem VM{tab:Str->Option (List V)}{d:cW}(h:d ρ W fun v W1=>∃ x xs,v=.im (.str x)/\tab x=some xs/\Q (.cst xs) W1):Yn tab d ρ W Q:=h
theorem cR{d:jQ}{De:gw}(bZ:bS)(e:ρ=bZ)(h:d De bZ W):d De ρ W:=by rw[e];exact h
end L2
namespace L2
open PySem PySem.Spec PyProof.Rows
variable {c:Cell}{a:Addr}
abbrev jY:=List DV->Wd->(DV->Wd->Prop)->(Addr->Prop)->Prop
abbrev we(K:zn)(H:Hp)(W:Wd)(O:Addr->Prop)(E:XK)(X:Addr->Prop):DC:=⟨K,kN,H,fun a=>(W a).isSome=true,O,E,X⟩
def eC(K:zn)(S:jY):Sp:=fun vs H Q E=>∃(O:Addr->Prop) (aK:List DV) (W:Wd) (R:DV->Wd->Prop) (X:Addr->Prop),
 (∀ a,O a->H a≠none)/\(∀ p c,W p=some c->¬ O p/\bP (we K H W O E X) W H p c)/\aD (we K H W O E X) (Fz (we K H W O E X) W H) aK vs/\S aK W R X /\
 (∀ v dv H' W',R dv W'->(∀ a o,H a=some o->W a=none->H' a=some o)->(∀ a,H a≠none->H' a≠none)->(∀ p c,W' p=some c->(H p=none\/(W p).isSome=true)/\¬ O p/\bP (we K H W O E X) W' H' p c)->dX (we K H W O E X) (Fz (we K H W O E X) W' H') dv v->Q v H') /\
 ∀ c H',X c->(∀ a o,H a=some o->W a=none->H' a=some o)->E (.ref c) none H'
def Ie(R:DV->Wd->Prop):gw:=⟨fun _ W=>R (.im .none) W,fun dv W=>R dv W,fun _ _=>False,fun _ _=>False⟩
section
variable {P:sB}{w:World}{K:zn}{mg:xL}{base:Heap}{x qual:Str}{st:Stmt}{f:Addr}{fd:wT}{N ps:wv}{k:Nat}{Sd:jY}
theorem DU{vs:List V}{H:Hp}{Q:VK}{E:XK}{t:TS}(h:eC K Sd vs H Q E)(hb:∀ O X W,∃ d,LS (we K H W O E X) t d/\∀ aK R,Sd aK W R X->d (Ie R) (cf N aK) W):t { nx:=fun _ H'=>Q .cS H',rt:=Q } (start N vs) H:=by
 obtain⟨O,aK,W,R,X,hO,hc,hv,hS,hR,hX⟩:=h;obtain⟨d,hd,hb⟩:=hb O X W;have th:∀ p c,W p=some c->H p≠none:=fun p c e=>by
  have h2:=(hc p c e).2;cases c with
  | lst aK=>obtain⟨xs,e,r⟩:=h2;rw[e];exact fun z=>nomatch z
  | aE g n=>exact h2.1.elim
  | part=>exact Mu.ne h2
  | dk bO=>obtain⟨ks,e,k,r⟩:=h2;rw[e];exact fun z=>nomatch z
  | dt bO=>obtain⟨ks,e,k,r⟩:=h2;rw[e];exact fun z=>nomatch z
  | ob _ _ bO=>obtain⟨ks,e,k,r⟩:=h2;rw[e];exact fun z=>nomatch z
 have D:DR (we K H W O E X) (start N vs) H (cf N aK) W:=by
  refine⟨⟨fun z=>z.elim,fun z=>z.elim,fun c VN H' hf=>hX c H' VN fun a o e e2=>hf a o e (by show ¬ (W a).isSome=true;rw[e2];exact fun z=>nomatch z)⟩,fun a o e _=>e,hO,fun a ha=>?_,?_,fun p c e=>⟨.inr (by show(W p).isSome=true;rw[e];rfl),hc p c e⟩⟩
  ·cases q:W a with
   | none=>have pI:(W a).isSome=true:=ha;rw[q]at pI;cases pI
   | some c=>exact th a c q
  ·unfold start cf;rw[hv.length];exact Slots.start _ hv
 have fr:∀ bB H' bZ W',DR (we K H W O E X) bB H' bZ W'->(∀ a o,H a=some o->W a=none->H' a=some o)/\(∀ a,H a≠none->H' a≠none)/\∀ p c,W' p=some c->(H p=none\/(W p).isSome=true)/\¬ O p/\bP (we K H W O E X) W' H' p c:=fun bB H' bZ W' D' =>
  ⟨fun a o e e2=>D'.fr a o e (by show ¬ (W a).isSome=true;rw[e2];exact fun z=>nomatch z),fun a ha=>by
   cases q:W a with
   | none=>cases q2:H a with
    | none=>exact absurd q2 ha
    | some o=>rw[D'.fr a o q2 (by show ¬ (W a).isSome=true;rw[q];exact fun z=>nomatch z)];exact fun z=>nomatch z
   | some c=>exact D'.th a (by show(W a).isSome=true;rw[q];rfl),fun p c e=>D'.ce p c e⟩
 refine hd.go D (hb aK R hS) ⟨fun bB H' bZ W' D' s q=>?_,fun bB H' bZ W' D' s q=>q.elim,fun bB H' bZ W' D' s q=>q.elim,fun x dv bB H' bZ W' D' s v q=>?_⟩
 ·obtain⟨f1,f2,f3⟩:=fr bB H' bZ W' D';exact hR .cS (.im .none) H' W' q f1 f2 f3 rfl
 ·obtain⟨f1,f2,f3⟩:=fr bB H' bZ W' D';exact hR x dv H' W' q f1 f2 f3 v
theorem Ig(hlen:∀ aK W R X,Sd aK W R X->aK.length=ps.length):∀ vs H Q E,eC K Sd vs H Q E->vs.length=ps.length:=fun vs H Q E zz=>by obtain⟨O,aK,W,R,X,_,_,hv,hS,_⟩:=zz; rw[<- hv.length];exact hlen aK W R X hS
theorem cL.wj(F:cL K x qual st f fd)(S:av N ps (defScope st))(hlen:∀ aK W R X,Sd aK W R X->aK.length=ps.length)(c7:∀(bC:Value) (A:sK) (outer:List Env) (s:Shared) (H:Hp) (E:XK),cT k (A.deeper (envOfC qual (defScope st) s.heap.objs.size f bC)) ->
   ∃ t,tR (eW cU P w K mg base N qual (defScope st) f bC A outer s H E).Ap (defBody st) t/\∀ O X W,∃ d,LS (we K H W O E X) t d/\∀ aK R,Sd aK W R X->d (Ie R) (cf N aK) W):ba P w K mg base cU (k+1) f fd ps (eC K Sd) :=
 F.Mn S (Ig hlen) fun bC A outer s H vs Q E hr h=>by
  obtain⟨t,h1,h2⟩:=c7 bC A outer s H E hr;exact⟨t,h1,DU h h2⟩
end
open Classical in
noncomputable def pv (W:Wd) (D:Addr->Prop):Wd:=fun a=>if D a then W a else none
open Classical in
noncomputable def A8 (W:Wd) (D:Addr->Prop) (W':Wd):Wd:=fun a=>match W' a with
 | some c=>if c.plain=true then some c else if D a then none else W a
 | none=>if D a then none else W a
def dW(S:jY)(X:Addr->Prop):List DV->Wd->DK->Prop:=fun as W Q=>∃ D:Addr->Prop,(∀ a c,D a->W a=some c->c.plain=true)/\S as (pv W D) (fun dv W'=>(∀ a,W' a≠none->D a\/W a=none)->Q dv (A8 W D W')) X
section
variable {C C':DC}{σ:St}{H H':Hp}{ρ:bS}{W W':Wd}{Qd:DK}{Q:VK}{F:Hp}{D:Addr->Prop}
theorem dX.conv(hK:C'.K=C.K):∀{dv:DV} {x:V},dX C F dv x->dX C' F dv x
 | .im _,_,h=>h
 | .pt _,_,h=>h
 | .cst _,_,⟨a,e,h⟩=>⟨a,e,fun H=>by rw[hK];exact h H⟩
 | .rf _,_,h=>h
 | .ty _,_,h=>h
 | .xh _,_,h=>h
 | .raw _,_,h=>h
 | .jh _,_,⟨a,e,h⟩=>⟨a,e,by rw[hK];exact h⟩
 | .tp _,_,h=>h
theorem aD.conv(hK:C'.K=C.K):∀{aK:List DV} {xs:List V},aD C F aK xs->aD C' F aK xs
 | [],_,h=>h
 | _::_,_,⟨y,ys,e,h,r⟩=>⟨y,ys,e,h.conv hK,aD.conv hK r⟩
theorem bP.conv(hK:C'.K=C.K){p:Addr}(hp:c.plain=true)(s:aM (Fz C W H) (Fz C' W' H))(h:bP C W H p c):bP C' W' H p c:=by
 cases c with
 | lst aK=>obtain⟨xs,e,r⟩:=h;exact⟨xs,e,(r.mono s).conv hK⟩
 | aE g n=>cases hp
 | part=>cases hp
 | dk bO=>obtain⟨ks,e,k,r⟩:=h;exact⟨ks,e,k,(r.mono s).conv hK⟩
 | dt bO=>obtain⟨ks,e,k,r⟩:=h;exact⟨ks,e,k,(r.mono s).conv hK⟩
 | ob _ _ bO=>obtain⟨ks,e,k,r⟩:=h;exact⟨ks,e,k,(r.mono s).conv hK⟩
theorem fZ(h:pv W D a=some c):D a/\W a=some c:=by
 unfold pv at h;split at h
 ·exact⟨by assumption,h⟩
 ·cases h
theorem Nr(h:D a):pv W D a=W a:=by unfold pv;rw[aaN h]
theorem Ih(h:¬ D a):pv W D a=none:=by unfold pv;rw[aaD h]
theorem jZ(h:A8 W D W' a=some c):(W' a=some c/\c.plain=true)\/(¬ D a/\W a=some c/\(W' a=none\/∃ c',W' a=some c'/\c'.plain=false)):=by
 unfold A8 at h;cases q:W' a with
 | some c' =>
  rw[q]at h;dsimp only at h;split at h
  ·cases h;exact .inl ⟨rfl,by assumption⟩
  ·split at h
   ·cases h
   ·exact .inr ⟨by assumption,h,.inr ⟨c',rfl,by simpa using ‹¬ c'.plain=true›⟩⟩
 | none =>
  rw[q]at h;dsimp only at h;split at h
  ·cases h
  ·exact .inr ⟨by assumption,h,.inl rfl⟩
theorem Nt(h:W' a=some c)(hp:c.plain=true):A8 W D W' a=some c:=by
 unfold A8;rw[h];exact aaN hp
theorem DW(hd:¬ D a)(h:W' a=none):A8 W D W' a=W a:=by
 unfold A8;rw[h];exact aaD hd
theorem uM(hW:∀ a,W' a≠none->D a\/W a=none)(hd:¬ D a)(h:W a=some c):A8 W D W' a=some c:=by
 cases q:W' a with
 | none=>rw[DW hd q];exact h
 | some c' =>
  rcases hW a (by rw[q];exact fun z=>nomatch z)with z | z
  ·exact absurd z hd
  ·rw[z]at h;cases h
theorem DX{K:zn}{S:jY}{X:Addr->Prop}{E:XK}(hK:C.K=K)(hX:∀ c H',X c->(∀ a o,C.H0 a=some o->¬ C.T a->H' a=some o)->E (.ref c) none H'){as:List DV}{xs:List V}(R:DR C σ H ρ W)(h:aD C (Fz C W H) as xs)(hd:dW S X as W Qd)(k:KE C σ ρ W H Qd Q):eC K S xs H Q E:=by
 obtain⟨D,qZ,hS⟩:=hd;have cs:∀ H1,aM (Fz C W H1) (Fz (we K H (pv W D) (fun a=>C.O a\/((W a).isSome=true/\¬ D a)) E X) (pv W D) H1):=fun H1 a o e=>by
  obtain⟨h1,h2⟩:=au.mp e;refine au.mpr ⟨fun z=>h1 ?_,h2⟩;rcases z with(z | z) | z
  ·exact .inl z
  ·exact .inr z.1
  ·cases q:pv W D a with
   | none=>rw[q]at z;cases z
   | some c=>exact .inr (by rw[(fZ q).2];rfl)
 refine⟨fun a=>C.O a\/((W a).isSome=true/\¬ D a),as,pv W D,_,X,fun a ha=>?_,fun p c e=>?_,(h.mono (cs H)).conv hK.symm,hS,fun v dv H' W' q f1 f2 f3 hv=>?_,fun c H' hc f1=>hX c H' hc fun a o e ht=>?_⟩
 ·rcases ha with ha | ha
  ·exact R.ho a ha
  ·cases q:W a with
   | none=>rw[q]at ha;cases ha.1
   | some c=>exact R.there q
 ·obtain⟨Ce,e'⟩:=fZ e;obtain⟨g1,g2,g3⟩:=R.ce p c e';exact⟨fun z=>z.elim g2 fun z=>z.2 Ce,g3.conv (C':=we K H (pv W D) (fun a=>C.O a\/((W a).isSome=true/\¬ D a)) E X) hK.symm (qZ p c Ce e') (cs H)⟩
 ·have RI:∀ a,W' a≠none->D a\/W a=none:=fun a ha=>by
   cases q':W' a with
   | none=>exact absurd q' ha
   | some c =>
    obtain⟨g1,g2,_⟩:=f3 a c q';rcases g1 with g1 | g1
    ·exact .inr (R.fresh g1)
    ·cases q2:pv W D a with
     | none=>rw[q2]at g1;cases g1
     | some c'=>exact .inl (fZ q2).1
  have eqv:∀ H1,aM (Fz (we K H (pv W D) (fun a=>C.O a\/((W a).isSome=true/\¬ D a)) E X) W' H1) (Fz C (A8 W D W') H1):=fun H1 a o e=>by
   obtain⟨h1,h2⟩:=au.mp e;refine au.mpr ⟨fun z=>h1 ?_,h2⟩;rcases z with z | z
   ·exact .inl (.inl z)
   ·cases q:A8 W D W' a with
    | none=>rw[q]at z;cases z
    | some c =>
     rcases jZ q with⟨g,_⟩ | ⟨g1,g2,_⟩
     ·exact .inr (by rw[g];rfl)
     ·exact .inl (.inr ⟨by rw[g2];rfl,g1⟩)
  have hk:∀ p c,¬ D p->W p=some c->H' p=H p:=fun p c Ce e=>by
   cases q:H p with
   | none=>exact absurd q (R.there e)
   | some o=>exact f1 p o q (Ih Ce)
  obtain⟨R',s'⟩:=R.step (W':=A8 W D W') (H':=H') (fun a z=>by
    cases q:A8 W D W' a with
    | none=>rw[q]at z;cases z
    | some c =>
     rcases jZ q with⟨g,_⟩ | ⟨g1,g2,_⟩
     ·obtain⟨e1,_,_⟩:=f3 a c g;rcases e1 with e1 | e1
      ·exact .inr e1
      ·cases q2:pv W D a with
       | none=>rw[q2]at e1;cases e1
       | some c'=>exact .inl (by rw[(fZ q2).2];rfl)
     ·exact .inl (by rw[g2];rfl)) (fun a o e w'=>f1 a o e (by
      cases q2:pv W D a with
      | none=>rfl
      | some c'=>rw[(fZ q2).2]at w';cases w')) f2 fun s p c e=>by
   rcases jZ e with⟨g,hp⟩ | ⟨g1,g2,g3⟩
   ·obtain⟨e1,e2,e3⟩:=f3 p c g;refine⟨?_,fun z=>e2 (.inl z),e3.conv hK hp (eqv H')⟩;rcases e1 with e1 | e1
    ·exact .inl (R.J6 e1)
    ·cases q2:pv W D p with
     | none=>rw[q2]at e1;cases e1
     | some c'=>exact(R.ce p c' (fZ q2).2).1
   ·obtain⟨e1,e2,e3⟩:=R.ce p c g2;refine⟨e1,e2,?_⟩;have hp:=hk p c g1 g2;cases c with
    | lst aK=>obtain⟨xs,e,r⟩:=e3;exact⟨xs,by rw[hp];exact e,r.mono s⟩
    | part=>show Mu (H' p);rw[hp];exact e3
    | dk bO=>obtain⟨ks,e,k,r⟩:=e3;exact⟨ks,by rw[hp];exact e,k,r.mono s⟩
    | dt bO=>obtain⟨ks,e,k,r⟩:=e3;exact⟨ks,by rw[hp];exact e,k,r.mono s⟩
    | ob _ _ bO=>obtain⟨ks,e,k,r⟩:=e3;exact⟨ks,by rw[hp];exact e,k,r.mono s⟩
    | aE g n =>
     obtain⟨r,eg,u⟩:=e3;have dg:¬ D g:=fun z=>by have:=qZ g _ z eg;cases this
     refine⟨R.ok.rs r hp (hk g _ dg eg),uM RI dg eg,fun t' g' n' z=>?_⟩;rcases jZ z with⟨_,z2⟩ | ⟨_,z2,_⟩
     ·cases z2
     ·exact u t' g' n' z2
  exact k v dv H' _ R' s' ((hv.mono (eqv H')).conv hK) (q RI)
 ·refine f1 a o (R.fr a o e ht) ?_;cases q2:pv W D a with
  | none=>rfl
  | some c' =>
   rcases (R.ce a c' (fZ q2).2).1 with z | z
   ·rw[z]at e;cases e
   ·exact absurd z ht
end
end L2
namespace L2
open PySem PySem.Spec PyProof.Rows
variable {as:List DV}{X:Addr->Prop}
def putD(f:Str)(v:DV):List (Str×DV)->List (Str×DV)
 | []=>[(f,v)]
 | (g,x)::r=>if g=f then(g,v)::r else(g,x)::putD f v r
section
variable {C:DC}{σ:St}{H H':Hp}{ρ:bS}{W W':Wd}{Qd:DK}{Q:VK}{F:Hp}{K:zn}{ta tv:TE}{da dv:cW}{ts:TA}{ds:lN}{kC:Addr}{f m:Str}
theorem r8:∀{fs:List (Str×DV)} {ff:List (Str×V)},ff.map (·.1)=fs.map (·.1)->aD C F (fs.map (·.2)) (ff.map (·.2))->∀{d:DV},fs.lookup f=some d->∃ v,ff.lookup f=some v/\dX C F d v
 | [],_,_,_,_,e=>by cases e
 | (g,x)::r,[],hk,_,_,_=>by cases hk
 | (g,x)::r,(g',x')::r',hk,⟨y,ys,ey,hy,hr⟩,d,e=>by
  have Dl:g'::r'.map (·.1)=g::r.map (·.1):=hk;have VO:x'::r'.map (·.2)=y::ys:=ey;injection Dl with k1 k2
  injection VO with y1 y2
  subst k1 y1 y2;rw[abd]at e ⊢;cases q:(f == g') with
  | true=>rw[q]at e;cases e;exact⟨x',rfl,hy⟩
  | false=>rw[q]at e;exact r8 k2 hr e
theorem zu:∀{fs:List (Str×DV)} {ff:List (Str×V)},ff.map (·.1)=fs.map (·.1)->fs.lookup f=none->ff.lookup f=none
 | [],[],_,_=>rfl
 | [],_::_,hk,_=>by cases hk
 | (g,x)::r,[],hk,_=>by cases hk
 | (g,x)::r,(g',x')::r',hk,e=>by
  have Dl:g'::r'.map (·.1)=g::r.map (·.1):=hk;injection Dl with k1 k2
  subst k1;rw[abd]at e ⊢;cases q:(f == g') with
  | true=>rw[q]at e;cases e
  | false=>rw[q]at e;exact zu k2 e
theorem DY{d:DV}{v:V}(hv:dX C F d v):∀{fs:List (Str×DV)} {ff:List (Str×V)},ff.map (·.1)=fs.map (·.1)->aD C F (fs.map (·.2)) (ff.map (·.2))->(gg f v ff).map (·.1)=(putD f d fs).map (·.1)/\aD C F ((putD f d fs).map (·.2)) ((gg f v ff).map (·.2))
 | [],[],_,_=>⟨rfl,aD.one hv⟩
 | [],_::_,hk,_=>by cases hk
 | (g,x)::r,[],hk,_=>by cases hk
 | (g,x)::r,(g',x')::r',hk,⟨y,ys,ey,hy,hr⟩=>by
  have Dl:g'::r'.map (·.1)=g::r.map (·.1):=hk;have VO:x'::r'.map (·.2)=y::ys:=ey;injection Dl with k1 k2
  injection VO with y1 y2
  subst k1 y1 y2;unfold gg putD
  by_cases h:g'=f
  ·rw[aaN h,aaN h];exact⟨by show g'::_=g'::_;rw[k2],v,_,rfl,hv,hr⟩
  ·rw[aaD h,aaD h];obtain⟨a1,a2⟩:=DY hv k2 hr;exact⟨by show g'::_=g'::_;rw[a1],x',_,rfl,hy,a2⟩
def RJ(K:zn)(f:Str)(da:cW):cW:=fun ρ W Q=>da ρ W fun a W1=>∃ p k d fs v,a=.pt p/\W1 p=some (.ob k d fs)/\lX K k/\cu K k f/\fs.lookup f=some v/\Q v W1
instance [hk:lO C K][ia:LE C ta da]:LE C (LM K ta f) (RJ K f da):=⟨fun D h k=>ia.go D h fun x dx H1 W1 D1 s1 v1 zz=>by
 obtain⟨p,kc,d,fs,v,e1,e2,c,n,l,q⟩:=zz
 subst e1;obtain⟨_,_,ff,g1,g2,g3⟩:=D1.ce p _ e2;obtain⟨u,l',hu⟩:=r8 g2 g3 l;exact⟨p,kc,d,ff,u,v1,g1,c,n,l',k.mono s1 |>.now D1 hu q⟩⟩
def zv(K:zn)(f:Str)(da dv:cW):jQ:=fun De ρ W=>dv ρ W fun y W1=>da ρ W1 fun a W2=>∃ p k d fs,a=.pt p/\W2 p=some (.ob k d fs)/\lX K k/\cu K k f/\fs.length < 1000/\De.nx ρ (aH W2 p (.ob k d (putD f y fs)))
theorem len_eq{fs:List (Str×DV)}{ff:List (Str×V)}(h:ff.map (·.1)=fs.map (·.1)):ff.length=fs.length:=by have:=abJ List.length h;simpa using this
theorem DR.RK{p k d:Addr}{fs:List (Str×DV)}{ff:List (Str×V)}{y:DV}{v:V}(D:DR C σ H ρ W)(e:W p=some (.ob k d fs))(g2:ff.map (·.1)=fs.map (·.1))(g3:aD C (Fz C W H) (fs.map (·.2)) (ff.map (·.2)))(hv:dX C (Fz C W H) y v):DR C σ (upd H p (.ins k d (gg f v ff))) ρ (aH W p (.ob k d (putD f y fs)))/\aM (Fz C W H) (Fz C (aH W p (.ob k d (putD f y fs))) (upd H p (.ins k d (gg f v ff)))) :=
 D.X1 e rfl rfl fun s=>by
  obtain⟨a1,a2⟩:=DY (f:=f) hv g2 g3;exact⟨_,dF,a1,a2.mono s⟩
instance [hk:lO C K][ia:LE C ta da][iv:LE C tv dv]:LS C (LN K ta tv f) (zv K f da dv):=⟨fun D h m=>iv.go D h fun y dy H1 W1 D1 s1 v1 h1=>ia.go D1 h1 fun x dx H2 W2 D2 s2 v2 zz=>by
 obtain⟨p,kc,d,fs,e1,e2,c,n,l,q⟩:=zz
 subst e1;obtain⟨_,_,ff,g1,g2,g3⟩:=D2.ce p _ e2;obtain⟨D3,s3⟩:=D2.RK (f:=f) e2 g2 g3 (v1.mono s2);exact⟨p,kc,d,ff,v2,g1,c,n,by rw[len_eq g2];exact l,m.nx _ _ _ _ D3 ((s1.trans s2).trans s3) q⟩⟩
def r9(K:zn)(f:Str)(dr:rR)(da dv:cW):jQ:=fun De ρ W=>da ρ W fun a W1=>∃ p k d fs v,a=.pt p/\W1 p=some (.ob k d fs)/\lX K k/\cu K k f/\fs.lookup f=some v /\
 dv ρ W1 fun y W2=>dr v y W2 fun z W3=>∃ d' ff,W3 p=some (.ob k d' ff)/\ff.length < 1000/\De.nx ρ (aH W3 p (.ob k d' (putD f z ff)))
instance {rd:R2}{dr:rR}[hk:lO C K][ia:LE C ta da][iv:LE C tv dv][ir:B5 C rd dr]:LS C (qY K ta tv rd f) (r9 K f dr da dv):=⟨fun{σ H ρ W De D'} D h m=>ia.go D h fun x dx H1 W1 D1 s1 v1 zz=>by
 obtain⟨p,kc,d,fs,v,e1,e2,c,n,l,q⟩:=zz
 subst e1;obtain⟨_,_,ff,g1,g2,g3⟩:=D1.ce p _ e2;obtain⟨u,l',hu⟩:=r8 g2 g3 l;refine⟨p,kc,d,ff,u,v1,g1,c,n,l',iv.go D1 q fun y dy H2 W2 D2 s2 v2 q2=>?_⟩;refine ir.go (Qd:=fun z W3=>∃ d' ff,W3 p=some (.ob kc d' ff)/\ff.length < 1000/\De.nx ρ (aH W3 p (.ob kc d' (putD f z ff)))) D2 (hu.mono s2) v2 q2 fun z dz H3 W3 D3 s3 v3 ⟨d',fs2,e3,l3,q3⟩=>?_;obtain⟨_,_,fs3,k1,k2,k3⟩:=D3.ce p _ e3;obtain⟨D4,s4⟩:=D3.RK (f:=f) e3 k2 k3 v3;exact⟨d',fs3,k1,by rw[len_eq k2];exact l3,m.nx _ _ _ _ D4 (((s1.trans s2).trans s3).trans s4) q3⟩⟩
def Kr(kC:Addr)(m:Str)(g:List DV->Wd->DK->Prop)(da:cW)(ds:lN):cW:=fun ρ W Q=>da ρ W fun a W1=>∃ p d fs,a=.pt p/\W1 p=some (.ob kC d fs)/\fs.lookup m=none/\ds ρ W1 fun vs W2=>g (a::vs) W2 Q
instance {sp:Sp}{E:XK}{g:List DV->Wd->DK->Prop}[ir:HP C sp E g][ia:LE C ta da][is:LA C ts ds]:LE C (uf kC m sp [] E ta ts) (Kr kC m g da ds):=⟨fun D h k=>ia.go D h fun x dx H1 W1 D1 s1 v1 zz=>by
 obtain⟨p,d,fs,e1,e2,l,q⟩:=zz
 subst e1;obtain⟨_,_,ff,g1,g2,g3⟩:=D1.ce p _ e2;refine⟨p,d,ff,v1,g1,zu g2 l,is.go D1 q fun xs aK H2 W2 D2 s2 v2 q2=>?_⟩;rw[ace];exact ir.go (as:=.pt p::aK) D2 ⟨x,xs,rfl,v1,v2⟩ q2 (k.mono (s1.trans s2))⟩
def Kt(kC:Addr)(g:List DV->Wd->DK->Prop)(ds:lN):cW:=fun ρ W Q=>ds ρ W fun vs W1=>∀ x d,W1 x=none->W1 d=none->d≠x->g (.pt x::vs) (aH W1 x (.ob kC d [])) fun v W2=>v=.im .none/\Q (.pt x) W2
instance {sp:Sp}{E:XK}{g:List DV->Wd->DK->Prop}[ir:HP C sp E g][is:LA C ts ds]:LE C (CJ kC sp [] E ts) (Kt kC g ds):=⟨fun D h k=>is.go D h fun xs aK H1 W1 D1 s1 v1 q=>fun x d hx hd mB=>by
 rw[ace];obtain⟨D2,s2,_⟩:=D1.GA hd (.own x);have hx2:upd H1 d (.own x) x=none:=by rw[bw (abi mB)];exact hx
 obtain⟨D3,s3⟩:=D2.QB (c:=.ob kC d []) (o:=.ins kC d []) hx2 rfl fun s=>⟨[],dF,rfl,rfl⟩;exact ir.go (as:=.pt x::aK) D3 ⟨_,_,rfl,rfl,v1.mono (s2.trans s3)⟩ (q x d (D1.fresh hx) (D1.fresh hd) mB) fun v dv H2 W2 D4 s4 hv zz=>by
  obtain⟨e,q2⟩:=zz
  subst e;exact⟨hv,k _ (.pt x) _ _ D4 (((s1.trans s2).trans s3).trans s4) rfl q2⟩⟩
end
structure iR(P:sB)(w:World)(K:zn)(mg:xL)(base:Heap)(k:Nat)(C:Addr)(m:Str)(f:Addr)(fd:wT)(ps:wv)(sp:Sp):Prop where
 cls:lX K C
 me:Meth K C m f
 ok:ba P w K mg base cU k f fd ps sp
 b:Binds K fd ps []
structure VP(P:sB)(w:World)(K:zn)(mg:xL)(base:Heap)(k:Nat)(C:Addr)(x:Str)(f:Addr)(fd:wT)(ps:wv)(sp:Sp):Prop where
 ma:Mk K C f
 ok:ba P w K mg base cU k f fd ps sp
 b:Binds K fd ps []
 m:mg x=some (.ref C)
section
variable {X:Cx}{o e value:Expr}{es:ut}{x m f:Str}{C fa:Addr}{p pos pos' apos CI:Pos}{ta tv:TE}{t:TA}{k j:Nat}{fd:wT}{ps:wv}{sp:Sp}
theorem bx(he:SE X e ta)(hb:autoParam (attributeBase e f X.env (eval e X.env)=eval e X.env) ra0):SE X (.Attribute e f pos) (LM X.K ta f):=⟨LP he.run hb⟩
theorem cO(ha:SE X o ta)(hv:SE X value tv)(hs:autoParam (swapsWith value (some (.Attribute o f pos')) pos.line X.env=pure false) ra0):SS X (.Assign [.Attribute o f pos'] value pos) (LN X.K ta tv f):=⟨LQ ha.run hv.run hs⟩
theorem nX{op:Operator}{rd:R2}(Uu:gE X (inplaceOp op) rd)(ha:SE X o ta)(hv:SE X value tv):SS X (.AugAssign (.Attribute o f CI) op value pos) (qY X.K ta tv rd f):=⟨Az ha.run hv.run fun pins s σ H x y u v Q I rx ry h=>Uu pins s σ H x y u v Q I rx ry h⟩
theorem dE{pl:Sem Bool}(D:iR X.prog X.w X.K X.mg X.base k C m fa fd ps sp)(hr:cT j X.A)(he:SE X o ta)(ha:SA X (e::es) t)(hk:autoParam (k<=j) ra7)(hs:autoParam ((e::es).all noStar=true) ra0)(ht:eval (.Call (.Attribute o m apos) (e::es) [] pos) X.env=(do
   let ov <- eval o X.env
   standAt apos.atName
   let (f,first) <- holding [ov] (getMethod ov m pl)
   callWith pos f first (backTo pos (starEach (e::es) X.env)) (backToKw pos (keywordEach [] X.env))):=by rfl):SE X (.Call (.Attribute o m apos) (e::es) [] pos) (uf C m sp [] E0 ta t) :=
 ⟨G4 (pl:=pl) he.run D.cls D.me (D.ok.mono hk) hr D.b .nil yQ ha.run (cI es X.env (by rw[aba,aaK]at hs;exact hs.1)) (eQ (by rw[aba,aaK]at hs;exact hs.2)) ht⟩
theorem zw{pl:Sem Bool}(D:iR X.prog X.w X.K X.mg X.base k C m fa fd ps sp)(hr:cT j X.A)(he:SE X o ta)(hk:autoParam (k<=j) ra7)(ht:eval (.Call (.Attribute o m apos) [] [] pos) X.env=(do
   let ov <- eval o X.env
   standAt apos.atName
   let (f,first) <- holding [ov] (getMethod ov m pl)
   callWith pos f first (backTo pos (starEach [] X.env)) (backToKw pos (keywordEach [] X.env))):=by rfl):SE X (.Call (.Attribute o m apos) [] [] pos) (uf C m sp [] E0 ta ue) :=
 ⟨CK (pl:=pl) he.run D.cls D.me (D.ok.mono hk) hr D.b .nil yQ ht⟩
theorem Nu(D:VP X.prog X.w X.K X.mg X.base k C x fa fd ps sp)(hr:cT j X.A)(ha:SA X (e::es) t)(hk:autoParam (k+1<=j) ra7)(hs:autoParam ((e::es).all noStar=true) ra0)(hg:autoParam (Gl X x) ra0)(ug:autoParam ((x == ("__debug__":Str))=false) ra1) :
  SE X (.Call (.Name x p) (e::es) [] pos) (CJ C sp [] E0 t) :=
 ⟨G5 D.ma D.ok (hr.mono hk) hg D.m D.b .nil yQ ha.run ug (cI es X.env (by rw[aba,aaK]at hs;exact hs.1)) (eQ (by rw[aba,aaK]at hs;exact hs.2))⟩
end
section
variable {K:zn}{ρ:bS}{W:Wd}{Q:DK}{De:gw}{da dv:cW}{ds:lN}{ts:List (PyData ⊕ Addr)}{f m:Str}{kC:Addr}{g:List DV->Wd->DK->Prop}{S:jY}{v:DV}{vs:List DV}
theorem RL(h:da ρ W fun a W1=>∃ p k d fs v,a=.pt p/\W1 p=some (.ob k d fs)/\lX K k/\cu K k f/\fs.lookup f=some v/\Q v W1):RJ K f da ρ W Q:=h
theorem Nv(h:da ρ W fun a W1=>∃ p d fs,a=.pt p/\W1 p=some (.ob kC d fs)/\fs.lookup m=none/\ds ρ W1 fun vs W2=>g (a::vs) W2 Q):Kr kC m g da ds ρ W Q:=h
theorem Nw(h:ds ρ W fun vs W1=>∀ x d,W1 x=none->W1 d=none->d≠x->g (.pt x::vs) (aH W1 x (.ob kC d [])) fun v W2=>v=.im .none/\Q (.pt x) W2):Kt kC g ds ρ W Q:=h
theorem xu(hl:ts.length<=sizeLine)(h:Q (.tp ts) W):yZ (ts.map Mx) W Q:=⟨by rw[aal];exact hl,.inr (.inr ⟨ts,rfl,h⟩)⟩
end
def DZ(c:Cell):Prop:=∃ ds,c=.lst (ds.map .im)/\gK ds=true
def Ii:List (PyData ⊕ Addr)->Prop
 | []=>True
 | .inl d::r=>Im d=true/\Ii r
 | .inr _::r=>Ii r
def Yo:DV->Prop
 | .im d=>Im d=true
 | .pt _=>True
 | .tp ts=>Ii ts
 | _=>False
open Classical in
noncomputable def addW (W W':Wd):Wd:=fun a=>if ∃ c,W' a=some c/\DZ c then W' a else W a
def Yp(S:jY)(X:Addr->Prop):List DV->Wd->DK->Prop:=fun as W Q=>∃ ds,eR (dat 4 W) as=some ds/\S (ds.map .im) W0 (fun dv W'=>Yo dv/\((∀ a,W' a≠none->W a=none)->Q dv (addW W W'))) X
section
variable {C:DC}{σ:St}{H H':Hp}{ρ:bS}{W W':Wd}{Qd:DK}{Q:VK}{F F':Hp}
theorem fT.tp(h:Tp F F'):∀{ts:List (PyData ⊕ Addr)} {vs:List V},Ii ts->fT F ts vs->fT F' ts vs
 | [],_,_,h=>h
 | .inl _::_,_,hi,⟨y,ys,e,h1,r⟩=>⟨y,ys,e,Rep.tp h hi.1 h1,fT.tp h hi.2 r⟩
 | .inr _::_,_,hi,⟨ys,e,r⟩=>⟨ys,e,fT.tp h hi r⟩
theorem dX.tp{C':DC}(h:Tp F F'):∀{dv:DV} {x:V},Yo dv->dX C' F dv x->dX C F' dv x
 | .im _,_,hi,v=>Rep.tp h hi v
 | .pt _,_,_,v=>v
 | .tp _,_,hi,⟨a,vs,e,h1,r⟩=>⟨a,vs,e,h _ _ h1,r.tp h hi⟩
 | .cst _,_,hi,_=>hi.elim
 | .rf _,_,hi,_=>hi.elim
 | .ty _,_,hi,_=>hi.elim
 | .xh _,_,hi,_=>hi.elim
 | .raw _,_,hi,_=>hi.elim
 | .jh _,_,hi,_=>hi.elim
theorem ja{a:Addr}{c:Cell}(h:addW W W' a=some c):(W' a=some c/\DZ c)\/W a=some c:=by
 unfold addW at h;split at h
 ·rename_i z;obtain⟨c',e,hi⟩:=z;rw[e]at h;cases h;exact .inl ⟨e,hi⟩
 ·exact .inr h
theorem A9{a:Addr}{c:Cell}(hW:∀ a,W' a≠none->W a=none)(h:W a=some c):addW W W' a=some c:=by
 unfold addW;split
 ·rename_i z;obtain⟨c',e,hi⟩:=z;rw[hW a (by rw[e];exact fun z=>nomatch z)]at h;cases h
 ·exact h
theorem D0{K:zn}{S:jY}{E:XK}(hK:C.K=K)(hX:∀ c H',X c->(∀ a o,C.H0 a=some o->¬ C.T a->H' a=some o)->E (.ref c) none H'){xs:List V}(R:DR C σ H ρ W)(h:aD C (Fz C W H) as xs)(hd:Yp S X as W Qd)(k:KE C σ ρ W H Qd Q):eC K S xs H Q E:=by
 obtain⟨ds,e,hS⟩:=hd;have ra:=fU (fun dv x d h e=>R.dat 4 h e) h e;have Vp:aM (hide (fun a=>C.O a\/dO (W a)) H) (Fz (we K H W0 (fun a=>C.O a\/dO (W a)) E X) W0 H):=fun a o e=>by
  obtain⟨h1,h2⟩:=au.mp e;exact au.mpr ⟨fun z=>h1 (z.elim id fun z=>by cases z),h2⟩
 refine⟨fun a=>C.O a\/dO (W a),ds.map .im,W0,_,X,fun a ha=>?_,(fun p c e=>by cases e),aD.fi (ak.same Vp ra),hS,fun v dv H' W' q f1 f2 f3 hv=>?_,fun c H' hc f1=>hX c H' hc fun a o e ht=>f1 a o (R.fr a o e ht) rfl⟩
 ·rcases ha with ha | ha
  ·exact R.ho a ha
  ·obtain⟨c,e⟩:=fE ha;exact R.there e
 ·have s:aM H H':=fun a o e=>f1 a o e rfl;have RI:∀ a,W' a≠none->W a=none:=fun a ha=>by
   cases q':W' a with
   | none=>exact absurd q' ha
   | some c =>
    rcases (f3 a c q').1 with g1 | g1
    ·exact R.fresh g1
    ·cases g1
  obtain⟨R1,s1⟩:=R.same s;have Yq:Tp (Fz (we K H W0 (fun a=>C.O a\/dO (W a)) E X) W' H') (Fz C (addW W W') H'):=fun b zs e=>by
   obtain⟨h1,h2⟩:=au.mp e;refine au.mpr ⟨fun z=>?_,h2⟩;rcases z with z | z
   ·exact h1 (.inl (.inl z))
   ·cases q2:addW W W' b with
    | none=>rw[q2]at z;cases z
    | some c =>
     rcases ja q2 with⟨g,_⟩ | g
     ·exact h1 (.inr (by rw[g];rfl))
     ·obtain⟨u,e1,e2⟩:=(R1.ce b c g).2.2.mu R1.ok;rw[h2]at e1;cases e1;exact e2 zs rfl
  obtain⟨R',s'⟩:=R.step (W':=addW W W') (H':=H') (fun a z=>by
    cases q2:addW W W' a with
    | none=>rw[q2]at z;cases z
    | some c =>
     rcases ja q2 with⟨g,_⟩ | g
     ·rcases (f3 a c g).1 with g1 | g1
      ·exact .inr g1
      ·cases g1
     ·exact .inl (by rw[g];rfl)) (fun a o e _=>s a o e) f2 fun s2 p c e=>by
   rcases ja e with⟨g,es,rfl,hi⟩ | g
   ·obtain⟨e1,e2,e3⟩:=f3 p _ g;have hp:H p=none:=by
     rcases e1 with e1 | e1
     ·exact e1
     ·cases e1
    obtain⟨ys,g1,g2⟩:=e3;exact⟨.inl (R.J6 hp),R.nO hp,ys,g1,aD.fi (ak.tp Yq hi (g2.nQ))⟩
   ·obtain⟨e1,e2,e3⟩:=R.ce p c g;have hp:=gr s (R.there g);refine⟨e1,e2,?_⟩;cases c with
    | lst aK=>obtain⟨xs,e,r⟩:=e3;exact⟨xs,by rw[hp];exact e,r.mono s2⟩
    | part=>show Mu (H' p);rw[hp];exact e3
    | dk bO=>obtain⟨ks,e,k,r⟩:=e3;exact⟨ks,by rw[hp];exact e,k,r.mono s2⟩
    | dt bO=>obtain⟨ks,e,k,r⟩:=e3;exact⟨ks,by rw[hp];exact e,k,r.mono s2⟩
    | ob _ _ bO=>obtain⟨ks,e,k,r⟩:=e3;exact⟨ks,by rw[hp];exact e,k,r.mono s2⟩
    | aE t n =>
     obtain⟨r,eg,u⟩:=e3;refine⟨R.ok.rs r hp (gr s (R.there eg)),A9 RI eg,fun t' g' n' z=>?_⟩;rcases ja z with⟨_,_,z2,_⟩ | z2
     ·cases z2
     ·exact u t' g' n' z2
  exact k v dv H' _ R' s' (hv.tp Yq q.1) (q.2 RI)
def Tz(S:jY)(X:Addr->Prop):List DV->Wd->DK->Prop:=fun as W Q=>dW S X as W Q\/Yp S X as W Q
theorem Ea{K:zn}{S:jY}{E:XK}(hK:C.K=K)(hX:∀ c H',X c->(∀ a o,C.H0 a=some o->¬ C.T a->H' a=some o)->E (.ref c) none H'){xs:List V}(R:DR C σ H ρ W)(h:aD C (Fz C W H) as xs)(hd:Tz S X as W Qd)(k:KE C σ ρ W H Qd Q):eC K S xs H Q E :=
 hd.elim (fun z=>DX hK hX R h z k) (fun z=>D0 hK hX R h z k)
instance {K:zn}[hk:lO C K]{S:jY}:HP C (eC K S) E0 (Tz S fun _=>False):=⟨fun R h hd k=>Ea hk.eq (fun c H' hc _=>hc.elim) R h hd k⟩
end
section
variable {W:Wd}{Q:DK}{S:jY}{vs:List DV}{ds:wE}
theorem Ij(D:Addr->Prop)(hp:∀ a c,D a->W a=some c->c.plain=true)(h:S vs (pv W D) (fun dv W'=>(∀ a,W' a≠none->D a\/W a=none)->Q dv (A8 W D W')) X):Tz S X vs W Q:=.inl ⟨D,hp,h⟩
end
end L2
namespace L2
open PySem PySem.Spec PyProof.Rows
end L2
namespace L2
open PySem PySem.Spec PyProof.Rows
variable {x:Addr×Cell}
abbrev Ws:=List (Addr×Cell)
structure At(W:Wd)(L:Ws):Prop where
 nd:(L.map (·.1)).Nodup
 at_:∀ x∈L,W x.1=some x.2
def PlainL(L:Ws):Bool:=L.all fun x=>x.2.plain
theorem Ba{α:Type}{l:List α}{a:α}(h:l.Nodup)(ha:a ∉ l)(i:Nat):(l.set i a).Nodup:=by
 have pw:=abo.mp h;refine abo.mpr fun j k hj hk hl=>?_;rw[adU,adU];rw[adW]at hj hk;split
 ·split
  ·omega
  ·exact fun z=>ha (z▸abA _)
 ·split
  ·exact fun z=>ha (z▸abA _)
  ·exact pw j k hj hk hl
section
variable {W W':Wd}{L L':Ws}{a:Addr}{c c':Cell}{i:Nat}
theorem At.get(h:At W L)(i:Nat)(e:L[i]?=some (a,c)):W a=some c:=h.at_ _ (aa0 e)
theorem At.key(h:At W L)(i:Nat)(e:L[i]?=some (a,c)){j:Nat}(ej:L[j]?=some x)(ne:i≠j):x.1≠a:=fun z=>by
 have hi:=(aan.mp e).1;have hj:=(aan.mp ej).1;have e1:(L.map (·.1))[i]'(by simpa using hi)=a:=by rw[ac9,(aan.mp e).2]
 have e2:(L.map (·.1))[j]'(by simpa using hj)=a:=by rw[ac9,(aan.mp ej).2];exact z
 have pw:=abo.mp h.nd;rcases Nat.lt_or_gt_of_ne ne with l | l
 ·exact pw i j (by simpa using hi) (by simpa using hj) l (e1.trans e2.symm)
 ·exact pw j i (by simpa using hj) (by simpa using hi) l (e2.trans e1.symm)
theorem Eb(e:L[i]?=some (a,c)):(L.set i (a,c')).map (·.1)=L.map (·.1):=by
 rw[ad1];have hi:=(aan.mp e).1;have e1:(L.map (·.1))[i]'(by simpa using hi)=a:=by rw[ac9,(aan.mp e).2]
 exact adV (by simp) fun j h1 h2=>by
  rw[adU];split
  ·rename_i z;subst z;exact e1.symm
  ·rfl
theorem At.iG(h:At W L)(i:Nat)(e:L[i]?=some (a,c))(f:Fr a W W')(w:W' a=some c'):At W' (L.set i (a,c')):=by
 refine⟨by rw[Eb e];exact h.nd,fun x hx=>?_⟩;obtain⟨j,hj⟩:=abT hx;rw[List.getElem?_set]at hj;split at hj
 ·split at hj
  ·cases hj;exact w
  ·cases hj
 ·rename_i ne;exact f.at (h.key i e hj ne) (h.at_ _ (aa0 hj))
theorem At.set(h:At W L)(i:Nat)(e:L[i]?=some (a,c)):At (aH W a c') (L.set i (a,c')):=h.iG i e (fun b hb=>aw hb) aq
theorem At.old(h:At W L)(hn:W a=none)(hx:x∈L):x.1≠a:=fun z=>by
 have:=h.at_ x hx;rw[z,hn]at this;cases this
theorem At.mono(h:At W L)(k:∀ x∈L,W x.1=some x.2->W' x.1=some x.2):At W' L:=⟨h.nd,fun x hx=>k x hx (h.at_ x hx)⟩
theorem At.cons(h:At W L)(hn:W a=none)(f:Fr a W W')(w:W' a=some c):At W' ((a,c)::L) :=
 ⟨abD.mpr ⟨fun z=>by obtain⟨x,hx,e⟩:=abc.mp z;exact h.old hn hx e,h.nd⟩,fun x hx=>by
  rcases aat.mp hx with z | z
  ·subst z;exact w
  ·exact f.at (h.old hn z) (h.at_ x z)⟩
theorem At.perm(h:At W L)(s:L.Perm L'):At W L':=⟨(s.map _).nodup h.nd,fun x hx=>h.at_ x (s.mem_iff.mpr hx)⟩
theorem At.swap(h:At W L)(i:Nat)(hn:W a=none)(f:Fr a W W')(w:W' a=some c):At W' (L.set i (a,c)):=by
 refine⟨?_,fun x hx=>?_⟩
 ·rw[ad1];have hna:a ∉ L.map (·.1):=fun z=>by obtain⟨x,hx,e⟩:=abc.mp z;exact h.old hn hx e
  exact Ba h.nd hna i
 ·rcases adC hx with z | z
  ·exact f.at (h.old hn z) (h.at_ x z)
  ·subst z;exact w
theorem At.pv(h:At W L):At (pv W fun z=>z∈L.map (·.1)) L:=h.mono fun x hx e=>(Nr (D:=fun z=>z∈L.map (·.1)) (abc.mpr ⟨x,hx,rfl⟩)).trans e
theorem qp(h:PlainL L=true)(hx:x∈L):x.2.plain=true:=abz.mp h x hx
end
section
variable {W:Wd}{Q:DK}{S:jY}{X:Addr->Prop}{vs:List DV}{L:Ws}
theorem cg(h:At W L)(qZ:PlainL L=true)(k:∀(W1:Wd) (R:DV->Wd->Prop),At W1 L->(∀ dv W',(∀ W2,(∀ L',At W' L'->PlainL L'=true->At W2 L')->(∀ a c,a ∉ L.map (·.1)->W a=some c->W2 a=some c)->Q dv W2)->R dv W')->S vs W1 R X):Tz S X vs W Q:=by
 refine Ij (fun z=>z∈L.map (·.1)) (fun a c ha e=>?_) (k _ _ h.pv fun dv W' g hW=>?_)
 ·obtain⟨x,hx,rfl⟩:=abc.mp ha;have:=h.at_ x hx;rw[e]at this;rw[aa5 this];exact qp qZ hx
 ·exact g _ (fun L' hL hp=>hL.mono fun x hx e=>Nt e (qp hp hx)) fun a c ha e=>uM hW ha e
structure fe(K:zn)(k:Addr)(fs:wv):Prop where
 c:lX K k
 n:∀ f,f∈fs->cu K k f
variable {K:zn}{k p d:Addr}{fs:List (Str×DV)}{ns:wv}{f m:Str}{v:DV}{i:Nat}
theorem Ny{B:DV->Prop}(h:At W L)(c:fe K k ns)(i:Nat)(e:L[i]?=some (p,.ob k d fs))(n:f∈ns)(l:fs.lookup f=some v)(hq:B v):∃ p' k d fs v,DV.pt p=.pt p'/\W p'=some (.ob k d fs)/\lX K k/\cu K k f/\fs.lookup f=some v/\B v:=⟨p,k,d,fs,v,rfl,h.get i e,c.c,c.n f n,l,hq⟩
theorem sd{Pr:Wd->Prop}(h:At W L)(c:fe K k ns)(i:Nat)(e:L[i]?=some (p,.ob k d fs))(n:f∈ns)(hl:fs.length < 1000)(hq:∀ W',At W' (L.set i (p,.ob k d (putD f v fs)))->Fr p W W'->Pr W'):∃ p' k d fs,DV.pt p=.pt p'/\W p'=some (.ob k d fs)/\lX K k/\cu K k f/\fs.length < 1000/\Pr (aH W p' (.ob k d (putD f v fs))) :=
 ⟨p,k,d,fs,rfl,h.get i e,c.c,c.n f n,hl,hq _ (h.set i e) fun b hb=>aw hb⟩
theorem Ik{kC:Addr}{Pr:Prop}(h:At W L)(i:Nat)(e:L[i]?=some (p,.ob kC d fs))(l:fs.lookup m=none)(hq:Pr):∃ p' d fs,DV.pt p=.pt p'/\W p'=some (.ob kC d fs)/\fs.lookup m=none/\Pr:=⟨p,d,fs,rfl,h.get i e,l,hq⟩
end
section
variable {K:zn}{f:Str}{da dv:cW}{dr:rR}{ρ:bS}{W:Wd}{r:jQ}{nx ct bk:bS->Wd->Prop}{rt:DV->Wd->Prop}
theorem Nz(h:zv K f da dv ⟨r ⟨nx,rt,bk,ct⟩,rt,bk,ct⟩ ρ W):dD (zv K f da dv) r ⟨nx,rt,bk,ct⟩ ρ W:=h
theorem Il(h:r9 K f dr da dv ⟨r ⟨nx,rt,bk,ct⟩,rt,bk,ct⟩ ρ W):dD (r9 K f dr da dv) r ⟨nx,rt,bk,ct⟩ ρ W:=h
theorem Io(h:dv ρ W fun y W1=>da ρ W1 fun a W2=>∃ p k d fs,a=.pt p/\W2 p=some (.ob k d fs)/\lX K k/\cu K k f/\fs.length < 1000/\nx ρ (aH W2 p (.ob k d (putD f y fs)))):zv K f da dv ⟨nx,rt,bk,ct⟩ ρ W:=h
theorem Ec(h:da ρ W fun a W1=>∃ p k d fs v,a=.pt p/\W1 p=some (.ob k d fs)/\lX K k/\cu K k f/\fs.lookup f=some v /\
 dv ρ W1 fun y W2=>dr v y W2 fun z W3=>∃ d' ff,W3 p=some (.ob k d' ff)/\ff.length < 1000/\nx ρ (aH W3 p (.ob k d' (putD f z ff)))):r9 K f dr da dv ⟨nx,rt,bk,ct⟩ ρ W:=h
end
section
variable {W:Wd}{Q:DK}{ρ:bS}{ds:wE}{g:rT}{c:nR}{b:jQ}{nx bk ct:bS->Wd->Prop}{rt:DV->Wd->Prop}
theorem mG{kp:Wd->Prop}{e:cW}(Pv:Nat->List DV->Wd->Prop)(hk:ds.length<=sizeLine)(h0:Pv 0 [] W)(hkp:∀ i ys W,Pv i ys W->kp W)(hs:∀ i d ys W,ds[i]?=some d->ys.length<=i->Pv i ys W->g (.im d) ρ W fun iP W2=>c iP W2 fun b W3=>if b=true then e iP W3 fun y W4=>Pv (i+1) (ys++[y]) W4 else Pv (i+1) ys W3)(hd:∀ ys W,Pv ds.length ys W->iK ys W Q) :
  uF ⟨ds.map .im,kp⟩ g c e ρ W Q:=by
 refine⟨by simpa using hk,Pv,h0,hkp,fun i v ys W e hl p=>?_,fun ys W q=>hd ys W (by simpa using q)⟩;rw[aap]at e;cases q:ds[i]? with
 | none=>rw[q]at e;cases e
 | some d=>rw[q]at e;cases e;exact hs i d ys W q hl p
end
end L2
namespace Srt
open PySem PyProof.Rows
variable {st a b:SortSt}{xs:Array Keyed}{j u m n:Nat}{Q:Option Nat->SortSt->Prop}
section
variable {M:Model}{A:sK}{E:xz}{s:Shared}{κ:KeyOrd}{ky:Keyed->κ.α}{kd:SortKind}{S:Keyed->Prop}{a₀:Array Keyed}
def se(M:Model)(A:sK)(E:xz)(s:Shared)(κ:KeyOrd)(ky:Keyed->κ.α)(kd:SortKind)(S:Keyed->Prop):Prop :=
 ∀(x y:Keyed) (st:SortSt) (Q:Option Bool->SortSt->Prop),S x->S y->kindOf st=kd->Q (some (κ.blt (ky x) (ky y))) st->wpS M A E s (lt' x y) Q st
structure SB(a₀:Array Keyed)(kd:SortKind)(st:SortSt):Prop where
 perm:(arrOf st).Perm a₀
 kind:kindOf st=kd
 failed:failedOf st=none
theorem SB.size(h:SB a₀ kd st):(arrOf st).size=a₀.size:=h.perm.size_eq
theorem SB.all(h:SB a₀ kd st)(hS:∀ p∈a₀.toList,S p):∀ p∈(arrOf st).toList,S p :=
 fun p hp=>hS p ((acA.mp h.perm).mem_iff.mp hp)
theorem uN{arr:Array Keyed}{i:Nat}{x:Keyed}{Q:Keyed->SortSt->Prop}(h:arr[i]?=some x)(hq:Q x st):wpS M A E s (elem' arr i) Q st:=by
 rw[elem'_eq,h];exact abS hq
def Kx(ky:Keyed->κ.α)(xs:Array Keyed)(i:Nat):κ.α:=ky (xs[i]?.getD (.none,.none))
theorem iS{ys:Array Keyed}{i:Nat}(h:xs[i]?=ys[j]?):Kx ky xs i=Kx ky ys j:=by unfold Kx;rw[h]
theorem j4(hL:se M A E s κ ky kd S)(hS:∀ p∈(arrOf st).toList,S p)(hk:kindOf st=kd){i:Nat}(hi:i < (arrOf st).size)(hj:j < (arrOf st).size){Q:Option Bool->SortSt->Prop}(h:Q (some (κ.blt (Kx ky (arrOf st) i) (Kx ky (arrOf st) j))) st):wpS M A E s (ltAt' i j) Q st:=by
 rw[ltAt'_eq];refine abk (wpS_get ?_);have ei:=getElem?_pos (arrOf st) i hi;have ej:=getElem?_pos (arrOf st) j hj;show wpS M A E s (do let x <- elem' (arrOf st) i;let y <- elem' (arrOf st) j;lt' x y) Q st;refine abk (uN ei (abk (uN ej ?_)));refine hL _ _ _ _ (hS _ (by simp)) (hS _ (by simp)) hk ?_;unfold Kx at h;rw[ei,ej]at h;exact h
theorem kQ{i:Nat}(hj:j<=xs.size)(k:Nat) :
  Kx ky (mirror xs i j ((j - i) / 2)) k=if i<=k/\k < j then Kx ky xs (i+j - 1 - k)else Kx ky xs k:=by
 have e:=getElem?_mirror_all (i:=i) hj k
 by_cases q:i<=k/\k < j
 ·rw[aaN q]at e ⊢;exact iS e
 ·rw[aaD q]at e ⊢;exact iS e
theorem sf{i:Nat}(hj:j<=xs.size)(q:∀ k,i<=k->k < j->Kx ky xs k=Kx ky xs (j - 1))(k:Nat) :
  Kx ky (mirror xs i j ((j - i) / 2)) k=Kx ky xs k:=by
 rw[kQ hj]
 by_cases w:i<=k/\k < j
 ·rw[aaN w,q _ (by omega) (by omega),q k w.1 w.2]
 ·rw[aaD w]
theorem qr{src d:Nat}(hs:src < xs.size)(hd:d<=src)(k:Nat) :
  Kx ky (bubble xs src d) k=if k=src - d then Kx ky xs src else if src - d < k/\k<=src then Kx ky xs (k - 1)else Kx ky xs k:=by
 have e:=getElem?_bubble hs d hd k
 by_cases q:k=src - d
 ·rw[aaN q]at e ⊢;exact iS e
 ·rw[aaD q]at e ⊢
  by_cases w:src - d < k/\k<=src
  ·rw[aaN w]at e ⊢;exact iS e
  ·rw[aaD w]at e ⊢;exact iS e
def Up(ky:Keyed->κ.α)(xs:Array Keyed)(u v:Nat):Prop:=∀ i j,u<=i->i<=j->j < v->κ.kle (Kx ky xs i) (Kx ky xs j)
def Dn(ky:Keyed->κ.α)(xs:Array Keyed)(u v:Nat):Prop:=∀ i j,u<=i->i<=j->j < v->κ.kle (Kx ky xs j) (Kx ky xs i)
theorem Up.one(xs:Array Keyed)(u:Nat):Up ky xs u (u+1):=fun i j a b c=>by
 have:i=j:=by omega
 subst this;exact acw _
theorem Up.snoc{v:Nat}(h:Up ky xs u v)(q:u < v->κ.kle (Kx ky xs (v - 1)) (Kx ky xs v)):Up ky xs u (v+1):=fun i j a b c=>by
 by_cases w:j < v
 ·exact h i j a b w
 ·have:j=v:=by omega
  subst this
  by_cases e:i=j
  ·subst e;exact acw _
  ·exact ada (h i (j - 1) a (by omega) (by omega)) (q (by omega))
theorem Dn.snoc{v:Nat}(h:Dn ky xs u v)(q:u < v->κ.kle (Kx ky xs v) (Kx ky xs (v - 1))):Dn ky xs u (v+1):=fun i j a b c=>by
 by_cases w:j < v
 ·exact h i j a b w
 ·have:j=v:=by omega
  subst this
  by_cases e:i=j
  ·subst e;exact acw _
  ·exact ada (q (by omega)) (h i (j - 1) a (by omega) (by omega))
theorem Dn.congr{ys:Array Keyed}{v:Nat}(h:Dn ky xs u v)(q:∀ k,Kx ky ys k=Kx ky xs k):Dn ky ys u v:=fun i j a b c=>by
 rw[q,q];exact h i j a b c
structure Kp(st mS:SortSt)(u:Nat):Prop where
 below:∀ i,i < u->(arrOf mS)[i]?=(arrOf st)[i]?
 perm:(arrOf mS).Perm (arrOf st)
 kind:kindOf mS=kindOf st
 failed:failedOf mS=failedOf st
 pend:pendingOf mS=pendingOf st
theorem Kp.rfl'(st:SortSt)(u:Nat):Kp st st u:=⟨fun _ _=>rfl,Array.Perm.refl _,rfl,rfl,rfl⟩
theorem Kp.trans{a b c:SortSt}{u:Nat}(h:Kp a b u)(g:Kp b c u):Kp a c u :=
 ⟨fun i hi=>(g.below i hi).trans (h.below i hi),g.perm.trans h.perm,g.kind.trans h.kind,g.failed.trans h.failed,g.pend.trans h.pend⟩
theorem Kp.size(h:Kp a b u):(arrOf b).size=(arrOf a).size:=h.perm.size_eq
theorem Kp.all(h:Kp a b u)(hS:∀ p∈(arrOf a).toList,S p):∀ p∈(arrOf b).toList,S p :=
 fun p hp=>hS p ((acA.mp h.perm).mem_iff.mp hp)
theorem Kp.TB(st:SortSt){i:Nat}(hi:u<=i)(hj:j<=(arrOf st).size):Kp st (PyProof.Rows.setArr st (mirror (arrOf st) i j ((j - i) / 2))) u :=
 ⟨fun k hk=>by show(mirror (arrOf st) i j ((j - i) / 2))[k]?=_;rw[getElem?_mirror_all hj,aaD (by omega)],mirror_perm _ _ _ _,rfl,rfl,rfl⟩
theorem Kp.bub(st:SortSt){i d:Nat}(hi:u+d<=i)(hj:i < (arrOf st).size):Kp st (PyProof.Rows.setArr st (bubble (arrOf st) i d)) u :=
 ⟨fun k hk=>by show(bubble (arrOf st) i d)[k]?=_;rw[getElem?_bubble hj d (by omega),aaD (by omega),aaD (by omega)],bubble_perm _ _ _,rfl,rfl,rfl⟩
def TC(lo a m:Nat):StateT SortSt Sem AscSt :=
 forIn [a:m] ((none,a):AscSt) fun _ z=>do
  match <- ltAt' (lo+z.2) (lo+z.2 - 1) with
  | some b=>if b=true then pure (.done (none,z.2))else pure (.yield (none,z.2+1))
  | _=>pure (.done (some none,z.2))
noncomputable def Ip(lo n m:Nat):StateT SortSt Sem (Option Nat):=do
 reverseSlice' lo (lo+n)
 let z <- TC lo n m
 match z.1 with
 | some r=>pure r
 | none=>pure (some z.2)
def VQ(lo n m:Nat):StateT SortSt Sem DescSt :=
 forIn [n:m] ((none,n,0):DescSt) fun _ z=>do
  match <- ltAt' (lo+z.2.1) (lo+z.2.1 - 1) with
  | some b =>
   if b=true then
    if z.2.2 > 0 then do
     reverseSlice' (lo+z.2.1 - (z.2.2+1)) (lo+z.2.1)
     pure (.yield (none,z.2.1+1,0))
    else pure (.yield (none,z.2.1+1,0))
   else do
    match <- ltAt' (lo+z.2.1 - 1) (lo+z.2.1) with
    | some c=>if c=true then pure (.done (none,z.2.1,z.2.2))else pure (.yield (none,z.2.1+1,z.2.2+1))
    | _=>pure (.done (some none,z.2.1,z.2.2))
  | _=>pure (.done (some none,z.2.1,z.2.2))
noncomputable def uO(lo n m:Nat):StateT SortSt Sem (Option Nat):=do
 liftM (rule "list.sort.descending-run")
 let z <- VQ lo (n+1) m
 match z.1 with
 | some r=>pure r
 | none =>
  if z.2.2 > 0 then do
   reverseSlice' (lo+z.2.1 - (z.2.2+1)) (lo+z.2.1)
   Ip lo z.2.1 m
  else Ip lo z.2.1 m
theorem uP(lo m:Nat):countRun' lo m=(do
  let z <- TC lo 1 m
  match z.1 with
  | some r=>pure r
  | none =>
   if(z.2 == m)=true then pure (some z.2)
   else if z.2 > 1 then do
    match <- ltAt' lo (lo+z.2 - 1) with
    | some b=>if b=true then pure (some z.2)else do
      reverseSlice' lo (lo+z.2)
      uO lo z.2 m
    | _=>pure none
   else uO lo z.2 m):=by
 kernel_rfl
theorem zx(hL:se M A E s κ ky kd S)(hS:∀ p∈(arrOf st).toList,S p)(hk:kindOf st=kd){lo a:Nat}(hm:lo+m<=(arrOf st).size)(ha:1<=a)(ham:a<=m)(hu:Up ky (arrOf st) lo (lo+a)){Q:AscSt->SortSt->Prop}(h:∀ n,a<=n->n<=m->Up ky (arrOf st) lo (lo+n)->(n=m\/κ.klt (Kx ky (arrOf st) (lo+n)) (Kx ky (arrOf st) (lo+n - 1)))->Q (none,n) st) :
  wpS M A E s (TC lo a m) Q st:=by
 unfold TC;refine ac3 (I:=fun x c z=>z=st/\c=(none,x)/\Up ky (arrOf st) lo (lo+x)) ?_ ?_ ⟨rfl,rfl,hu⟩
 ·rintro x c z h1 h2 ⟨rfl,rfl,h3⟩;refine abk (j4 hL hS hk (by omega) (by omega) ?_);cases hb:κ.blt (Kx ky (arrOf z) (lo+x)) (Kx ky (arrOf z) (lo+x - 1))
  ·exact abS ⟨rfl,rfl,h3.snoc fun _=>hb⟩
  ·exact abS (h x h1 (by omega) h3 (.inr hb))
 ·rintro c z ⟨rfl,rfl,h3⟩;rw[show max a m=m by omega]at h3 ⊢;exact h m ham (aar _) h3 (.inl rfl)
theorem uQ(hL:se M A E s κ ky kd S)(hS:∀ p∈(arrOf st).toList,S p)(hk:kindOf st=kd){lo:Nat}(hm:lo+m<=(arrOf st).size)(hn:1<=n)(RM:n<=m)(hd:Dn ky (arrOf st) lo (lo+n))(h:∀ r z,Kp st z lo->1<=r->r<=m->Up ky (arrOf z) lo (lo+r)->Q (some r) z):wpS M A E s (Ip lo n m) Q st:=by
 unfold Ip;rw[adb];refine abk (adn ?_);have hz:lo+n<=(arrOf st).size:=by omega
 have hK:=Kp.TB st (aar lo) hz;refine abk (zx hL (hK.all hS) (hK.kind.trans hk) (by rw[hK.size];exact hm) hn RM ?_ fun r h1 h2 h3 _=>abS (h r _ hK (by omega) h2 h3));intro i j a b c;show κ.kle (Kx ky (mirror (arrOf st) _ _ _) i) (Kx ky (mirror (arrOf st) _ _ _) j);rw[kQ hz,kQ hz,aaN (by omega),aaN (by omega)];exact hd _ _ (by omega) (by omega) (by omega)
theorem Iq(hL:se M A E s κ ky kd S)(hS:∀ p∈(arrOf st).toList,S p)(hk:kindOf st=kd){lo:Nat}(hm:lo+m<=(arrOf st).size)(hn:1<=n)(RM:n<=m)(hd:Dn ky (arrOf st) lo (lo+n)){Q:DescSt->SortSt->Prop}(h:∀ r q z,Kp st z lo->n<=r->r<=m->Dn ky (arrOf z) lo (lo+r)->q+1<=r ->
   (∀ i,lo+r - (q+1)<=i->i < lo+r->Kx ky (arrOf z) i=Kx ky (arrOf z) (lo+r - 1))->Q (none,r,q) z):wpS M A E s (VQ lo n m) Q st:=by
 unfold VQ;refine ac3 (I:=fun x c z=>∃ q,c=(none,x,q)/\Kp st z lo/\Dn ky (arrOf z) lo (lo+x)/\q+1<=x /\
  ∀ i,lo+x - (q+1)<=i->i < lo+x->Kx ky (arrOf z) i=Kx ky (arrOf z) (lo+x - 1)) ?_ ?_
  ⟨0,rfl,Kp.rfl' st lo,hd,by omega,fun i h1 h2=>by congr 1;omega⟩
 ·rintro x c z h1 h2 ⟨q,rfl,hK,h3,h4,h5⟩;have hz:lo+m<=(arrOf z).size:=by rw[hK.size];exact hm
  dsimp only;refine abk (j4 hL (hK.all hS) (hK.kind.trans hk) (by omega) (by omega) ?_);cases hb:κ.blt (Kx ky (arrOf z) (lo+x)) (Kx ky (arrOf z) (lo+x - 1))
  ·refine abk (j4 hL (hK.all hS) (hK.kind.trans hk) (by omega) (by omega) ?_);cases hc:κ.blt (Kx ky (arrOf z) (lo+x - 1)) (Kx ky (arrOf z) (lo+x))
   ·have he:Kx ky (arrOf z) (lo+x)=Kx ky (arrOf z) (lo+x - 1):=κ.total _ _ hb hc;refine abS ⟨q+1,rfl,hK,h3.snoc fun _=>hc,by omega,fun i a b=>?_⟩;rw[show lo+(x+1) - 1=lo+x by omega]
    by_cases e:i=lo+x
    ·rw[e]
    ·rw[he];exact h5 i (by omega) (by omega)
   ·exact abS (h x q z hK h1 (by omega) h3 h4 h5)
  ·have h6:Dn ky (arrOf z) lo (lo+(x+1)):=h3.snoc fun _=>acY hb
   by_cases h7:q > 0
   ·dsimp only;rw[aaN rfl,aaN h7,adb];have hw:lo+x<=(arrOf z).size:=by omega
    refine abk (adn (abS ⟨0,rfl,hK.trans (Kp.TB z (by omega) hw),h6.congr fun k=>sf hw h5 k,by omega,fun i a b=>by congr 1;omega⟩))
   ·dsimp only;rw[aaN rfl,aaD h7];exact abS ⟨0,rfl,hK,h6,by omega,fun i a b=>by congr 1;omega⟩
 ·rintro c z ⟨q,rfl,hK,h3,h4,h5⟩;rw[show max n m=m by omega]at h3 h4 h5 ⊢;exact h m q z hK RM (aar _) h3 h4 h5
theorem qt(hL:se M A E s κ ky kd S)(hS:∀ p∈(arrOf st).toList,S p)(hk:kindOf st=kd){lo:Nat}(hm:lo+m<=(arrOf st).size)(RM:n+1<=m)(hd:Dn ky (arrOf st) lo (lo+(n+1)))(h:∀ r z,Kp st z lo->1<=r->r<=m->Up ky (arrOf z) lo (lo+r)->Q (some r) z):wpS M A E s (uO lo n m) Q st:=by
 unfold uO;refine abk (wpS_lift (acy ⟨rfl,?_⟩));refine abk (Iq hL hS hk hm (by omega) RM hd fun r q z hK h1 h2 h3 h4 h5=>?_);have hz:lo+m<=(arrOf z).size:=by rw[hK.size];exact hm
 have hw:lo+r<=(arrOf z).size:=by omega
 dsimp only
 by_cases h7:q > 0
 ·rw[aaN h7,adb];refine abk (adn ?_);have TF:=Kp.TB z (i:=lo+r - (q+1)) (u:=lo) (by omega) hw;refine uQ hL (TF.all (hK.all hS)) (TF.kind.trans (hK.kind.trans hk)) (by rw[TF.size];exact hz) (by omega) h2 (h3.congr fun k=>sf hw h5 k)
   fun y w a b c d=>h y w ((hK.trans TF).trans a) b c d
 ·rw[aaD h7];exact uQ hL (hK.all hS) (hK.kind.trans hk) hz (by omega) h2 h3 fun y w a b c d=>h y w (hK.trans a) b c d
theorem Ir(hL:se M A E s κ ky kd S)(hS:∀ p∈(arrOf st).toList,S p)(hk:kindOf st=kd){lo:Nat}(hm:lo+m<=(arrOf st).size)(B6:1<=m)(h:∀ r z,Kp st z lo->1<=r->r<=m->Up ky (arrOf z) lo (lo+r)->Q (some r) z):wpS M A E s (countRun' lo m) Q st:=by
 rw[uP];refine abk (zx hL hS hk hm (aar 1) B6 (Up.one _ _) fun n h1 h2 h3 h4=>?_);dsimp only
 by_cases e:n=m
 ·rw[aaN (by simpa using e)];exact abS (h n st (Kp.rfl' _ _) h1 h2 h3)
 ·rw[aaD (by simpa using e)];have hb:=h4.resolve_left e
  by_cases g:n > 1
  ·rw[aaN g];refine abk (j4 hL hS hk (by omega) (by omega) ?_);cases hc:κ.blt (Kx ky (arrOf st) lo) (Kx ky (arrOf st) (lo+n - 1))
   ·have hf:∀ k,lo<=k->k < lo+n->Kx ky (arrOf st) k=Kx ky (arrOf st) (lo+n - 1):=fun k a b =>
     KeyOrd.kle_antisymm (h3 k (lo+n - 1) a (by omega) (by omega)) (ada hc (h3 lo k (aar _) a b))
    have hw:lo+n<=(arrOf st).size:=by omega
    have hK:=Kp.TB st (aar lo) hw;show wpS M A E s (do reverseSlice' lo (lo+n);uO lo n m) Q st;rw[adb];refine abk (adn (qt hL (hK.all hS) (hK.kind.trans hk) (by rw[hK.size];exact hm) (by omega) ?_ fun r z a b c d=>h r z (hK.trans a) b c d));have hd:Dn ky (arrOf st) lo (lo+n):=fun i j a b c=>by
     rw[hf i a (by omega),hf j (by omega) c];exact acw _
    exact Dn.congr (hd.snoc fun _=>acY hb) fun k=>sf hw hf k
   ·exact abS (h n st (Kp.rfl' _ _) h1 h2 h3)
  ·rw[aaD g];have:n=1:=by omega
   subst this;have hd:Dn ky (arrOf st) lo (lo+1):=fun i j a b c=>by
    have:i=j:=by omega
    subst this;exact acw _
   exact qt hL hS hk hm (by omega) (hd.snoc fun _=>acY hb) h
theorem Ed(hL:se M A E s κ ky kd S)(hS:∀ p∈(arrOf st).toList,S p)(hk:kindOf st=kd){lo ok:Nat}(hn:lo+n<=(arrOf st).size)(h1:1<=ok)(ck:ok<=n)(hu:Up ky (arrOf st) lo (lo+ok)){Q:Bool->SortSt->Prop}(h:∀ z,Kp st z lo->Up ky (arrOf z) lo (lo+n)->Q true z):wpS M A E s (binarySort' lo n ok) Q st:=by
 rw[binarySort'_eq];refine abk (wpS_mono (ac3 (I:=fun k c z=>c=(none,())/\Kp st z lo/\Up ky (arrOf z) lo (lo+k))
  (Q:=fun c z=>c=(none,())/\Kp st z lo/\Up ky (arrOf z) lo (lo+n)) ?_ ?_ ⟨rfl,Kp.rfl' _ _,by rw[show max ok 1=ok by omega];exact hu⟩) ?_)
 ·rintro k c z h2 h3 ⟨rfl,hK,h4⟩;have hz:lo+n<=(arrOf z).size:=by rw[hK.size];exact hn
  refine abk (wpS_mono (ac3 (I:=fun x c w=>w=z/\∃ l r,c=(none,l,r)/\l<=r/\r<=k/\r - l<=k - x /\
    (∀ i,i < l->κ.kle (Kx ky (arrOf z) (lo+i)) (Kx ky (arrOf z) (lo+k)))/\∀ i,r<=i->i < k->κ.klt (Kx ky (arrOf z) (lo+k)) (Kx ky (arrOf z) (lo+i)))
   (Q:=fun c w=>w=z/\∃ l r,c=(none,l,r)/\l<=k /\
    (∀ i,i < l->κ.kle (Kx ky (arrOf z) (lo+i)) (Kx ky (arrOf z) (lo+k)))/\∀ i,l<=i->i < k->κ.klt (Kx ky (arrOf z) (lo+k)) (Kx ky (arrOf z) (lo+i))) ?_ ?_
   ⟨rfl,0,k,rfl,by omega,by omega,by omega,fun i q=>by omega,fun i q w=>by omega⟩) ?_)
  ·rintro x c w _ hx ⟨rfl,l,r,rfl,g1,g2,g3,g4,g5⟩;dsimp only
   by_cases e:l ≥ r
   ·rw[aaN e];have:l=r:=by omega
    subst this;exact abS ⟨rfl,l,l,rfl,g2,g4,g5⟩
   ·rw[aaD e];refine abk (j4 hL (hK.all hS) (hK.kind.trans hk) (by omega) (by omega) ?_);cases hb:κ.blt (Kx ky (arrOf w) (lo+k)) (Kx ky (arrOf w) (lo+(l+r) / 2))
    ·refine abS ⟨rfl,(l+r) / 2+1,r,rfl,by omega,by omega,by omega,fun i q=>?_,g5⟩;exact ada (h4 (lo+i) (lo+(l+r) / 2) (by omega) (by omega) (by omega)) hb
    ·refine abS ⟨rfl,l,(l+r) / 2,rfl,by omega,by omega,by omega,g4,fun i q v=>?_⟩;exact KeyOrd.klt_of_klt_of_kle hb (h4 _ _ (by omega) (by omega) (by omega))
  ·rintro c w ⟨rfl,l,r,rfl,g1,g2,g3,g4,g5⟩;have:l=r:=by omega
   subst this;exact⟨rfl,l,l,rfl,g2,g4,g5⟩
  ·rintro c w ⟨rfl,l,r,rfl,g2,g4,g5⟩;show wpS M A E s (do moveDown' (lo+k) (lo+l);pure (ForInStep.yield (none,()))) _ w;rw[moveDown'_eq];have hb:lo+k < (arrOf w).size:=by omega
   rw[show lo+k - (lo+l)=k - l by omega];refine abk (adn (abS ⟨rfl,hK.trans (Kp.bub w (by omega) hb),fun i j a b c=>?_⟩));show κ.kle (Kx ky (bubble (arrOf w) (lo+k) (k - l)) i) (Kx ky (bubble (arrOf w) (lo+k) (k - l)) j);have g4':∀ i,lo<=i->i < lo+l->κ.kle (Kx ky (arrOf w) i) (Kx ky (arrOf w) (lo+k)):=fun i p q=>by
    have:=g4 (i - lo) (by omega);rwa [show lo+(i - lo)=i by omega]at this
   have g5':∀ i,lo+l<=i->i < lo+k->κ.klt (Kx ky (arrOf w) (lo+k)) (Kx ky (arrOf w) i):=fun i p q=>by
    have:=g5 (i - lo) (by omega) (by omega);rwa [show lo+(i - lo)=i by omega]at this
   rw[qr hb (by omega),qr hb (by omega),show lo+k - (k - l)=lo+l by omega]
   repeat' split
   all_goals first
    | (exfalso;omega)
    | exact acw _
    | exact g4' _ (by omega) (by omega)
    | exact acY (g5' _ (by omega) (by omega))
    | exact h4 _ _ (by omega) (by omega) (by omega)
 ·rintro c z ⟨rfl,hK,h4⟩;rw[show max (max ok 1) n=n by omega]at h4;exact⟨rfl,hK,h4⟩
 ·rintro c z ⟨rfl,hK,h4⟩;exact abS (h z hK h4)
end
end Srt
namespace L2
open PySem PySem.Spec PyProof.Rows
variable {xs:Array Nat}{α:Type}{es:Array (Int×Value)}{t:SetTable}
theorem nY:∀{us:wf} {ns:wn},IntsAre us ns->Vals (ns.map V.int) us
 | _,_,.nil=>.nil
 | _,_,.cons n t r=>.cons ⟨t,rfl⟩ (nY r)
theorem uR{C:DC}{F:Hp}:∀{ns:wn} {xs:List V},aD C F (ns.map fun i=>.im (.int i)) xs↔xs=ns.map V.int
 | [],xs=>Iff.rfl
 | n::ns,xs=>by
  constructor
  ·rintro⟨y,ys,rfl,h,r⟩;rw[uR.mp r];cases (show y=V.int n from h);rfl
  ·rintro rfl;exact⟨_,_,rfl,rfl,uR.mpr rfl⟩
namespace St
theorem qv:Slot "set" "__iter__" "set.__iter__":=PySem.F.slot_set_iter
theorem xw:entryFor table "set.__iter__"=some Builtin.«frozenset.__iter__» :=
 entryFor_alias (id' := "frozenset.__iter__") (by kernel_rfl) rfl (by decide +kernel) (by kernel_rfl)
theorem slot_next:Slot "set_iterator" "__next__" "set_iterator.__next__" :=
 .of (owner := "set_iterator") (n := "__next__") (by rw[typeLookup_type,builtinLookup_eq_fast];kernel_rfl) (by decide +kernel) (by decide +kernel) (by decide +kernel)
  (by first | exact .inl (by decide +kernel) | exact .inr (by decide +kernel)) (by rw[isSubtype_type];kernel_rfl)
theorem entry_next:entryFor table "set_iterator.__next__"=some Builtin.«set_iterator.__next__»:=entryFor_of_tree (by kernel_rfl)
theorem uS:Manifest.owners.lookup (String.ofList ['r','o','t','a','r','e','t','i','_','t','e','s'].reverse)=some Manifest.sig_set_iterator:=by kernel_rfl
theorem args_next(a:Value):argsOk "set_iterator.__next__" ⟨[a],[]⟩:=by
 unfold argsOk;rw[signature?_of (id := "set_iterator.__next__") (n:=['_','_','t','x','e','n','_','_']) (o:=['r','o','t','a','r','e','t','i','_','t','e','s']) (by kernel_rfl) uS];kernel_rfl
theorem slot_self:Slot "set_iterator" "__iter__" "set_iterator.__iter__" :=
 .of (owner := "set_iterator") (n := "__iter__") (by rw[typeLookup_type,builtinLookup_eq_fast];kernel_rfl) (by decide +kernel) (by decide +kernel) (by decide +kernel)
  (by first | exact .inl (by decide +kernel) | exact .inr (by decide +kernel)) (by rw[isSubtype_type];kernel_rfl)
theorem entry_self:entryFor table "set_iterator.__iter__"=some Builtin.«dict_keyiterator.__iter__» :=
 entryFor_alias (id' := "dict_keyiterator.__iter__") (by kernel_rfl) rfl (by decide +kernel) (by kernel_rfl)
theorem args_self(a:Value):argsOk "set_iterator.__iter__" ⟨[a],[]⟩:=by
 unfold argsOk;rw[signature?_of (id := "set_iterator.__iter__") (n:=['_','_','r','e','t','i','_','_']) (o:=['r','o','t','a','r','e','t','i','_','t','e','s']) (by kernel_rfl) uS];kernel_rfl
end St
def NA(es:Array (Int×Value))(t:SetTable):Bool:=!t.plain&&es.size > 1
def cz(xs:Array Nat):Prop:=∀ i j (hi:i < xs.size) (hj:j < xs.size),i < j->xs[i] < xs[j]
theorem nZ(xs:Array Nat)(j:Nat)(hr:cz xs):∀(fuel lo hi:Nat),lo<=hi->hi<=xs.size->hi - lo<=fuel->(∀ k (hk:k < xs.size),k < lo->xs[k] < j)->(∀ k (hk:k < xs.size),hi<=k->j<=xs[k]) ->
  SetTable.below.go xs j fuel lo hi<=xs.size/\(∀ k (hk:k < xs.size),k < SetTable.below.go xs j fuel lo hi->xs[k] < j)/\∀ k (hk:k < xs.size),SetTable.below.go xs j fuel lo hi<=k->j<=xs[k]
 | 0,lo,hi,h1,h2,h3,h4,h5=>by
  have:lo=hi:=by omega
  subst this;unfold SetTable.below.go;exact⟨h2,h4,h5⟩
 | fuel+1,lo,hi,h1,h2,h3,h4,h5=>by
  unfold SetTable.below.go
  by_cases h:lo < hi
  ·rw[aaN h];have hm:(lo+hi) / 2 < xs.size:=by omega
   have e:xs.getD ((lo+hi) / 2) j=xs[(lo+hi) / 2]:=by simp[Array.getD,hm]
   dsimp only;rw[e]
   by_cases hx:xs[(lo+hi) / 2] < j
   ·rw[aaN hx];refine nZ xs j hr fuel _ _ (by omega) h2 (by omega) (fun k hk hl=>?_) h5
    by_cases OX:k=(lo+hi) / 2
    ·subst OX;exact hx
    ·exact Nat.lt_trans (hr k _ hk hm (by omega)) hx
   ·rw[aaD hx];refine nZ xs j hr fuel _ _ (by omega) (by omega) (by omega) h4 fun k hk hl=>?_
    by_cases OX:k=(lo+hi) / 2
    ·subst OX;omega
    ·have:=hr _ k hm hk (by omega);omega
  ·rw[aaD h];have:lo=hi:=by omega
   subst this;exact⟨h2,h4,h5⟩
theorem g9(j:Nat)(hr:cz xs):SetTable.below xs j<=xs.size/\(∀ k (hk:k < xs.size),k < SetTable.below xs j->xs[k] < j)/\∀ k (hk:k < xs.size),SetTable.below xs j<=k->j<=xs[k]:=by
 unfold SetTable.below;exact nZ xs j hr _ _ _ (aaW _) (aar _) (by omega) (fun k _ h=>absurd h (Nat.not_lt_zero _)) fun k hk h=>absurd hk (by omega)
theorem xx(hr:cz xs):SetTable.below xs 0=0:=by
 obtain⟨h1,h2,_⟩:=g9 0 hr;rcases Nat.eq_zero_or_pos (SetTable.below xs 0)with h | h
 ·exact h
 ·exact absurd (h2 0 (by omega) h) (Nat.not_lt_zero _)
theorem xy(hr:cz xs){i:Nat}(hi:i < xs.size):SetTable.below xs (xs[i]+1)=i+1:=by
 obtain⟨h1,h2,h3⟩:=g9 (xs[i]+1) hr;rcases acZ (SetTable.below xs (xs[i]+1)) (i+1)with h | h | h
 ·have:=h3 i hi (by omega);omega
 ·exact h
 ·have ha:=h2 (i+1) (by omega) h;have hb:=hr i (i+1) hi (by omega) (by omega);omega
theorem jw{α:Type}:∀{l:List α} {i:Nat} (h:i < l.length),(l[i]::l.eraseIdx i).Perm l
 | x::r,0,_=>ac0 _
 | x::r,i+1,h=>by
  rw[List.getElem_cons_succ,List.eraseIdx_cons_succ];exact(List.Perm.swap ..).trans ((jw (Nat.lt_of_succ_lt_succ h)).cons _)
theorem zz{α:Type}(next:Nat->Nat):∀(fuel k:Nat) (left:List α) (out:Array α),left.length<=fuel->(pickOrder.go next fuel k left out).toList.Perm (out.toList++left)
 | 0,k,left,out,h=>by
  have:left=[]:=abU.mp (by omega);subst this;unfold pickOrder.go;simp
 | fuel+1,k,left,out,h=>by
  unfold pickOrder.go;cases hl:left with
  | nil=>simp
  | cons x r =>
   rw[<- hl];have hp:0 < left.length:=by rw[hl];simp
   have hi:next k % left.length < left.length:=Nat.mod_lt _ hp
   rw[aas hi];dsimp only;have ih:=zz next fuel (k+1) (left.eraseIdx (next k % left.length)) (out.push left[next k % left.length]) (by rw[List.length_eraseIdx];split<;>omega)
   refine ih.trans ?_;rw[Array.toList_push,abW];refine List.Perm.append_left _ ?_;exact jw hi
theorem n8(next:Nat->Nat)(xs:Array α):(pickOrder next xs).toList.Perm xs.toList:=by
 have:=zz next xs.size 0 xs.toList #[] (by simp)
 simpa [pickOrder] using this
section
variable {prog:sB}{w:World}{A:sK}{E:xz}{s:Shared}
theorem wp_choose{src:Source}{n:Nat}{Q:Nat->Shared->Prop}(hn:n≠0)(h:∀ k,k < n->Q k { s with drawn:=s.drawn.bump src }):wpAny (model prog w) A (choose src n) Q E s:=fun _ _ _ =>
 ⟨hn,h _ (Nat.mod_lt _ (Nat.pos_of_ne_zero hn))⟩
theorem j5{α:Type}:∀(n:Nat) (xs:List α) (s:Shared) {Q:List α->Shared->Prop},n=xs.length->(∀ ys d,ys.Perm xs->Q ys { s with drawn:=d })->wpAny (model prog w) A (drawOrder n xs) Q E s
 | 0,xs,s,Q,hn,h=>by
  have:xs=[]:=abU.mp hn.symm;subst this;exact aao (h [] s.drawn (ac0 _))
 | n+1,[],s,Q,hn,h=>by simp at hn
 | n+1,x::r,s,Q,hn,h=>by
  unfold drawOrder;refine aak (wp_choose (by simp) fun k hk=>?_);rw[aas hk];dsimp only;refine aak (j5 n _ _ (by rw[List.length_eraseIdx,aaN hk];simp at hn ⊢;omega) fun ys d hp=>aao ?_);refine h _ d ?_;exact(hp.cons _).trans (jw hk)
theorem kR{Q:Bool->Shared->Prop}(h:Q (w.params.followText "set-order") s):wpAny (model prog w) A setsByText Q E s:=by
 unfold setsByText;exact aak (wpAny_askSetting (aao h))
end
structure de(bt:Bool)(h:Heap)(a:Addr)(es:Array (Int×Value))(ep:Nat)(t:SetTable):Prop where
 ob:∃ o,h.get? a=some o/\o.ExactSet/\o.data=.set es ep t
 fits:t.fits es.size=true
 led:t.led=!bt
 up:cz t.place
theorem de.keep{bt:Bool}{h h':Heap}{a:Addr}{ep:Nat}(x:de bt h a es ep t)(k:∀ o,h.get? a=some o->h'.get? a=some o):de bt h' a es ep t :=
 ⟨let ⟨o,ho,r⟩:=x.ob;⟨o,k o ho,r⟩,x.fits,x.led,x.up⟩
theorem de.sz{bt:Bool}{h:Heap}{a:Addr}{ep:Nat}(x:de bt h a es ep t):t.place.size=es.size:=by
 have:=x.fits;simp only[SetTable.fits,aaK,acq]at this;exact this.1
theorem de.typeIs{bt:Bool}{s:Shared}{a:Addr}{ep:Nat}(x:de bt s.heap a es ep t):s.TypeIs (.ref a) "set":=let ⟨o,ho,r,_⟩:=x.ob;⟨o,ho,r.1⟩
end L2
namespace L2
open PySem PySem.Spec PyProof.Rows
variable {prog:sB}{w:World}{A:sK}{E Q:xz}{s:Shared}{I a:Addr}{es:Array (Int×Value)}{ep:Nat}{t:SetTable}{ord:List (Int×Value)}{h h':Heap}{ns:wn}{C:DC}
def Mode(w:World)(h:Heap)(a tp:Addr)(es:Array (Int×Value))(ep:Nat)(t:SetTable)(ord:List (Int×Value))(i:Nat)(first:Value):Prop :=
 (w.params.followText "set-order"=true/\first=.int 0 0/\ord=(pickOrder (w.params.setOrder a ep) es).toList) \/
 (w.params.followText "set-order"=false/\NA es t=false/\ord=es.toList/\∃ slot:Nat,first=.int slot 0/\SetTable.below t.place slot=i) \/
 (w.params.followText "set-order"=false/\∃(ps:List Nat) (c:Nat),first=.ref tp/\h.get? tp=some (seqObj "tuple" (ps.map fun(n:Nat)=>rawInt n).toArray c)/\ps.map (fun k=>es[k]?)=ord.map some)
structure dZ(w:World)(h:Heap)(I a tp:Addr)(es:Array (Int×Value))(ep:Nat)(t:SetTable)(ord:List (Int×Value))(i:Nat):Prop where
 so:de (w.params.followText "set-order") h a es ep t
 it:∃ o first,h.get? I=some o/\o.cls=.type "set_iterator"/\o.data=.fields #[first,.int i 0,.ref a,.int es.size 0,.int ep 0]/\Mode w h a tp es ep t ord i first
 ne:a≠I/\tp≠I
 pm:ord.Perm es.toList
theorem dZ.typeIs{tp:Addr}{i:Nat}(x:dZ w s.heap I a tp es ep t ord i):s.TypeIs (.ref I) "set_iterator":=let ⟨o,_,ho,hc,_⟩:=x.it;⟨o,ho,hc⟩
theorem Mode.keep{tp:Addr}{i:Nat}{f:Value}(x:Mode w h a tp es ep t ord i f)(k:∀ o,h.get? tp=some o->h'.get? tp=some o):Mode w h' a tp es ep t ord i f:=by
 rcases x with x | x | ⟨b,ps,c,e1,e2,e3⟩
 ·exact .inl x
 ·exact .inr (.inl x)
 ·exact .inr (.inr ⟨b,ps,c,e1,k _ e2,e3⟩)
theorem eS{bt:Bool}{Q:(Array (Int×Value)×Nat×SetTable)->Shared->Prop}(x:de bt s.heap a es ep t)(h:Q (es,ep,t) s):wpAny (model prog w) A (setState a) Q E s :=
 let ⟨_,ho,_,hd⟩:=x.ob;wpAny_setState_of ho hd x.fits h
theorem xA{Q:Array (Int×Value)->Shared->Prop}(x:de (w.params.followText "set-order") s.heap a es ep t)(hb:w.params.followText "set-order"=true)(hQ:Q (pickOrder (w.params.setOrder a ep) es) s):wpAny (model prog w) A (setWalk a) Q E s:=by
 unfold setWalk;refine aak (eS x (aak (kR (abF (fun _=>aak (wpAny_askSetting (aao hQ))) fun z=>absurd hb z))))
theorem n9{I tp:Addr}{i:Nat}{n:Nat}{Q:Option (Value×Nat)->Shared->Prop}(x:de (w.params.followText "set-order") s.heap a es ep t)(hm:Mode w s.heap a tp es ep t ord i (.int n 0))(hQ:∀ m:Nat,(∀ e,ord[i]?=some e->Mode w s.heap a tp es ep t ord (i+1) (.int m 0))->Q (ord[i]?.map fun e=>(e.2,m)) s):wpAny (model prog w) A (setNext a n i ep) Q E s:=by
 unfold setNext;refine aak (eS x (aak (kR ?_)));rcases hm with⟨hb,hf,jE⟩ | ⟨hb,TH,jE,slot,hf,Hv⟩ | ⟨hb,ps,c,hf,NB,Ee⟩
 ·cases hf;refine abF (fun _=>?_) fun z=>absurd hb z;refine abF (fun z=>absurd z (by simp)) fun _=>aak (xA x hb (aao ?_));have:=hQ 0 fun e he=>.inl ⟨hb,rfl,jE⟩;rw[jE,abO]at this;exact this
 ·have hn:slot=n:=by have:=(Value.int.inj hf).1;omega
  subst hn;refine abF (fun z=>by rw[hb]at z;cases z) fun _=>abF (fun z=>absurd (show NA es t=true from z) (by rw[TH];decide)) fun _=>?_;refine aak ?_
  wp_delta
  refine abF (fun z=>absurd z (by rw[x.led,hb];simp)) fun _=>aao ?_;dsimp only;rw[Hv]
  by_cases gh:i < es.size
  ·have hp:i < t.place.size:=by rw[x.sz];exact gh
   rw[abg gh,abg hp];have e1:ord[i]?=some es[i]:=by rw[jE,abO,abg gh]
   have:=hQ (t.place[i]+1) fun e he=>.inr (.inl ⟨hb,TH,jE,_,rfl,xy x.up hp⟩);rw[e1]at this;exact aao this
  ·rw[Array.getElem?_eq_none (by omega)];have e1:ord[i]?=none:=by rw[jE,abO,Array.getElem?_eq_none (by omega)]
   have:=hQ 0 fun e he=>by rw[e1]at he;cases he
   rw[e1]at this;exact aao this
 ·cases hf
theorem next_item{tp:Addr}{i:Nat}{e:Int×Value}{Q:wP->Shared->Prop}(x:dZ w s.heap I a tp es ep t ord i)(hi:ord[i]?=some e)(hQ:∀ h',dZ w h' I a tp es ep t ord (i+1)->Heap.SameBut I s.heap h'->Q (some e.2) { s with heap:=h' }):wpAny (model prog w) A (pyNext (.ref I)) Q E s:=by
 obtain⟨o,first,ho,hc,hd,hm⟩:=x.it;have key:∀(h':Heap) (o':Obj) (f':Value),Heap.SameBut I s.heap h'->h'.get? I=some o'->o'.cls=.type "set_iterator"->o'.data=.fields #[f',.int ((i+1:Nat):Int) 0,.ref a,.int es.size 0,.int ep 0]->Mode w s.heap a tp es ep t ord (i+1) f'->dZ w h' I a tp es ep t ord (i+1) :=
  fun h' o' f' sb h1 h2 h3 h4=>⟨x.so.keep fun o e=>sb.extBut a o x.ne.1 e,⟨o',f',h1,h2,h3,h4.keep fun o e=>sb.extBut tp o x.ne.2 e⟩,x.ne,x.pm⟩
 unfold pyNext;refine aak (adk (abr (name:=Str.ofString "__next__") x.typeIs St.slot_next
  (abq St.slot_next x.typeIs St.entry_next ?_ (St.args_next _))))
 unfold Builtin.«set_iterator.__next__»;refine aak (aao ?_);refine aak (wpAny_fieldsOf ho hd ?_);dsimp only;unfold setEntries;refine aak (aak (eS x.so (aao ?_)));rw[aaD (by simp)];have pK:∀ n:Nat,first=.int n 0->wpAny (model prog w) A.in1 (do
    let bf <- setNext a (Int.toNat n) (Int.toNat i) (Int.toNat ep)
    match bf with
     | some (x,next)=>do
      setField (Value.ref I) 0 (rawInt ↑next)
      setField (Value.ref I) 1 (rawInt (↑i+1))
      ret x
     | none=>do
      setField (Value.ref I) 2 Value.none
      let bf <- newExc (Value.type "StopIteration") []
      raiseNew bf)
   (fun fin s'=>∃ v,fin=PySem.Fin.done (Flow.ret v)/\wpAny (model prog w) A (pure (some v)) Q E s')
   (fun e s'=>wpAny (model prog w) A (do
     let bf <- isInstance e (Value.type "StopIteration")
     if bf=true then pure none else throw e) Q E s') s:=by
  rintro n rfl;rw[aaB,aaB,aaB];refine aak (n9 (I:=I) x.so hm fun m Iu=>?_);rw[hi];dsimp only[Option.map];refine aak (ab8 ho hd (by simp) ?_);have g1:(s.heap.update I (Obj.mapFields (·.setIfInBounds 0 (rawInt (m:Int))))).get? I=some _:=abh _ ho (ab2 (abf hd _));refine aak (ab8 g1 (abf hd _) (by simp) ?_);refine aao ⟨_,rfl,aao (hQ _ (key _ _ (.int m 0) ?_ (abh _ g1 (ab2 (abf (abf hd _) _))) ?_ ?_ (Iu e hi)) ?_)⟩
  ·exact(aa9 ..).trans (aa9 ..)
  ·exact(acX ..).trans ((acX ..).trans hc)
  ·rw[abf (abf hd _)];simp[rawInt]
  ·exact(aa9 ..).trans (aa9 ..)
 rcases id hm with⟨hb,hf,jE⟩ | ⟨hb,TH,jE,slot,hf,Hv⟩ | ⟨hb,ps,c,hf,NB,Ee⟩
 ·rw[hf];exact pK 0 hf
 ·rw[hf];exact pK slot hf
 ·subst hf;dsimp only;have ls:=abJ List.length Ee;rw[aal,aal]at ls;have gh:=(aan.mp hi).1;have VR:i < ps.length:=by omega
  have he:es[ps[i]]?=some e:=by
   have h1:(ps.map fun k=>es[k]?)[i]?=(ord.map some)[i]?:=by rw[Ee]
   rw[aap,aap,hi,aas VR]at h1;simpa using h1
  unfold seqItems?;refine aak (aak (wpAny_load NB (aao ?_)));dsimp only;rw[aaB];rw[show(ps.map fun(n:Nat)=>rawInt (n:Int)).toArray[i]?=some (rawInt (ps[i]:Int)) by simp[VR]];dsimp only[rawInt];unfold setNextDrawn;refine aak (aak (eS x.so ?_));dsimp only;rw[aaD (by simp),aaB,he];refine aao ?_;refine aak (ab8 ho hd (by simp) ?_);refine aao ⟨_,rfl,aao (hQ _ (key _ _ (.ref tp) (aa9 ..) (abh _ ho (ab2 (abf hd _))) ((acX ..).trans hc) ?_ (.inr (.inr ⟨hb,ps,c,rfl,NB,Ee⟩))) (aa9 ..))⟩;rw[abf hd];simp[rawInt]
theorem og{Q:wP->Shared->Prop}(hh:A.handled=none)(eb:Heap.ExtBut I s.heap h')(hQ:∀ h',Heap.ExtBut I s.heap h'->Q none { s with heap:=h' }):wpAny (model prog w) A.in1 (do
      let bf <- newExc (Value.type "StopIteration") []
      (raiseNew bf:Sem PySem.Fin))
   (fun fin s'=>∃ v,fin=PySem.Fin.done (Flow.ret v)/\wpAny (model prog w) A (pure (some v)) Q E s')
   (fun e s'=>wpAny (model prog w) A (do
     let bf <- isInstance e (Value.type "StopIteration")
     if bf=true then pure none else throw e) Q E s') { s with heap:=h' }:=by
 refine aak ?_;simp only[newExc,newTuple];refine aak (abn ?_ (by size_fits));refine aak (m:=firstArgMember _ _) (wpAny_of_eq (a:=Value.none) (by first | rfl | (simp only[firstArgMember];rfl)) ?_);refine abn ?_ (by size_fits);simp only[raiseNew];refine aak (wpAny_handled ?_);rw[show A.in1.handled=none from hh];refine aak (aao (wpAny_throw ?_));refine aak (wpAny_isInstance (T := "StopIteration") (b:=true) ⟨_,aaz _ rfl,rfl⟩ isSubtype_stop ?_);exact aao (hQ _ ((eb.push _).push _))
theorem next_end{tp:Addr}{i:Nat}{Q:wP->Shared->Prop}(hh:A.handled=none)(x:dZ w s.heap I a tp es ep t ord i)(hi:ord[i]?=none)(hQ:∀ h',Heap.ExtBut I s.heap h'->Q none { s with heap:=h' }):wpAny (model prog w) A (pyNext (.ref I)) Q E s:=by
 obtain⟨o,first,ho,hc,hd,hm⟩:=x.it;unfold pyNext;refine aak (adk (abr (name:=Str.ofString "__next__") x.typeIs St.slot_next
  (abq St.slot_next x.typeIs St.entry_next ?_ (St.args_next _))))
 unfold Builtin.«set_iterator.__next__»;refine aak (aao ?_);refine aak (wpAny_fieldsOf ho hd ?_);dsimp only;unfold setEntries;refine aak (aak (eS x.so (aao ?_)));rw[aaD (by simp)];have pK:∀ n:Nat,first=.int n 0->wpAny (model prog w) A.in1 (do
    let bf <- setNext a (Int.toNat n) (Int.toNat i) (Int.toNat ep)
    match bf with
     | some (x,next)=>do
      setField (Value.ref I) 0 (rawInt ↑next)
      setField (Value.ref I) 1 (rawInt (↑i+1))
      ret x
     | none=>do
      setField (Value.ref I) 2 Value.none
      let bf <- newExc (Value.type "StopIteration") []
      raiseNew bf)
   (fun fin s'=>∃ v,fin=PySem.Fin.done (Flow.ret v)/\wpAny (model prog w) A (pure (some v)) Q E s')
   (fun e s'=>wpAny (model prog w) A (do
     let bf <- isInstance e (Value.type "StopIteration")
     if bf=true then pure none else throw e) Q E s') s:=by
  rintro n rfl;rw[aaB,aaB,aaB];refine aak (n9 (I:=I) x.so hm fun m Iu=>?_);rw[hi];dsimp only[Option.map];refine aak (ab8 ho hd (by simp) ?_);exact og hh (aa9 ..).extBut hQ
 rcases id hm with⟨hb,hf,jE⟩ | ⟨hb,TH,jE,slot,hf,Hv⟩ | ⟨hb,ps,c,hf,NB,Ee⟩
 ·rw[hf];exact pK 0 hf
 ·rw[hf];exact pK slot hf
 ·subst hf;dsimp only;have ls:=abJ List.length Ee;rw[aal,aal]at ls;have hge:=List.getElem?_eq_none_iff.mp hi;unfold seqItems?;refine aak (aak (wpAny_load NB (aao ?_)));dsimp only;rw[aaB];rw[show(ps.map fun(n:Nat)=>rawInt (n:Int)).toArray[i]?=none by simp;omega];dsimp only;refine aak (ab8 ho hd (by simp) ?_);have g1:(s.heap.update I (Obj.mapFields (·.setIfInBounds 0 (rawInt 0)))).get? I=some _:=abh _ ho (ab2 (abf hd _));refine aak (ab8 g1 (abf hd _) (by simp) ?_);have e1:Heap.SameBut I s.heap (s.heap.update I (Obj.mapFields (·.setIfInBounds 0 (rawInt 0)))):=aa9 ..;have e2:Heap.SameBut I (s.heap.update I (Obj.mapFields (·.setIfInBounds 0 (rawInt 0)))) ((s.heap.update I (Obj.mapFields (·.setIfInBounds 0 (rawInt 0)))).update I (Obj.mapFields (·.setIfInBounds 2 Value.none))):=aa9 ..;exact og (s:=s) hh (e1.trans e2).extBut hQ
theorem Bb{tp:Addr}{i:Nat}(x:dZ w s.heap I a tp es ep t ord i)(h:Q (.ref I) s):wpAny (model prog w) A (pyIter (.ref I)) Q E s:=by
 refine wpAny_pyIter_slot x.typeIs St.slot_self (abq St.slot_self x.typeIs St.entry_self ?_ (St.args_self _));show wpAny _ _ (ret (.ref I)) _ _ s;exact aao ⟨_,rfl, "set_iterator",_,x.typeIs,St.slot_next.lookup,h⟩
theorem dZ.keep{h h':Heap}{I a tp:Addr}{es:Array (Int×Value)}{ep i:Nat}{t:SetTable}{ord:List (Int×Value)}(x:dZ w h I a tp es ep t ord i)(k:∀ b∈[I,a,tp],∀ o,h.get? b=some o->h'.get? b=some o):dZ w h' I a tp es ep t ord i :=
 ⟨x.so.keep fun o e=>k a (by simp) o e,let ⟨o,f,h1,h2,h3,h4⟩:=x.it;⟨o,f,k I (by simp) o h1,h2,h3,h4.keep fun o e=>k tp (by simp) o e⟩,x.ne,x.pm⟩
theorem Bc(hh:A.handled=none)(I a tp:Addr)(es:Array (Int×Value))(ep:Nat)(t:SetTable)(ord:List (Int×Value)) :
  Walks prog w A I [I,a,tp] [I] ord.length (fun i v=>∃ e,ord[i]?=some e/\v=e.2) (fun i h=>dZ w h I a tp es ep t ord i) where
 sub:=fun b hb=>by simp at hb;simp[hb]
 frame:=fun _ _ _ st hk=>st.keep hk
 item:=fun i s Q E hi st hQ=>next_item st (aas hi) fun h' x' sb=>hQ _ h' s.toks ⟨_,aas hi,rfl⟩ x' fun b o hb e=>sb.extBut b o (fun h=>hb (by simp[h])) e
 done:=fun s Q E st hQ=>next_end hh st (List.getElem?_eq_none (aar _)) fun h' eb=>hQ h' s.toks fun b o hb e=>eb b o (fun h=>hb (by simp[h])) e
 self:=fun _ _ _ _ st hQ=>Bb st hQ
theorem Bd(x:de (w.params.followText "set-order") s.heap a es ep t)(hz:es.size<=sizeLine)(hQ:∀(h':Heap) (d:Drawn) (I tp:Addr) (ord:List (Int×Value)),(∀ b o,s.heap.get? b=some o->h'.get? b=some o)->s.heap.objs.size<=I->(tp=a\/s.heap.objs.size<=tp)->dZ w h' I a tp es ep t ord 0->Q (.ref I) { s with heap:=h',drawn:=d }) :
  wpAny (model prog w) A (pyIter (.ref a)) Q E s:=by
 have gh:a < s.heap.objs.size:=let ⟨_,ho,_⟩:=x.ob;aay ho;refine wpAny_pyIter_slot x.typeIs St.qv (abq St.qv x.typeIs St.xw ?_ (PySem.F.args_set_iter_1 _));unfold Builtin.«frozenset.__iter__»;refine aak (m:=Builtin.Frozenset.slot0 _ _) (aak (aao (aao ?_)));unfold Builtin.Frozenset.sizeOf setEntries;refine aak (aak (aak (eS x (aao (aao ?_)))));unfold setDrawn;refine aak (aak (eS x (aak (kR (aao ?_)))));dsimp only;have g:∀(h1:Heap) (d:Drawn) (first:Value) (tp:Addr) (ord:List (Int×Value)),(∀ b o,s.heap.get? b=some o->h1.get? b=some o)->s.heap.objs.size<=h1.objs.size->(tp=a\/s.heap.objs.size<=tp)->tp < h1.objs.size->Mode w h1 a tp es ep t ord 0 first->ord.Perm es.toList ->
   wpAny (model prog w) A.in1 (do
     let bf <- setEpoch a
     let bf <- newFields "set_iterator" [first,rawInt 0,Value.ref a,rawInt ↑es.size,rawInt ↑bf]
     (ret bf:Sem PySem.Fin))
    (fun fin s'=>∃ v,fin=PySem.Fin.done (Flow.ret v)/\∃ T' r,s'.TypeIs v T'/\typeLookup (Value.type T') (Str.ofString "__next__")=pure (some r)/\Q v s') E { s with heap:=h1,drawn:=d }:=by
  intro h1 d first tp ord k1 vW ht htl hm hp
  unfold setEpoch;refine aak (aak (eS (s:={ s with heap:=h1,drawn:=d }) (x.keep fun o e=>k1 a o e) (aao ?_)));refine aak (abn (aao ⟨_,rfl, "set_iterator",_,⟨_,aaz _ rfl,rfl⟩,St.slot_next.lookup,?_⟩));refine hQ _ d h1.objs.size tp ord (fun b o e=>aam _ (k1 b o e)) vW ht ⟨x.keep fun o e=>aam _ (k1 a o e),⟨_,first,aaz _ rfl,rfl,rfl,hm.keep fun o e=>aam _ e⟩,⟨aa1 (aaL gh vW),aa1 htl⟩,hp⟩
 cases hb:w.params.followText "set-order" with
 | true =>
  rw[aaD (by simp)];refine aak (aao ?_);exact g s.heap s.drawn _ a _ (fun b o e=>e) (aar _) (.inl rfl) gh (.inl ⟨hb,rfl,rfl⟩) (n8 _ _)
 | false =>
  cases hd:NA es t with
  | false =>
   rw[aaD (by simp;exact hd)];refine aak (aao ?_);exact g s.heap s.drawn _ a _ (fun b o e=>e) (aar _) (.inl rfl) gh (.inr (.inl ⟨hb,hd,rfl,0,rfl,xx x.up⟩)) (ac0 _)
  | true =>
   rw[aaN (by simp;exact hd)];refine aak (j5 _ _ _ (by simp) fun ps d hp=>?_);refine aak (wpAny_newTuple ?_ (by rw[aal,hp.length_eq,List.length_range];exact hz));have hr:(List.range es.size).map (fun k=>es[k]?)=es.toList.map some:=by
    apply adV (by simp);intro i h1 h2;simp at h1 h2 ⊢
   have pE:∀ k∈ps,k < es.size:=fun k hk=>List.mem_range.mp (hp.mem_iff.mp hk);have VS:ps.map (fun k=>es[k]?)=(ps.filterMap fun k=>es[k]?).map some:=by
    clear hp;induction ps with
    | nil=>rfl
    | cons k r ih =>
     have hk:=pE k (aax ..);rw[aaZ,ih fun j hj=>pE j (aaw _ hj),acI,abg hk]
     rfl
   refine g _ d _ s.heap.objs.size (ps.filterMap fun k=>es[k]?) (fun b o e=>aam _ e) (by rw[size_push'];exact abM _) (.inr (aar _)) (by rw[size_push'];exact abI _) (.inr (.inr ⟨hb,ps,0,rfl,aaz _ rfl,VS⟩)) ?_;have h1:=hp.filterMap (fun k=>es[k]?);rw[filterMap_getElem?_range]at h1;exact h1
theorem Ef{r:Addr}{Q:Bool->Shared->Prop}(hT:s.TypeIs (.ref r) "set")(h:Q false s):wpAny (model prog w) A (Builtin.List.listLengthHint (.ref r)) Q E s:=by
 unfold Builtin.List.listLengthHint;refine aak (wpAny_specialOf hT PySem.F.slot_set_len.lookup ?_);generalize Yr:("set.__len__":String)=id0
 wp_delta
 rw[show splitId id0=some ("set", "__len__") from by subst Yr;decide +kernel];subst Yr;refine aak (wpAny_isInstance (T := "set") (b:=true) hT (by rw[isSubtype_type];kernel_rfl) ?_);refine abF (fun GD=>absurd GD (by decide)) (fun _=>?_);refine abF (fun _=>?_) (fun GD=>absurd (by decide +kernel) GD);refine aak (wpAny_typeOf hT ?_);exact aao h
theorem uT{R:wf->Shared->Prop}(hh:A.handled=none)(x:de (w.params.followText "set-order") s.heap a es ep t)(hz:es.size<=sizeLine)(hR:∀(h':Heap) (tk:Nat) (d:Drawn) (vs:wf),(∀ b o,s.heap.get? b=some o->h'.get? b=some o)->vs.Perm (es.toList.map (·.2))->R vs { s with heap:=h',toks:=tk,drawn:=d }) :
  wpAny (model prog w) A (collect (.ref a)) R E s:=by
 have gh:a < s.heap.objs.size:=let ⟨_,ho,_⟩:=x.ob;aay ho;unfold collect;refine aak (wpAny_runValue (acx entry_proto_collect' ?_));rw[ab9 PySem.F.plain_proto_collect _];show wpAny _ A.in1 (newList [] >>= fun l=>again (.builtin "list.__iadd__" ⟨[l,.ref a],[]⟩)) _ _ s;refine aak (abn ?_);refine aao ⟨adm PySem.F.plain_list_iadd _,acx entry_list_iadd' ?_⟩;rw[ab9 PySem.F.plain_list_iadd _];have zA:(s.heap.push { cls:=.type "list",data:=.seq ([]:wf).toArray }).get? s.heap.objs.size=some { cls:=.type "list",data:=.seq #[] }:=aaz _ rfl;have x1:de (w.params.followText "set-order") (s.heap.push { cls:=.type "list",data:=.seq ([]:wf).toArray }) a es ep t:=x.keep fun o e=>aam _ e;have TJ:(s.heap.push { cls:=.type "list",data:=.seq ([]:wf).toArray }).objs.size=s.heap.objs.size+1:=size_push' ..;have k1:∀ b o,s.heap.get? b=some o->(s.heap.push { cls:=.type "list",data:=.seq ([]:wf).toArray }).get? b=some o:=fun b o e=>aam _ e;generalize (s.heap.push { cls:=.type "list",data:=.seq ([]:wf).toArray })=h1 at zA x1 TJ k1;show wpAny _ A.in1 (Builtin.List.listExtendWith (.ref s.heap.objs.size) (.ref a) (.ref s.heap.objs.size)) _ _ _;unfold Builtin.List.listExtendWith;refine aak (wpAny_typeOf (T := "set") (de.typeIs (s:={ s with heap:=h1 }) x1) ?_);have mB:Builtin.List.listSameRef (.ref s.heap.objs.size) (.ref a)=false:=by simp[Builtin.List.listSameRef,ab0 gh]
 simp only[mB,show(Value.type "set" == Value.type "list")=false by decide,show(Value.type "set" == Value.type "tuple")=false by decide,Bool.or_false,ab4,ady];refine aak (Bd (s:={ s with heap:=h1 }) x1 hz fun h2 d I tp ord k2 hI NB it=>?_);have Ys:s.heap.objs.size ∉ [I,a,tp]:=by
  have MU:h1.objs.size<=I:=hI;have:tp=a\/h1.objs.size<=tp:=NB;intro z;simp only[aat,abl,adl]at z;rcases z with z | z | z
  ·rw[<- z,TJ]at MU;exact absurd MU (Nat.not_succ_le_self _)
  ·exact ab0 gh z
  ·rcases this with q | q
   ·rw[q]at z;exact ab0 gh z
   ·rw[<- z,TJ]at q;exact absurd q (Nat.not_succ_le_self _)
 have VT:=k2 _ _ zA;have hlen:ord.length<=sizeLine:=by rw[it.pm.length_eq];simpa using hz
 have key:∀(h:Heap) (c₁ tk:Nat),dZ w h I a tp es ep t ord 0->(∀ b o,s.heap.get? b=some o->h.get? b=some o) ->
   h.get? s.heap.objs.size=some { cls:=.type "list",data:=.seq #[] c₁ }->codeAny (model prog w) A (.builtin "list.extend.loop" ⟨[.ref s.heap.objs.size,.ref I,.ref s.heap.objs.size],[]⟩) (fun r s'=>match r with
    | .ok (.ret (.ref l))=>∃(h':Heap) (tk:Nat) (vs:wf) (c':Nat),s'={ s with heap:=h',toks:=tk,drawn:=d }/\(∀ b o,s.heap.get? b=some o->h'.get? b=some o)/\h'.get? l=some { cls:=.type "list",dict:=none,data:=.seq vs.toArray c',slots:=#[] }/\vs.Perm (es.toList.map (·.2))
    | _=>False) { s with heap:=h,toks:=tk,drawn:=d }:=by
  intro h c₁ tk ud hk zA;refine codeAny_extend_loopS (Bc (A:=A.in1) (prog:=prog) (w:=w) hh I a tp es ep t ord).toS hlen s.heap.objs.size Ys (.ref s.heap.objs.size) ord.length 0 _ #[] c₁ rfl (aaW _) ud zA (ItemsOf.nil _) fun s' NC c' hm hS' RN=>?_;rw[Moved.eq_with hm];refine⟨s'.heap,s'.toks,NC.toList,c',rfl,fun b o e=>hm.heap b o (fun ND=>?_) (hk b o e),by rw[adj];exact hS',?_⟩
  ·have hb:=aay e;rcases aat.mp ND with e' | ND
   ·rw[e']at hb;exact absurd hb (aa6 _)
   ·rw[aaq.mp ND]at hb;have MU:h1.objs.size<=I:=hI;rw[TJ]at MU;exact absurd (Nat.lt_trans hb MU) (aa6 _)
  ·have e1:NC.toList=ord.map (·.2):=by
    apply adV (by rw[aaO,aal];exact RN.1);intro j h1 h2;rw[aaO]at h1;obtain⟨e,he,hv⟩:=RN.2 j NC[j] (by rw[abg h1]);rw[aal]at h2;rw[aas h2]at he;cases he;rw[abH,ac9];exact hv
   rw[e1];exact it.pm.map _
 have go:∀(h:Heap) (c₁ tk:Nat),dZ w h I a tp es ep t ord 0->(∀ b o,s.heap.get? b=some o->h.get? b=some o)->h.get? s.heap.objs.size=some { cls:=.type "list",data:=.seq #[] c₁ } ->
   codeAny (model prog w) A (.builtin "list.extend.loop" ⟨[.ref s.heap.objs.size,.ref I,.ref s.heap.objs.size],[]⟩) (fun r s'=>match r with
    | .ok (.ret v)=>wpAny (model prog w) A (match v with
      | Value.ref a=>do
       let bf <- load a
       match bf.data with
        | Data.seq xs Yt=>pure xs.toList
        | x=>unsupported "internal:collect"
      | x=>unsupported "internal:collect") R E s'
    | .ok a=>False
    | .error e=>E e s') { s with heap:=h,toks:=tk,drawn:=d }:=fun h c₁ tk i1 i2 i3=>acs (key h c₁ tk i1 i2 i3) fun r s' hr=>by
  cases r with
  | error e=>exact hr.elim
  | ok f =>
   cases f with
   | ret v =>
    cases v with
    | ref l =>
     obtain⟨h',tk',vs,c',rfl,q1,q2,q3⟩:=hr;dsimp only;refine aak (wpAny_load q2 (aao ?_));exact hR h' tk' d vs q1 q3
    | _=>exact hr.elim
   | _=>exact hr.elim
 refine aak (abj (Ef (de.typeIs (s:={ s with heap:=h2,drawn:=d }) it.so) ?_));refine abF (fun _=>?_) (fun _=>aao ⟨adm adD _,go _ 0 _ it (fun b o e=>k2 b o (k1 b o e)) VT⟩);refine aak (acy ?_);refine aak ?_;show wpAny _ _ (updateSeq s.heap.objs.size (·.push .none) >>= fun _=>updateSeq s.heap.objs.size (·.pop)) _ _ _;refine aak (wpAny_updateSeq VT rfl ?_);have Ku:=abh (Obj.mapSeq (·.push Value.none)) VT rfl;refine wpAny_updateSeq (hz:=by seq_fits) Ku rfl ?_;have RO:=abh (Obj.mapSeq (·.pop)) Ku rfl;have GF:∀ b o,b≠s.heap.objs.size->h2.get? b=some o->((h2.update s.heap.objs.size (Obj.mapSeq (·.push Value.none))).update s.heap.objs.size (Obj.mapSeq (·.pop))).get? b=some o:=fun b o hb e =>
  (abw _ _ (abi hb)).trans ((abw _ _ (abi hb)).trans e)
 refine aao ⟨adm adD _,go _ _ _ (it.keep fun b hb o e=>GF b o (fun z=>Ys (z▸hb)) e) (fun b o e=>GF b o (aa1 (aay e)) (k2 b o (k1 b o e))) RO⟩
section
variable {κ:KeyOrd}{kv:Value->κ.α}{kd:SortKind}{S:Value->Prop}
theorem oh{r:Addr}{Rc:wf->Prop}(NF:∀(A:sK) (R:wf->Shared->Prop) (E:xz),A.handled=none->(∀(h':Heap) (tk:Nat) (d:Drawn) (vs:wf),(∀ b o,s.heap.get? b=some o->h'.get? b=some o)->Rc vs->R vs { s with heap:=h',toks:=tk,drawn:=d })->wpAny (model prog w) A (collect (.ref r)) R E s)(hh:A.handled=none)(hz:∀ vs,Rc vs->vs.length < 64)(hI:∀ vs,Rc vs->∃ ns,IntsAre vs ns)(h:∀(h1 h':Heap) (tk:Nat) (d:Drawn) (vs out:wf) (ns iT:wn) (c:Nat),(∀ b o,s.heap.get? b=some o->h1.get? b=some o)->(∀ b o,h1.get? b=some o->h'.get? b=some o)->Rc vs->IntsAre vs ns->h'.get? h1.objs.size=some (seqObj "list" out.toArray c)->IntsAre out iT->iT.Perm ns->iT.Pairwise (·<=·)->Q (.ref h1.objs.size) { s with heap:=h',toks:=tk,drawn:=d }) :
  wpAny (model prog w) A (call (.builtin "sorted") [.ref r]) Q E s:=by
 refine Calls.call_function_entry kind_sorted plain_sorted entry_sorted (args_sorted1 _) ?_;unfold Builtin.«sorted»;refine aak (m:=checkCount "sorted" 1 1 _) (aao (aak (NF _ _ _ hh fun h1 tk d vs k1 rc=>aak (wpAny_newList ?_ (aaA (aaJ (hz vs rc)) (by decide))))));obtain⟨ns,hi⟩:=hI vs rc;have ho:(h1.push (seqObj "list" vs.toArray 0)).get? h1.objs.size=some (seqObj "list" vs.toArray 0):=aaz _ rfl;refine aak (abj (abq slot_list_sort ⟨_,ho,rfl⟩ entry_list_sort (list_sort_tree (s:={ s with heap:=h1.push (seqObj "list" vs.toArray 0),toks:=tk,drawn:=d }) ho hi (hz vs rc) fun out iT a p o=>⟨_,rfl,aao ⟨_,rfl,?_⟩⟩) (args_list_sort _)));obtain⟨c,hc⟩:=sortedHeap_at (vs:=vs) (out:=out) ho;refine h h1 _ tk d vs out.toList ns iT c k1 (fun b o e=>?_) rc hi (by rw[adj];exact hc) a p o;have hl:=aay e;have e2:(h1.push (seqObj "list" vs.toArray 0)).get? b=some o:=aam _ e;exact(sortedHeap_old (aa1 hl) (aay e2)).trans e2
end
theorem jb{xs:Array Nat}:cz xs↔xs.toList.Pairwise (· < ·):=by
 rw[abo];constructor
 ·intro h i j hi hj hl;exact h i j (by simpa using hi) (by simpa using hj) hl
 ·intro h i j hi hj hl;exact h i j (by simpa using hi) (by simpa using hj) hl
theorem oj:cz #[]:=fun i j hi=>absurd hi (by simp)
theorem fJ(n:Nat):cz (Array.range n):=by
 rw[jb,Array.toList_range];exact List.pairwise_lt_range
theorem uU{j:Nat}(hr:cz t.place)(h:∀ i,t.slot j≠.live i):j ∉ t.place.toList:=fun hm=>by
 obtain⟨i,hi,e⟩:=acD.mp hm;have A5:i < t.place.size:=by simpa using hi
 rw[abH]at e;obtain⟨h1,h2,h3⟩:=g9 j hr;have eb:SetTable.below t.place j=i:=by
  rcases acZ (SetTable.below t.place j) i with q | q | q
  ·have a:=h3 (SetTable.below t.place j) (by omega) (aar _);have b:=hr _ i (by omega) A5 q;omega
  ·exact q
  ·have a:=h2 i A5 q;omega
 refine h i ?_;unfold SetTable.slot;dsimp only;rw[eb,abg A5,e];simp
theorem kS{t:SetTable}(hr:cz t.place){ha:Nat->Int}{h:Int}:∀(fuel:Nat) (p:SetTable.Probe) {j:Nat} {d:Option Nat},(∀ k,p.dummy=some k->k ∉ t.place.toList)->SetTable.probe.go t ha h fuel p=some (.empty j d)->j ∉ t.place.toList/\∀ k,d=some k->k ∉ t.place.toList
 | 0,p,j,d,hp,e=>by unfold SetTable.probe.go at e;cases e
 | fuel+1,p,j,d,hp,e=>by
  unfold SetTable.probe.go at e;have Yu:∀ q:SetTable.Probe,(t.advance q).dummy=q.dummy:=fun q=>by unfold SetTable.advance;split<;>rfl
  cases hs:t.slot p.j with
  | empty =>
   rw[hs]at e;cases e;exact⟨uU hr (fun i z=>by rw[hs]at z;cases z),hp⟩
  | dummy =>
   rw[hs]at e;refine kS hr fuel _ (fun k hk=>?_) e;rw[Yu]at hk;cases hk;exact uU hr fun i z=>by rw[hs]at z;cases z
  | live i =>
   rw[hs]at e;dsimp only at e;split at e
   ·cases e
   ·exact kS hr fuel _ (fun k hk=>hp k (by rw[Yu]at hk;exact hk)) e
theorem Eg(hr:cz t.place){h:Int}{slot:Nat}{wd:Bool}(e:t.freeSlot h=some (slot,wd)):slot ∉ t.place.toList:=by
 unfold SetTable.freeSlot SetTable.probe at e;cases q:SetTable.probe.go t (fun _=>h+1) h (10 * SetTable.turns t.mask) (t.probeStart h) with
 | none=>rw[q]at e;cases e
 | some m =>
  rw[q]at e;cases m with
  | candidate j i n=>cases e
  | empty j d =>
   obtain⟨h1,h2⟩:=kS hr _ _ (fun k hk=>by unfold SetTable.probeStart at hk;cases hk) q;cases d with
   | none=>simp at e;rw[<- e.1];exact h1
   | some d=>simp at e;rw[<- e.1];exact h2 d rfl
theorem xB(hr:cz t.place){j:Nat}(hj:j ∉ t.place.toList):cz (t.put j).1.place:=by
 obtain⟨h1,h2,h3⟩:=g9 j hr;show cz (SetTable.insertAt t.place (SetTable.below t.place j) j);rw[jb,SetTable.toList_insertAt];have hp:=jb.mp hr;refine acE.mpr ⟨hp.sublist (List.take_sublist ..),abG.mpr ⟨fun x hx=>?_,hp.sublist (List.drop_sublist ..)⟩,fun x hx y hy=>?_⟩
 ·obtain⟨k,hk,e⟩:=acD.mp hx;rw[List.getElem_drop,abH]at e;rw[abZ,aaO]at hk;have:=h3 (SetTable.below t.place j+k) (by omega) (by omega);have mB:x≠j:=fun z=>hj (z▸abu hx);omega
 ·obtain⟨k,hk,e⟩:=acD.mp hx;rw[adG,abH]at e;rw[aa8,aaO]at hk;have OX:=h2 k (by omega) (by omega);have Yv:x < j:=by omega
  rcases aat.mp hy with rfl | hy
  ·exact Yv
  ·obtain⟨m,hm,e'⟩:=acD.mp hy;rw[List.getElem_drop,abH]at e';rw[abZ,aaO]at hm;have:=h3 (SetTable.below t.place j+m) (by omega) (by omega);omega
theorem sg(hr:cz t.place)(n:Nat):cz (t.orStandIn n).place/\(t.orStandIn n).led=t.led:=by
 unfold SetTable.orStandIn;split
 ·exact⟨hr,rfl⟩
 ·exact⟨fJ n,rfl⟩
theorem Be(hr:cz t.place)(es:Array (Int×Value))(h:Int)(x:Value):cz (layNew t es h x).2.1.place/\(layNew t es h x).2.1.led=t.led:=by
 unfold layNew;cases q:t.freeSlot h with
 | none=>exact⟨fJ _,rfl⟩
 | some sw =>
  obtain⟨slot,wd⟩:=sw;have h1:=xB hr (Eg hr q);have h2:=sg h1 (SetTable.insertAt es (t.put slot).2 (h,x)).size;exact⟨h2.1,h2.2⟩
theorem Bf{t':SetTable}{hs:Array Int}{wanted:Nat}{order:Array Nat}(e:t.relaid hs wanted=some (t',order)):cz t'.place/\t'.led=t.led:=by
 unfold SetTable.relaid SetTable.laid at e;cases q:SetTable.layClean (SetTable.sizeAbove wanted - 1) hs with
 | none=>rw[q]at e;cases e
 | some owner =>
  rw[q]at e;simp only[bind,Option.bind,pure]at e;have e':=aa5 e;have e1:=abJ Prod.fst e';dsimp only at e1;subst e1;refine⟨?_,rfl⟩;rw[jb];dsimp only;rw[adH];have hp:List.Pairwise (· < ·) (List.range (SetTable.sizeAbove wanted - 1+1)):=List.pairwise_lt_range;refine List.Pairwise.filterMap _ (fun a b GD x hx y hy=>?_) hp;cases q1:owner.getD a none with
  | none=>rw[q1]at hx;simp at hx
  | some u =>
   cases q2:owner.getD b none with
   | none=>rw[q2]at hy;simp at hy
   | some v =>
    rw[q1]at hx;rw[q2]at hy;simp at hx hy;subst hx hy;exact GD
theorem uV(es:Array (Int×Value))(wanted:Nat):cz (relayAll t es wanted).2.1.place/\(relayAll t es wanted).2.1.led=t.led:=by
 unfold relayAll;cases q:t.relaid (es.map (·.1)) wanted with
 | none=>exact⟨fJ _,rfl⟩
 | some to =>
  obtain⟨t',order⟩:=to;dsimp only;split
  ·exact Bf q
  ·exact⟨fJ _,rfl⟩
def xC(prog:sB)(w:World)(l:List (Int×Value)):Prop:=∀ e∈l,∃ n t,e.2=.int n t/\e.1=(intKind prog w).hash n
theorem xC.elems{l:List (Int×Value)}(h:xC prog w l):ElemsOf (intKind prog w) l:=fun e he=>by
 obtain⟨n,t,e1,e2⟩:=h e he;exact⟨⟨n,by rw[e1];exact ad2 _ _ _ _,e2⟩,by rw[e1];rfl⟩
theorem xC.perm{l l':List (Int×Value)}(h:xC prog w l)(p:l'.Perm l):xC prog w l':=fun e he=>h e (p.mem_iff.mp he)
def xD(prog:sB)(w:World)(h:Heap)(a:Addr)(ns:wn):Prop :=
 ∃ es ep t,de (w.params.followText "set-order") h a es ep t/\es.size < scanBound/\xC prog w es.toList/\(es.toList.map fun e=>numOf e.2).Perm ns/\ns.Nodup
theorem xD.keep{prog:sB}{w:World}{h h':Heap}{a:Addr}{ns:wn}(x:xD prog w h a ns)(k:∀ o,h.get? a=some o->h'.get? a=some o):xD prog w h' a ns :=
 let ⟨es,ep,t,x1,r⟩:=x;⟨es,ep,t,x1.keep k,r⟩
theorem uW{lD:Array (Int×Value)}{t':SetTable}{bt:Bool}(x:de bt h a es ep t)(hf:t'.fits lD.size=true)(hl:t'.led=t.led)(hr:cz t'.place):de bt (h.update a (Obj.putSet lD t')) a lD (ep+1) t':=by
 obtain⟨o,ho,hex,hd⟩:=x.ob;have:=abh (Obj.putSet lD t') ho (by rw[putSet_of lD t' hd];rfl);rw[putSet_of lD t' hd]at this;exact⟨⟨_,this,hex,rfl⟩,hf,hl.trans x.led,hr⟩
theorem uX{g:Bool->Sem Unit}(hg:∀(b:Bool) (bG:Shared) (Q':Unit->Shared->Prop),Q' () bG->wpAny (model prog w) A (g b) Q' E bG)(x:de (w.params.followText "set-order") s.heap a es ep t){kx:Array (Int×Value)}{t2:SetTable}(hz:kx.size<=sizeLine)(hf2:t2.fits kx.size=true)(hl:t2.led=t.led)(hr:cz t2.place){uY:Bool}{R:Option Bool->Shared->Prop}(h:∀ h' Bh Iw t3,Heap.SameBut a s.heap h'->de (w.params.followText "set-order") h' a Bh Iw t3->Bh.toList.Perm kx.toList->R (some true) { s with heap:=h' }) :
  wpAny (model prog w) A (do
    storeSet a kx t2
    if(!uY&&t2.tooFull)=true then do
      g (relayAll t2 kx (SetTable.grown kx.size)).2.2
      storeSet a (relayAll t2 kx (SetTable.grown kx.size)).1 (relayAll t2 kx (SetTable.grown kx.size)).2.1
      pure (some true)
     else pure (some true)) R E s:=by
 obtain⟨o,ho,hex,hd⟩:=x.ob;refine aak (wpAny_storeSet_of ho hd ?_ hz);have x1:=uW x hf2 hl hr;have RP:=aa9 s.heap a (Obj.putSet kx t2);split
 ·have hp:=relayAll_perm t2 kx (SetTable.grown kx.size);have OS:=relayAll_fits t2 kx (SetTable.grown kx.size);have jE:=uV (t:=t2) kx (SetTable.grown kx.size);generalize hRl:relayAll t2 kx (SetTable.grown kx.size)=Rl at hp OS jE ⊢;obtain⟨Bh,t3,Yw⟩:=Rl;dsimp only at hp OS jE ⊢;have vW:Bh.size=kx.size:=by rw[<- aaO,hp.length_eq,aaO]
  refine aak (hg _ _ _ ?_);obtain⟨o1,Dm,aac,hd1⟩:=x1.ob;refine aak (wpAny_storeSet_of Dm hd1 ?_ (by rw[vW];exact hz));exact aao (h _ _ _ _ (RP.trans (aa9 _ a _)) (uW x1 OS jE.2 jE.1) hp)
 ·exact aao (h _ _ _ _ RP x1 (ac0 _))
theorem add_int{k:Int}{tk:Tok}{Q:Bool->Shared->Prop}(hS:xD prog w s.heap a ns)(Kv:ns.length+1 < scanBound)(h:∀ h' iT b,Heap.SameBut a s.heap h'->xD prog w h' a iT->(∀ n,n∈iT↔n∈ns\/n=k)->iT.length<=ns.length+1->Q b { s with heap:=h' }) :
  wpAny (model prog w) A (setAddHashed a (.int k tk) ((intKind prog w).hash k)) Q E s:=by
 obtain⟨es,ep,t,x,hb,NG,Kw,TK⟩:=hS;obtain⟨o,ho,hex,hd⟩:=x.ob;have hn:es.size=ns.length:=by have:=Kw.length_eq;simpa using this
 have LL:(intKind prog w).is k (.int k tk)=true:=ad2 _ _ _ _;have HB:∀ e∈es.toList,(intKind prog w).is k e.2=true↔numOf e.2=k:=fun e he=>by
  obtain⟨n,t',e1,_⟩:=NG e he;rw[e1];constructor
  ·intro q;exact((intKind prog w).inj _ _ _ q (ad2 _ _ n t')).symm
  ·rintro rfl;exact ad2 _ _ _ _
 unfold setAddHashed setAddHashedIn;refine abj (aak (wpAny_setState_of ho hd x.fits ?_));dsimp only;rw[byScan_of rfl hb NG.elems];simp only[↓reduceIte];unfold setAddByScan;refine aak ?_;refine aak (acy ?_);refine aak (wpAny_setScan_of LL ho hd x.fits NG.elems ?_);cases hr:List.findIdx? (fun e=>(intKind prog w).is k e.2) es.toList with
 | some j =>
  dsimp only;obtain⟨hj,hpj,_⟩:=List.findIdx?_eq_some_iff_getElem.mp hr;have hk:k∈ns:=Kw.mem_iff.mp (abc.mpr ⟨_,abA hj,(HB _ (abA hj)).mp hpj⟩);refine aao (aao ?_);exact h s.heap ns false (Heap.SameBut.refl a s.heap) ⟨es,ep,t,x,hb,NG,Kw,TK⟩ (fun n=>⟨.inl,fun z=>z.elim id fun z=>z▸hk⟩) (by omega)
 | none =>
  dsimp only;have hk:k ∉ ns:=fun hk=>by
   obtain⟨e,he,q⟩:=abc.mp (Kw.mem_iff.mpr hk);have:=List.findIdx?_eq_none_iff.mp hr e he;rw[(HB e he).mpr q]at this;cases this
  have hgw:∀(b:Bool) {bG:Shared} {Q':Unit->Shared->Prop},Q' () bG->wpAny (model prog w) A (match b with | true=>rule "set.scan.the-table-gave-way" | false=>pure ()) Q' E bG :=
   fun b bG Q' hq=>by cases b<;>first | exact aao hq | exact acy hq
  have qw:=layNew_perm t es ((intKind prog w).hash k) (.int k tk);have uZ:=layNew_fits t es ((intKind prog w).hash k) (.int k tk);have Bi:=Be x.up es ((intKind prog w).hash k) (.int k tk);generalize hL:layNew t es ((intKind prog w).hash k) (.int k tk)=L at qw uZ Bi ⊢;obtain⟨kx,t1,uY,aad⟩:=L;dsimp only at qw uZ Bi ⊢;rw[Array.toList_push]at qw;have RQ:kx.size=es.size+1:=by rw[<- aaO,qw.length_eq,aaP,aaO];rfl
  have VU:xC prog w kx.toList:=fun e he=>by
   rcases aav.mp (qw.mem_iff.mp he)with q | q
   ·exact NG e q
   ·rw[aaq]at q;subst q;exact⟨k,tk,rfl,rfl⟩
  have VV:(kx.toList.map fun e=>numOf e.2).Perm (ns++[k]):=by
   have h1:=qw.map (fun e=>numOf e.2);rw[aaU]at h1;exact h1.trans (Kw.append_right _)
  have VW:(ns++[k]).Nodup:=adI.mpr ⟨TK,by simp,fun a ha b RS=>by rw[aaq]at RS;subst RS;exact fun z=>hk (z▸ha)⟩;have uu:∀ h' Bh Iw t3,Heap.SameBut a s.heap h'->de (w.params.followText "set-order") h' a Bh Iw t3->Bh.toList.Perm kx.toList->Q true { s with heap:=h' }:=fun h' Bh Iw t3 sb x2 p2=>by
   refine h h' (ns++[k]) true sb ⟨Bh,Iw,t3,x2,?_,VU.perm p2,(p2.map _).trans VV,VW⟩ (fun n=>by simp) (by simp);rw[<- aaO,p2.length_eq,aaO,RQ,hn];exact Kv
  have TL:kx.size<=sizeLine:=fits_of_scanBound (by rw[RQ,hn];exact Kv);refine aak (hgw _ ?_);split
  ·refine aak ?_;rw[hashByValue_scannable 8 rfl];refine aao ?_;refine uX ?_ x TL ?_ ?_ ?_ ?_
   ·intro b bG Q' hq;cases b<;>first | exact aao hq | exact acy hq
   ·split
    ·exact uZ
    ·exact SetTable.fits_plain_off uZ
   ·split<;>exact Bi.2
   ·split<;>exact Bi.1
   ·intro h' Bh Iw t3 sb x2 p2;dsimp only;exact aao (uu h' Bh Iw t3 sb x2 p2)
  ·refine aak (aao ?_);simp only[↓reduceIte];refine uX ?_ x TL uZ Bi.2 Bi.1 ?_
   ·intro b bG Q' hq;cases b<;>first | exact aao hq | exact acy hq
   ·intro h' Bh Iw t3 sb x2 p2;dsimp only;exact aao (uu h' Bh Iw t3 sb x2 p2)
structure NH(prog:sB)(w:World)(u:Nat)(S I:Addr)(n:Nat)(P:Nat->Value->Prop)(J:Nat->Heap->Prop):Prop where
 keep:∀ i h h',J i h->(∀ b o,b≠I->h.get? b=some o->h'.get? b=some o)->J i h'
 add:∀(A:sK) (s:Shared) i v,A.units<=u->i < n->P i v->J i s.heap->∀(Q:Bool->Shared->Prop) (E:xz),(∀ h' tk b,Heap.SameBut S s.heap h'->s.toks<=tk->J (i+1) h'->Q b { s with heap:=h',toks:=tk })->wpAny (model prog w) A (setAdd S v) Q E s
theorem Bj{R:Result->Shared->Prop}{S:Addr}{fp:ww}{n:Nat}{P:Nat->Value->Prop}{St:Nat->Heap->Prop}{J:Nat->Heap->Prop}{u:Nat}(W:Walks prog w A.in1 I fp [I] n P St)(F:NH prog w u S I n P J)(hu:A.units+1<=u)(hSf:S ∉ fp) :
  ∀(k:Nat) (s:Shared),k<=n->St (n - k) s.heap->J (n - k) s.heap ->
   (∀ h' tk,(∀ b o,b≠S->b≠I->s.heap.get? b=some o->h'.get? b=some o)->J n h'->R (.ok (.ret .none)) { s with heap:=h',toks:=tk }) ->
   codeAny (model prog w) A (.builtin "set.update.loop" ⟨[.ref S,.ref I],[]⟩) R s:=by
 intro k;induction k with
 | zero =>
  intro s _ ud hJ hR;refine acx acG ?_;rw[ab9 abV];refine aak (W.done s _ _ ud fun h' tk hk=>?_);have kk:∀ b o,b≠I->s.heap.get? b=some o->h'.get? b=some o:=fun b o hb e=>hk b o (by simpa using hb) e;exact aao (hR h' tk (fun b o _ hb e=>kk b o hb e) (F.keep _ _ _ hJ kk))
 | succ k ih =>
  intro s hle ud hJ hR;refine acx acG ?_;rw[ab9 abV];refine aak (W.item (n - (k+1)) s _ _ (by omega) ud fun v h1 tk1 hP RT hk=>?_);have kk:∀ b o,b≠I->s.heap.get? b=some o->h1.get? b=some o:=fun b o hb e=>hk b o (by simpa using hb) e;refine aak (abj (F.add _ _ _ v hu (by omega) hP (F.keep _ _ _ hJ kk) _ _ fun h2 tk2 b sb _ Yx=>?_));have e:n - (k+1)+1=n - k:=by omega
  rw[e]at RT Yx;have GF:∀ b o,b≠S->h1.get? b=some o->h2.get? b=some o:=fun b o hb q=>sb.extBut b o hb q;refine aao ⟨adm abV _,ih { s with heap:=h2,toks:=tk2 } (by omega) ?_ Yx fun h3 tk3 k3 hJ3=>hR h3 tk3 (fun b o AZ Yy q=>k3 b o AZ Yy (GF b o AZ (kk b o Yy q))) hJ3⟩;exact W.frame _ _ _ RT fun b hb o q=>GF b o (fun z=>hSf (z▸hb)) q
abbrev eJ(w:World):Obj:={ cls:=.type "set",dict:=none,data:=.set #[] 0 (.fresh 0 0 (!w.params.followText "set-order")) }
theorem Eh(x:Value)(h:Q (.ref s.heap.objs.size) { s with heap:=s.heap.push (eJ w) }):codeAny (model prog w) A (.call (.builtin "set.__new__") ⟨[.type "set",x],[]⟩) (wants Q E) s:=by
 refine codeAny_of_tree (aak (m:=checkBuiltinCall "set.__new__" _) (wpAny_of_eq (PySem.F.newCall_set_1 x) (aao ⟨adm PySem.F.plain_set_new _,acx PySem.F.entry_set_new ?_⟩)));rw[ab9 PySem.F.plain_set_new];unfold Builtin.«set.__new__» newSet;refine aak (Q:=_) (m:=Builtin.Frozenset.newClass _ _) ?_;unfold Builtin.Frozenset.newClass;have Hi:=sub_set_self
 wp_walk
 refine wpAny_askSetting (aao ?_);simp only[newObj];exact aak (wpAny_alloc (aao (aao h)))
theorem vb{T ni ii:String}{args:wf}{M:xz}(c:TypeCalled T ni ii)(hc:checkTypeCall T ⟨args,[]⟩=pure ())(hm:codeAny (model prog w) A.in1 (.call (.builtin ni) ⟨.type T::args,[]⟩) (wants M E) s)(hf:∀ x s1,M x s1->s1.TypeIs x T/\codeAny (model prog w) A.in1 (.call (.builtin ii) ⟨x::args,[]⟩) (wants (fun r s2=>r=.none/\Q x s2) E) s1):wpAny (model prog w) A (call (.type T) args) Q E s:=by
 have⟨nt,cc,⟨_,_,mro⟩,mk,_,sb,TM⟩:=c;refine wpAny_call (codeAny_of_tree (aao ⟨Code.quiet_builtin _ (by decide +kernel),acx PySem.F.entry_type_call ?_⟩));rw[Around.under_plain (weight_type_call_type T args []) rfl]
 repeat (any_goals (first | wp_step | assumption))
 refine acs hm fun r s1 hr=>?_;rcases r with e | f
 ·exact hr
 cases f with
 | next=>exact hr.elim
 | brk=>exact hr.elim
 | cont=>exact hr.elim
 | ret x =>
 have⟨hT,hi⟩:=hf _ _ hr;have il:=TM.lookup;have ib:=TM.bind x
 repeat (any_goals (first | wp_step | assumption))
 refine acs hi fun r s2 HS=>?_;rcases r with e | f
 ·exact HS
 cases f with
 | next=>exact HS.elim
 | brk=>exact HS.elim
 | cont=>exact HS.elim
 | ret y =>
 obtain⟨rfl,q⟩:=HS
 repeat (any_goals (first | wp_step | assumption))
theorem vc{l:Addr}{items:Array Value}{J:Nat->Heap->Prop}{u:Nat}(hu:A.units+8<=u)(hh:A.handled=none)(hl:s.heap.IsList l items)(F:NH prog w u s.heap.objs.size (s.heap.objs.size+1) items.size (fun i v=>items[i]?=some v) J)(h0:∀ h',(∀ b o,s.heap.get? b=some o->h'.get? b=some o)->h'.get? s.heap.objs.size=some (eJ w)->J 0 h')(h:∀(h':Heap) (tk:Nat),(∀ b o,s.heap.get? b=some o->h'.get? b=some o)->J items.size h'->Q (.ref s.heap.objs.size) { s with heap:=h',toks:=tk }) :
  wpAny (model prog w) A (call (.type "set") [.ref l]) Q E s:=by
 refine vb (M:=fun o bG=>o=.ref s.heap.objs.size/\bG={ s with heap:=s.heap.push (eJ w) }) PySem.F.called_set (PySem.F.typeCall_set_1 _) (Eh _ ⟨rfl,rfl⟩) ?_;rintro _ _ ⟨rfl,rfl⟩;have hS:(s.heap.push (eJ w)).get? s.heap.objs.size=some (eJ w):=aaz _ rfl;have pG:(s.heap.push (eJ w)).IsList l items:=hl.push _;have vW:(s.heap.push (eJ w)).objs.size=s.heap.objs.size+1:=abm ..;have k1:∀ b o,s.heap.get? b=some o->(s.heap.push (eJ w)).get? b=some o:=fun b o e=>aam _ e;have gh:l < s.heap.objs.size:=let ⟨_,ho,_⟩:=hl;aay ho;have hTl:Shared.TypeIs { s with heap:=s.heap.push (eJ w) } (.ref l) "list":=let ⟨o,ho,hc,_⟩:=pG;⟨o,ho,hc⟩;refine⟨⟨_,hS,rfl⟩,codeAny_call_builtin PySem.F.called_set.init.plain PySem.F.entry_set_init (check_set_init_1 ⟨_,hS,rfl⟩ ?_)⟩;generalize hG:s.heap.push (eJ w)=G at hS pG vW k1 hTl;have x0:de (w.params.followText "set-order") G s.heap.objs.size #[] 0 (.fresh 0 0 (!w.params.followText "set-order")):=⟨⟨_,hS,⟨rfl,rfl,rfl⟩,rfl⟩,rfl,rfl,oj⟩;unfold Builtin.«set.__init__» noKeywords;refine aak (abF (fun _=>aao ?_) fun z=>absurd rfl z);have hTS:Shared.TypeIs { s with heap:=G } (.ref s.heap.objs.size) "set":=⟨_,hS,rfl⟩;generalize hUF:Builtin.Frozenset.updateFrom=UF
 wp_walk
 subst hUF;unfold Builtin.Frozenset.updateFrom Builtin.Frozenset.isAnySet;have n1:=PySem.F.sub_list_set;have n2:=PySem.F.sub_list_frozenset;generalize hPI:pyIter=PI
 wp_walk
 subst hPI;refine abL pG (aak (wpAny_runValue ?_));have hI:G.objs.size=s.heap.objs.size+1:=vW;dsimp only;rw[hI];have k2:∀ b o,s.heap.get? b=some o->(G.push { cls:=.type "list_iterator",data:=.fields #[.ref l,.int 0 0] }).get? b=some o:=fun b o e=>aam _ (k1 b o e);refine Bj (Walks.list (by simp[hh]) (s.heap.objs.size+1) l (aa1 (adF gh)) items) F (by show _<=u;simp only[Around.in1];omega) (fun z=>?_) items.size _ (aar _) ?_ ?_ fun h' tk k3 hJ=>?_
 ·rcases aat.mp z with e | e
  ·exact absurd e (aa1 (abI _))
  ·rw[aaq]at e;exact absurd e (ab0 gh)
 ·rw[ac4];exact⟨⟨_,by rw[<- hI];exact aaz _ rfl,rfl,rfl⟩,pG.push _⟩
 ·rw[ac4];exact h0 _ k2 (aam _ hS)
 ·refine aao (aao ⟨rfl,h h' tk (fun b o e=>k3 b o (aa1 (aay e)) (aa1 (adF (aay e))) (k2 b o e)) hJ⟩)
def RU(prog:sB)(w:World)(S:Addr)(ns:wn)(i:Nat)(h:Heap):Prop:=∃ iT,xD prog w h S iT/\(∀ k,k∈iT↔k∈ns.take i)/\iT.length<=i
theorem Bk{S:Addr}{items:Array Value}{u:Nat}(mB:S≠I)(hi:IntsAre items.toList ns)(hb:ns.length+1 < scanBound) :
  NH prog w u S I items.size (fun i v=>items[i]?=some v) (RU prog w S ns) where
 keep:=fun i h h' ⟨iT,x,r⟩ k=>⟨iT,x.keep fun o e=>k S o mB e,r⟩
 add:=fun A s i v _ gh hv zz Q E hQ=>by
  obtain⟨iT,x,hm,hl⟩:=zz
  have B7:items.size=ns.length:=by have:=IntsAre.length hi;simpa using this
  obtain⟨t,rfl⟩:=IntsAre.int_at hi i v (by rw[abO];exact hv);unfold setAdd;refine abj (aak ((intKind prog w).pyHash (k:=ns.getD i 0) (ad2 _ _ _ _) ?_));refine add_int (s:={ s with toks:=s.toks+1 }) x (by omega) fun h' ns2 b sb x2 Iu pY=>hQ h' (s.toks+1) b sb (abM _) ⟨ns2,x2,fun k=>?_,by omega⟩;have Yz:i < ns.length:=by omega
  have e:ns.getD i 0=ns[i]:=by rw[aau,aas Yz];rfl
  have et:ns.take (i+1)=ns.take i++[ns[i]]:=by rw[aaT,aas Yz];rfl
  rw[Iu,hm,e,et,aav,aaq]
def vd(K:zn):V->Hp->VK->Prop:=fun x H Q=>∃(p:Addr) (ns:wn),x=.ref p/\eE K H p (ns.map V.int)/\ns.length < 64 /\
 ∀(l:Addr) (iT:wn),H l=none->iT.Pairwise (· < ·)->(∀ k,k∈iT↔k∈ns)->Q (.ref l) (upd H l (.lst (iT.map V.int)))
theorem zB:∀{vs:wf} {ns:wn},IntsAre vs ns->ns=vs.map numOf
 | _,_,.nil=>rfl
 | _,_,.cons n t r=>by rw[aaZ,<- zB r];rfl
section
variable {X:Cx}{pins:yp}{σ:St}{H:Hp}
theorem Inv.drew{t':Nat}{d:Drawn}(I:Inv X pins σ H { s with heap:=h',toks:=t' }):Inv X pins σ H { s with heap:=h',toks:=t',drawn:=d } :=
 ⟨I.ok,I.os,I.bare,I.base,I.loc,I.cell,I.free,I.gD,I.pin,I.ck,I.len⟩
theorem Bl{YA:wn}{Q:VK}(hc:X.calm=true)(I:Inv X pins σ H s)(x:xD X.prog X.w s.heap a ns)(hm:∀ k,k∈ns↔k∈YA)(OY:ns.length < 64)(q:∀(l:Addr) (iT:wn),H l=none->iT.Pairwise (· < ·)->(∀ k,k∈iT↔k∈YA)->Q (.ref l) (upd H l (.lst (iT.map V.int)))) :
  wpAny (model X.prog X.w) X.A (call (.builtin "sorted") [.ref a]) (EP X pins σ Q) E s:=by
 obtain⟨es,ep,t,so,hb,NG,Kw,TK⟩:=x;have hz:es.size<=sizeLine:=fits_of_scanBound hb;have B7:ns.length=es.size:=by have:=Kw.length_eq;simpa using this.symm
 have pE:∀ vs:List Value,vs.Perm (es.toList.map (·.2))->∀ v∈vs,∃ n t,v=Value.int n t:=fun vs hv v hvm=>by
  obtain⟨e,he,rfl⟩:=abc.mp (hv.mem_iff.mp hvm);obtain⟨n,t,e1,_⟩:=NG e he;exact⟨n,t,e1⟩
 refine oh (Rc:=fun vs=>vs.Perm (es.toList.map (·.2))) (fun A R E hh hR=>uT hh so hz fun h' tk d vs k p=>hR h' tk d vs k p) (I.ok.hd hc) (fun vs hv=>?_) (fun vs hv=>⟨_,intsAre_map vs (pE vs hv)⟩) fun h1 h' tk d vs out ns1 iT c k1 k2 rc hi1 e hi pm pw=>?_
 ·rw[hv.length_eq,aal,aaO];omega
 ·have e1:ns1=vs.map numOf:=zB hi1;have p2:iT.Perm ns:=by
   have h3:=rc.map numOf;rw[ach]at h3;rw[e1]at pm;exact pm.trans (h3.trans Kw)
  have I1:Inv X pins σ H { s with heap:=h1,toks:=tk }:=I.kept k1;have hv:=nY hi;have hl:=p2.length_eq;have I2:=I1.laid (t':=tk) (a:=h1.objs.size) (o:=.lst (iT.map V.int)) k2 (aar _) (show cK X.prog X.w _ h' _ (.lst _) from ⟨by rw[aal];omega,out,c,hv,e⟩);refine⟨.ref h1.objs.size,_,I2.drew,rfl,q _ _ (I1.ck.fresh (aar _)) ?_ fun k=>by rw[p2.mem_iff,hm]⟩;have nd:iT.Nodup:=p2.nodup_iff.mpr TK;exact(pw.and nd).imp fun⟨a,b⟩=>by omega
variable {e:Expr}{te:TE}{p p2 pos VX:Pos}
theorem Bm(hc:X.calm=true)(B6:X.mg "sorted"=none)(Iu:X.mg "set"=none)(he:SE X e te)(hs:autoParam (noStar e=true) ra0)(hg1:autoParam (Gl X "sorted") ra0)(hg2:autoParam (Gl X "set") ra0) :
  SE X (.Call (.Name "sorted" p) [.Call (.Name "set" p2) [e] [] VX] [] pos) (S5 (vd X.K) te):=⟨by
 intro pins s σ H Q I h
 refine ab1 (jr I hg1 B6 adJ ?_)
 refine ac2 (adw ?_) rfl rfl
 refine ab1 (jr I hg2 Iu PyProof.Rows.boot_set ?_)
 refine abX ?_ (cI [] X.env hs) rfl
 rw[cI [] X.env hs]
 refine adw (cP (he.run pins s σ H _ I h) fun u s1 ⟨x,H1,I1,r1,q1⟩=>?_)
 obtain⟨p,ns,rfl,hq,hb,q⟩:=q1
 cases r1
 obtain⟨aQ,rv,pl,hz⟩:=I1.list hq
 refine adE ?_
 have hi:=intsAre_of rv
 have hlen:aQ.length=ns.length:=by have:=rv.length;simp at this;omega
 refine vc (items:=aQ.toArray) (aar _) (I1.ok.hd hc) pl.isList (Bk (aa1 (abI _)) (by simpa using hi) (aaL (Nat.succ_lt_succ hb) (by decide))) (fun h' k e0=>⟨[],⟨#[],0,_,⟨⟨_,e0,⟨rfl,rfl,rfl⟩,rfl⟩,rfl,rfl,oj⟩,by decide,(fun e he=>by simp at he),ac0 _,List.nodup_nil⟩,fun k=>by simp,aar _⟩) fun h' tk k2 ⟨iT,x,hm,hle⟩=>?_
 refine adE ?_
 refine Bl (s:={ s1 with heap:=h',toks:=tk }) hc (I1.kept k2) x (fun k=>?_) (by simp at hle;omega) q
 rw[hm,abp (by simp;omega)]⟩
end
def Ei:DV->Wd->DK->Prop:=fun a W Q=>∃ ns:List Int,c9 W a=some (ns.map fun i=>.im (.int i))/\ns.length < 64/\∀ iT:List Int,iT.Pairwise (· < ·)->(∀ k,k∈iT↔k∈ns)->iK (iT.map fun i=>.im (.int i)) W Q
instance {K:zn}[hk:lO C K]:Vb C (vd K) Ei:=by
 obtain⟨rfl⟩:=hk;exact⟨fun D h zz k=>by
  obtain⟨ns,e,hb,q⟩:=zz
  obtain⟨p,xs,rfl,hq,r⟩:=D.c9 h e;rw[uR.mp r]at hq;exact⟨p,ns,rfl,eE.of hq,hb,fun l iT hl h1 h2=>gv D (uR.mpr rfl) hl (q iT h1 h2) k⟩⟩
def Ej(K:zn):V->List V->Hp->VK->Prop:=fun x vs H Q=>∃(p:Addr) (ns:wn) (k:Int),x=.ref p/\vs=[.int k]/\eE K H p (ns.map V.int)/\Q (.int (ns.count k:Nat)) H
section
variable {X:Cx}
theorem ve:Te X "list.count" (Ej X.K):=by
 intro pins s σ H x vs v us Q I rx rv h;obtain⟨p,ns,k,rfl,rfl,hq,q⟩:=h;cases rx;obtain⟨u,rfl,t,rfl⟩:=vals1 rv;obtain⟨aQ,rv,⟨o,n,ho,hc,hd,hs⟩,hz⟩:=I.list hq;have hi:=intsAre_of rv;obtain⟨cls,dd,data,sl⟩:=o;simp only at hc hd hs;subst hc hd hs;refine call_meets F.slot_list_count ⟨_,ho,rfl⟩ F.entry_list_count (F.args_list_count_2 _ _) (PySem.SeqAt.list_countAt p aQ.toArray n none sl (.int k t) (fun y=>numOf y == k)) ⟨ho,fun y hy=>?_,?_⟩
 ·obtain⟨m,t',rfl⟩:=hi.all y (by simpa using hy);exact PySem.SeqAt.EqAt.int_int m t' k t
 ·refine⟨.int (ns.count k:Nat),H,I.tok _,⟨s.toks,?_⟩,q⟩;rw[<- hi.nums,List.count,List.countP_map]
  rfl
end
def NI:DV->List DV->Wd->DK->Prop:=fun a as W Q=>∃(ns:wn) (n:Int),as=[.im (.int n)]/\c9 W a=some (ns.map fun i=>.im (.int i))/\Q (.im (.int (ns.count n:Nat))) W
instance {K:zn}[hk:lO C K]:QC C (Ej K) NI:=by
 obtain⟨rfl⟩:=hk;exact⟨fun D h1 h2 zz k=>by
  obtain⟨ns,n,e,e1,q⟩:=zz
  subst e;obtain⟨y,rfl,hy⟩:=h2.cY;obtain⟨p,xs,rfl,hq,r⟩:=D.c9 h1 e1;rw[uR.mp r]at hq;exact⟨p,ns,n,rfl,by rw[show y=V.int n from hy],eE.of hq,k.now (dv:=.im (.int _)) D rfl q⟩⟩
theorem anyI(z:Int):∀ xs:List Int,((xs.map PyData.int).any fun d=>PyData.eqv d (.int z))=decide (z∈xs)
 | []=>by simp
 | x::xs=>by
  rw[aaZ,acj,anyI z xs,show PyData.eqv (.int x) (.int z)=(x == z) from rfl]
  by_cases e:x=z
  ·simp[e]
  ·have:¬ z=x:=fun q=>e q.symm;simp[e,this]
theorem anyS(z:Str):∀ xs:List Str,((xs.map PyData.str).any fun d=>PyData.eqv d (.str z))=decide (z∈xs)
 | []=>by simp
 | x::xs=>by
  rw[aaZ,acj,anyS z xs,show PyData.eqv (.str x) (.str z)=(x == z) from rfl]
  by_cases e:x=z
  ·simp[e]
  ·have:¬ z=x:=fun q=>e q.symm;simp[e,this]
section
variable {W:Wd}{Q:DK}{neg:Bool}{b:DV}{p:Addr}{ds:wE}
theorem RV(e:W p=some (.lst (ds.map .im))):gA W (.pt p)=some ds:=by
 have e1:c9 W (.pt p)=some (ds.map .im):=by unfold c9;dsimp only;rw[e]
 unfold gA gM;rw[e1];exact jN (fun _=>by rfl) ds
theorem om{z:Int}{xs:wn}(e:gA W b=some (xs.map .int))(h:Q (.im (.bool (if neg then !decide (z∈xs)else decide (z∈xs)))) W):DE neg (.im (.int z)) b W Q :=
 ⟨_,_,rfl,e,.inl ⟨rfl,by rw[abz];intro d hd;obtain⟨x,_,rfl⟩:=abc.mp hd;rfl⟩,by rw[anyI];exact h⟩
theorem j6{z:Str}{xs:wv}(e:gA W b=some (xs.map .str))(h:Q (.im (.bool (if neg then !decide (z∈xs)else decide (z∈xs)))) W):DE neg (.im (.str z)) b W Q :=
 ⟨_,_,rfl,e,.inl ⟨rfl,by rw[abz];intro d hd;obtain⟨x,_,rfl⟩:=abc.mp hd;rfl⟩,by rw[anyS];exact h⟩
end
end L2
namespace L2
open PySem PySem.Spec PyProof.Rows PySem.StrLaws PySem.Builtin.Str
end L2
namespace L2
open PySem PySem.Spec PyProof.Rows
end L2
namespace L2
open PySem PySem.Spec PyProof.Rows
variable {C:DC}
def vf:V->List V->Hp->VK->Prop:=fun x vs H Q=>∃ l xs y,∃ k:Nat,x=.ref l/\vs=[.int (k:Int),y]/\k<=xs.length/\H l=some (.lst xs)/\xs.length < sizeLine/\Q .cS (upd H l (.lst (xs.take k++y::xs.drop k)))
theorem Ek{k:Nat}(h:k < 2 ^ 62):¬ (!Builtin.List.listFitsIndex (k:Int))=true:=by
 unfold Builtin.List.listFitsIndex;simp;omega
theorem oq:∀{xs:List V} {us:wf} {y:V} {u:Value} (k:Nat),Vals xs us->RelV y u->Vals (xs.take k++y::xs.drop k) (us.take k++u::us.drop k)
 | _,_,_,_,0,h,r=>.cons r h
 | _,_,_,_,k+1,.nil,r=>.cons r .nil
 | _,_,_,_,k+1,.cons a t,r=>.cons a (oq k t r)
theorem xE{X:Cx}:Te X "list.insert" vf:=by
 intro pins s σ H x vs v us Q I rx rv h;obtain⟨l,xs,y,k,rfl,rfl,hk,hH,hz,q⟩:=h;cases rx;obtain⟨u0,u,rfl,⟨t,rfl⟩,ru⟩:=rv.two;obtain⟨z,aQ,n,r,hl,e⟩:=I.CT hH;have OX:k < 2 ^ 62:=acO hk (Nat.lt_trans hz (by decide));have hs:aQ.toArray.size<=sizeLine:=by rw[aaE,<- hl];exact z
 have hc:¬ (!Builtin.List.listFitsIndex ((k:Nat):Int))=true:=Ek OX;generalize ek:((k:Nat):Int)=kI at hc q ⊢;have m:=PySem.AutoListH.list_insert_list_int_val_1 l aQ.toArray n kI t u hc hs;refine call_meets F.slot_list_insert ⟨_,e,rfl⟩ F.entry_list_insert (F.args_list_insert_3 _ _ _) m ⟨e,?_⟩;refine⟨.cS,_,I.L8 (its':=aQ.take k++u::aQ.drop k) hH e ?_ (oq k r ru) ?_,rfl,q⟩
 ·have h0:¬ (kI < 0):=by omega
  have h1:min kI.toNat aQ.length=k:=by omega
  simp[h0,h1,List.extract_eq_drop_take];exact abp (by simp)
 ·simp;omega
def El:DV->List DV->Wd->DK->Prop:=fun a as W Q=>∃ p vs v,∃ k:Nat,a=.pt p/\as=[.im (.int (k:Int)),v]/\k<=vs.length/\W p=some (.lst vs)/\vs.length < sizeLine/\Q (.im .none) (aH W p (.lst (vs.take k++v::vs.drop k)))
theorem aD.Ky{F:Hp}:∀{vs:List DV} {xs:List V} {v:DV} {y:V} (k:Nat),aD C F vs xs->dX C F v y->aD C F (vs.take k++v::vs.drop k) (xs.take k++y::xs.drop k)
 | [],xs,v,y,k,h,hy=>by
  have h:xs=[]:=h;subst h;cases k<;>exact⟨y,[],rfl,hy,rfl⟩
 | a::r,xs,v,y,0,h,hy=>⟨y,xs,rfl,hy,h⟩
 | a::r,xs,v,y,k+1,⟨z,zs,e,hz,hr⟩,hy=>by subst e;exact⟨z,_,rfl,hz,aD.Ky k hr hy⟩
instance:QC C vf El:=⟨fun D h1 h2 zz k=>by
 obtain⟨p,vs,v,k',e1,e2,hk,e3,hl,q⟩:=zz
 subst e1 e2;cases h1;obtain⟨z,y,rfl,hz,hy⟩:=h2.jP;cases hz;obtain⟨_,_,xs,h3,r⟩:=D.ce p _ e3;exact⟨p,xs,y,k',rfl,rfl,by rw[<- r.length];exact hk,h3,by rw[<- r.length];exact hl,k.to (dv:=.im .none) (D.wr e3 (aD.Ky k' r hy)) rfl q⟩⟩
abbrev xF(K:zn)(Rs:Hp->Addr->Addr->Nat->Prop)(H:Hp)(W:Wd)(O:Addr->Prop)(E:XK):DC:=⟨K,Rs,H,fun a=>(W a).isSome=true,O,E,fun _=>False⟩
abbrev NJ:=List DV->Wd->(DV->Wd->Prop)->Prop
def OZ(K:zn)(Rs:Hp->Addr->Addr->Nat->Prop)(S:NJ):Sp:=fun vs H Q E=>∃(O:Addr->Prop) (aK:List DV) (W:Wd) (R:DV->Wd->Prop),
 (∀ a,O a->H a≠none)/\(∀ p c,W p=some c->¬ O p/\H p≠none/\bP (xF K Rs H W O E) W H p c)/\aD (xF K Rs H W O E) (Fz (xF K Rs H W O E) W H) aK vs/\S aK W R /\
 (∀ v dv H' W',R dv W'->(∀ a o,H a=some o->W a=none->H' a=some o)->(∀ a,H a≠none->H' a≠none)->(∀ p c,W' p=some c->(H p=none\/(W p).isSome=true)/\¬ O p/\bP (xF K Rs H W O E) W' H' p c)->dX (xF K Rs H W O E) (Fz (xF K Rs H W O E) W' H') dv v->Q v H')
section
variable {P:sB}{w:World}{K:zn}{mg:xL}{base:Heap}{x qual:Str}{st:Stmt}{f:Addr}{fd:wT}{N ps:wv}{k:Nat}{Sd:NJ}{Rs:Hp->Addr->Addr->Nat->Prop}
theorem Em{vs:List V}{H:Hp}{Q:VK}{E:XK}{t:TS}(ok:xq Rs)(h:OZ K Rs Sd vs H Q E)(hb:∀ O W,∃ d,LS (xF K Rs H W O E) t d/\∀ aK R,Sd aK W R->d (Ie R) (cf N aK) W):t { nx:=fun _ H'=>Q .cS H',rt:=Q } (start N vs) H:=by
 obtain⟨O,aK,W,R,hO,hc,hv,hS,hR⟩:=h;obtain⟨d,hd,hb⟩:=hb O W;have D:DR (xF K Rs H W O E) (start N vs) H (cf N aK) W:=by
  refine⟨⟨ok.rs,ok.rn,fun c VN=>VN.elim⟩,fun a o e _=>e,hO,fun a ha=>?_,?_,fun p c e=>⟨.inr (by show(W p).isSome=true;rw[e];rfl),(hc p c e).1,(hc p c e).2.2⟩⟩
  ·cases q:W a with
   | none=>have pI:(W a).isSome=true:=ha;rw[q]at pI;cases pI
   | some c=>exact(hc a c q).2.1
  ·unfold start cf;rw[hv.length];exact Slots.start _ hv
 have fr:∀ bB H' bZ W',DR (xF K Rs H W O E) bB H' bZ W'->(∀ a o,H a=some o->W a=none->H' a=some o)/\(∀ a,H a≠none->H' a≠none)/\∀ p c,W' p=some c->(H p=none\/(W p).isSome=true)/\¬ O p/\bP (xF K Rs H W O E) W' H' p c:=fun bB H' bZ W' D' =>
  ⟨fun a o e e2=>D'.fr a o e (by show ¬ (W a).isSome=true;rw[e2];exact fun z=>nomatch z),fun a ha=>by
   cases q:W a with
   | none=>cases q2:H a with
    | none=>exact absurd q2 ha
    | some o=>rw[D'.fr a o q2 (by show ¬ (W a).isSome=true;rw[q];exact fun z=>nomatch z)];exact fun z=>nomatch z
   | some c=>exact D'.th a (by show(W a).isSome=true;rw[q];rfl),fun p c e=>D'.ce p c e⟩
 refine hd.go D (hb aK R hS) ⟨fun bB H' bZ W' D' s q=>?_,fun bB H' bZ W' D' s q=>q.elim,fun bB H' bZ W' D' s q=>q.elim,fun x dv bB H' bZ W' D' s v q=>?_⟩
 ·obtain⟨f1,f2,f3⟩:=fr bB H' bZ W' D';exact hR .cS (.im .none) H' W' q f1 f2 f3 rfl
 ·obtain⟨f1,f2,f3⟩:=fr bB H' bZ W' D';exact hR x dv H' W' q f1 f2 f3 v
theorem cL.okV(F:cL K x qual st f fd)(S:av N ps (defScope st))(ok:xq Rs)(hlen:∀ aK W R,Sd aK W R->aK.length=ps.length)(c7:∀(bC:Value) (A:sK) (outer:List Env) (s:Shared) (H:Hp) (E:XK),cT k (A.deeper (envOfC qual (defScope st) s.heap.objs.size f bC)) ->
   ∃ t,tR (eW cU P w K mg base N qual (defScope st) f bC A outer s H E).Ap (defBody st) t/\∀ O W,∃ d,LS (xF K Rs H W O E) t d/\∀ aK R,Sd aK W R->d (Ie R) (cf N aK) W):ba P w K mg base cU (k+1) f fd ps (OZ K Rs Sd) :=
 F.Mn S (fun vs H Q E zz=>by obtain⟨O,aK,W,R,_,_,hv,hS,_⟩:=zz; rw[<- hv.length];exact hlen aK W R hS) fun bC A outer s H vs Q E hr h=>by
  obtain⟨t,h1,h2⟩:=c7 bC A outer s H E hr;exact⟨t,h1,Em ok h h2⟩
end
def dV(S:NJ):List DV->Wd->DK->Prop:=fun as W Q=>S as W Q
section
variable {σ:St}{H H':Hp}{ρ:bS}{W W':Wd}{Qd:DK}{Q:VK}
theorem bP.Kz{C':DC}(hK:C'.K=C.K)(hR:C'.Rs=C.Rs)(hO:C'.O=C.O){p:Addr}:∀{c:Cell},bP C W H p c->bP C' W H p c:=by
 have e:Fz C' W H=Fz C W H:=by unfold Fz;rw[hO]
 intro c h;cases c with
 | lst aK=>obtain⟨xs,e1,r⟩:=h;exact⟨xs,e1,by rw[e];exact r.conv hK⟩
 | aE g n=>exact⟨by rw[hR];exact h.1,h.2⟩
 | part=>exact h
 | dk bO=>obtain⟨ks,e1,k,r⟩:=h;exact⟨ks,e1,k,by rw[e];exact r.conv hK⟩
 | dt bO=>obtain⟨ks,e1,k,r⟩:=h;exact⟨ks,e1,k,by rw[e];exact r.conv hK⟩
 | ob _ _ bO=>obtain⟨ks,e1,k,r⟩:=h;exact⟨ks,e1,k,by rw[e];exact r.conv hK⟩
theorem En{K:zn}{Rs:Hp->Addr->Addr->Nat->Prop}{S:NJ}{E:XK}(hK:C.K=K)(hR:C.Rs=Rs){as:List DV}{xs:List V}(R:DR C σ H ρ W)(h:aD C (Fz C W H) as xs)(hd:dV S as W Qd)(k:KE C σ ρ W H Qd Q):OZ K Rs S xs H Q E:=by
 subst hK hR;refine⟨C.O,as,W,Qd,R.ho,fun p c e=>?_,aD.conv (C:=C) (C':=xF C.K C.Rs H W C.O E) (F:=Fz C W H) rfl h,hd,fun v dv H' W' q f1 f2 f3 hv=>?_⟩
 ·obtain⟨_,g2,g3⟩:=R.ce p c e;exact⟨g2,R.there e,bP.Kz (C:=C) (C':=xF C.K C.Rs H W C.O E) rfl rfl rfl g3⟩
 ·obtain⟨R',s'⟩:=R.step (W':=W') (H':=H') (fun a z=>by
    cases q:W' a with
    | none=>rw[q]at z;cases z
    | some c=>exact(f3 a c q).1.symm) f1 f2 fun s p c e=>by
   obtain⟨e1,e2,e3⟩:=f3 p c e;refine⟨?_,e2,bP.Kz (C:=xF C.K C.Rs H W C.O E) (C':=C) rfl rfl rfl e3⟩;rcases e1 with e1 | e1
   ·exact .inl (R.J6 e1)
   ·cases q2:W p with
    | none=>rw[q2]at e1;cases e1
    | some c'=>exact(R.ce p c' q2).1
  exact k v dv H' _ R' s' (dX.conv (C:=xF C.K C.Rs H W C.O E) (C':=C) (F:=Fz C W' H') rfl hv) q
instance {K:zn}[hk:lO C K]{Rs:Hp->Addr->Addr->Nat->Prop}[hs:HE C Rs]{S:NJ}{E:XK}:HP C (OZ K Rs S) E (dV S):=by
 obtain⟨hR⟩:=hs;exact⟨fun R h hd k=>En hk.eq hR R h hd k⟩
end
theorem Iy{S:NJ}{as:List DV}{W:Wd}{Q:DK}(h:S as W Q):dV S as W Q:=h
theorem NK{W:Wd}{L:Ws}{K:zn}{k p d:Addr}{fs:List (Str×DV)}{ns:wv}{f:Str}{v:DV}{B:Addr->Addr->DV->Prop}(h:At W L)(c:fe K k ns)(i:Nat)(e:L[i]?=some (p,.ob k d fs))(n:f∈ns)(l:fs.lookup f=some v)(hq:B p k v):∃ p' k d fs v,DV.pt p=.pt p'/\W p'=some (.ob k d fs)/\lX K k/\cu K k f/\fs.lookup f=some v/\B p' k v:=⟨p,k,d,fs,v,rfl,h.get i e,c.c,c.n f n,l,hq⟩
def KC(K:zn):List V->Hp->VK->Prop:=fun xs H Q=>∃(p:Addr) (ns:wn),xs=[.ref p]/\eE K H p (ns.map V.int)/\0 < ns.length/\∀ m,m∈ns->(∀ a∈ns,a<=m)->Q (.int m) H
theorem Bn{X:Cx}(hc:X.calm=true):dG X (.builtin "max") (KC X.K):=by
 intro pins s σ H xs us Q I r h;obtain⟨p,ns,rfl,hq,mB,q⟩:=h;obtain⟨u,rfl,ru⟩:=vals1 r;cases ru;obtain⟨aQ,rv,pl,hz⟩:=I.list hq;have hi:=intsAre_of rv;have hl:=pl.isList;obtain⟨xs,e⟩:=hi.allInts.items;have OQ:ns=xs.toList.map (·.1):=by rw[<- hi.numsOf,<- nums_intItems,<- e]
 have vW:0 < xs.size:=by
  have h3:=mB;rw[OQ,aal,aaO]at h3;exact h3
 rw[e]at hl;refine max_intList (I.ok.hd hc) hl vW fun v h' tk hv hk=>?_;obtain⟨t,rfl⟩:=intItems_at hv;obtain⟨h1,h2⟩:=argBest_gt (numAt xs) (xs.size - 1);refine⟨.int _,H,I.kept (t':=tk) fun b o e=>hk b o e,⟨t,rfl⟩,q _ ?_ fun a ha=>?_⟩
 ·rw[OQ,numAt_eq];exact getD_mem (by rw[aal,aaO];omega)
 ·rw[OQ]at ha;obtain⟨j,hj,rfl⟩:=mem_getD ha;rw[aal,aaO]at hj;rw[<- numAt_eq];exact h2 j (by omega)
def RW:List DV->Wd->DK->Prop:=fun as W Q=>∃(a:DV) (ns:wn),as=[a]/\c9 W a=some (ns.map fun i=>.im (.int i))/\0 < ns.length/\∀ m,m∈ns->(∀ a∈ns,a<=m)->Q (.im (.int m)) W
instance {K:zn}[hk:lO C K]:Dv C (KC K) RW:=by
 obtain⟨rfl⟩:=hk;exact⟨fun D h zz k=>by
  obtain⟨a,ns,e,e1,hn,q⟩:=zz
  subst e;obtain⟨x,rfl,hx⟩:=h.cY;obtain⟨p,xs,rfl,hq,r⟩:=D.c9 hx e1;have e2:=aD.nQ (ds:=ns.map .int) (by rw[ach];exact r);have:xs=ns.map V.int:=by
   clear e1 q hn hq r;induction ns generalizing xs with
   | nil=>exact e2
   | cons n ns ih =>
    obtain⟨y,ys,e,hy,hr⟩:=e2;rw[e,ih ys hr,show y=V.int n from hy];rfl
  rw[this]at hq;exact⟨p,ns,rfl,eE.of hq,hn,fun m h1 h2=>k.now (dv:=.im (.int m)) D rfl (q m h1 h2)⟩⟩
end L2
namespace Srt
open PySem PyProof.Rows
section
variable {M:Model}{A:sK}{E:xz}{s:Shared}{κ:KeyOrd}{ky:Keyed->κ.α}{kd:SortKind}{S:Keyed->Prop}{a₀:Array Keyed}
def One(κ:KeyOrd)(ky:Keyed->κ.α)(kd:SortKind)(a₀:Array Keyed)(z:SortSt):Prop:=SB a₀ kd z/\(pendingOf z).size<=1/\Up ky (arrOf z) 0 a₀.size
theorem One.of{z:SortSt}{x:Nat×Nat×Nat}(h:SB a₀ kd z)(hp:pendingOf z=#[])(hu:Up ky (arrOf z) 0 a₀.size):One κ ky kd a₀ (setPending z ((pendingOf z).push x)) :=
 ⟨⟨h.perm,h.kind,h.failed⟩,by show((pendingOf z).push x).size<=1;rw[hp];exact aar 1,hu⟩
theorem xG(hL:se M A E s κ ky kd S)(hS:∀ p∈a₀.toList,S p){st:SortSt}(hB:SB a₀ kd st)(hp:pendingOf st=#[])(h2:2<=a₀.size)(OY:a₀.size < 64){Q:Unit->SortSt->Prop}(h:∀ z,SB a₀ kd z->Up ky (arrOf z) 0 a₀.size->Q () z):wpS M A E s sortRuns' Q st:=by
 rw[sortRuns'_eq];refine abk (wpS_get ?_);dsimp only;have hmr:minRun' a₀.size a₀.size 0=a₀.size:=by
  obtain⟨f,hf⟩:∃ f,a₀.size=f+1:=⟨a₀.size - 1,by omega⟩;have:minRun' (f+1) a₀.size 0=a₀.size:=by rw[minRun'_succ,aaN OY];rfl
  rwa [<- hf]at this
 simp only[hB.size,hmr];refine abk (wpS_mono (ac3 (I:=fun x c z=>(x=0/\c=(none,0)/\SB a₀ kd z/\pendingOf z=#[])\/(1<=x/\c=(none,a₀.size)/\One κ ky kd a₀ z)) (Q:=fun c z=>c=(none,a₀.size)/\One κ ky kd a₀ z) ?step ?fin (.inl ⟨rfl,rfl,hB,hp⟩)) ?post)
 case fin =>
  rintro c z (⟨hx,_,_⟩ | ⟨_,hc,hD⟩)
  ·omega
  ·exact⟨hc,hD⟩
 case step =>
  rintro x c z _ hx (⟨rfl,rfl,O0,rX⟩ | ⟨hx1,rfl,hD⟩)
  ·dsimp only
   rw[aaD (by omega)]
   simp only[Nat.sub_zero,Nat.min_self,adz]
   have hz:=O0.size
   refine abk (Ir hL (O0.all hS) O0.kind (by omega) (by omega) fun n y hK n1 n2 hu=>?_)
   dsimp only
   rw[adz]at hu
   have By:SB a₀ kd y:=⟨hK.perm.trans O0.perm,hK.kind.trans O0.kind,hK.failed.trans O0.failed⟩
   have py:pendingOf y=#[]:=hK.pend.trans rX
   by_cases gh:n < a₀.size
   ·rw[aaN gh]
    refine abk (wpS_lift (acy ⟨rfl,?_⟩))
    have hy:=By.size
    refine abk (Ed hL (By.all hS) By.kind (by omega) n1 (by omega) (by rw[adz];exact hu) fun y' TN OW=>?_)
    simp only[Bool.not_true,ab4,ady]
    rw[adz]at OW
    have By':SB a₀ kd y':=⟨TN.perm.trans By.perm,TN.kind.trans By.kind,TN.failed.trans By.failed⟩
    have YB:pendingOf y'=#[]:=TN.pend.trans py
    refine abk (wpS_get ?_)
    rw[show(pendingOf y').back?=none by rw[YB];rfl]
    dsimp only
    exact abk (adn (abS (.inr ⟨by omega,rfl,One.of By' YB OW⟩)))
   ·rw[aaD gh]
    have hm:n=a₀.size:=by omega
    subst hm
    refine abk (wpS_get ?_)
    rw[show(pendingOf y).back?=none by rw[py];rfl]
    dsimp only
    exact abk (adn (abS (.inr ⟨by omega,rfl,One.of By py hu⟩)))
  ·dsimp only
   rw[aaN (aar _)]
   exact abS ⟨rfl,hD⟩
 case post =>
  rintro c z ⟨rfl,hD⟩
  dsimp only
  refine abk (wpS_mono (ac3 (I:=fun _ c y=>y=z/\c=(none,())) (Q:=fun c y=>y=z/\c=(none,())) ?_ (fun _ _ hh=>hh) ⟨rfl,rfl⟩) ?_)
  ·rintro x c y _ _ ⟨rfl,rfl⟩
   refine abk (wpS_get ?_)
   rw[aaN hD.2.1]
   exact abS ⟨rfl,rfl⟩
  ·rintro c y ⟨rfl,rfl⟩
   exact abS (h _ hD.1 hD.2.2)
theorem Up.pairwise{arr:Array Keyed}(h:Up ky arr 0 arr.size):arr.toList.Pairwise (fun x y=>κ.kle (ky x) (ky y)):=by
 rw[abo];intro i j hi hj hij;rw[aaO]at hi hj;have:=h i j (aaW _) (aaJ hij) hj;unfold Kx at this;rw[abg hi,abg hj]at this;rw[abH,abH];exact this
end
end Srt
namespace L2
open PySem PySem.Spec PyProof.Rows PySem.W
variable {w:World}{x:Int×Int×Int}{h:Heap}
section
variable {prog:sB}{A:sK}{E:xz}{s:Shared}{κ:KeyOrd}{kv:Value->κ.α}{kd:SortKind}{S:Value->Prop}
def qx(prog:sB)(w:World)(A:sK)(h:Heap)(κ:KeyOrd)(kv:Value->κ.α)(kd:SortKind)(S:Value->Prop):Prop :=
 ∀(s:Shared),s.heap=h->∀ x y,S x->S y->∀(Q:Bool->Shared->Prop) (E:xz),Q (κ.blt (kv x) (kv y)) s->wpAny (model prog w) A (keyLt' kd x y) Q E s
theorem qx.lt(hC:qx prog w A s.heap κ kv kd S):Srt.se (model prog w) A E s κ (fun p=>kv p.1) kd (fun p=>S p.1):=by
 intro x y st Q hx hy hk h;rw[lt'_eq];refine abk (wpS_get ?_);rw[hk];exact abk (wpS_lift (adk (hC s rfl _ _ hx hy _ _ ⟨rfl,abS h⟩)))
theorem Eo{vs:wf}{xs:Array Keyed}(h:xs.Perm (pairsOf vs)):(xs.map (·.2)).toList.Perm vs/\∀ p∈xs.toList,p.1=p.2/\p.1∈vs:=by
 have h1:=acA.mp h;rw[pairsOf_toList]at h1;refine⟨?_,fun p hp=>mem_zip_self (h1.mem_iff.mp hp)⟩;have h2:=h1.map Prod.snd;rw[show(vs.zip vs).map Prod.snd=vs from adT (by simp)]at h2;simpa using h2
theorem Bo{a:Addr}{vs:wf}{n:Nat}{P:PySem.Fin->Shared->Prop}(ho:s.heap.get? a=some (seqObj "list" vs.toArray n))(g2:2<=vs.length)(YC:vs.length < 64)(hS:∀ v∈vs,S v)(hK:2<=vs.length->∀ s':Shared,(∀ b o,b≠a->s.heap.get? b=some o->s'.heap.get? b=some o)->∀(Q:SortKind->Shared->Prop),Q kd s'->wpAny (model prog w) A (keyKind' vs.toArray) Q E s')(hC:∀ h':Heap,(∀ b o,b≠a->s.heap.get? b=some o->h'.get? b=some o)->qx prog w A h' κ kv kd S)(h:∀(h':Heap) (out:wf) (c:Nat),(∀ b o,b≠a->s.heap.get? b=some o->h'.get? b=some o)->h'.get? a=some (seqObj "list" out.toArray c)->out.Perm vs->out.Pairwise (fun x y=>κ.kle (kv x) (kv y))->P (.done (.ret .none)) { s with heap:=h' }) :
  wpAny (model prog w) A (Builtin.«list.sort» ⟨[.ref a],[]⟩) P E s:=by
 have hz:vs.length<=sizeLine:=aaA (aaJ YC) (by decide);rw[list_sort_plain];have ha:a < s.heap.objs.size:=aay ho;refine aak (listItems_at ho rfl (aak (listUpdate_at ho rfl ?_ (by simpa using hz) (by show(#[]:Array Value).size<=_;simp))));obtain⟨c1,Dm⟩:∃ c1,(s.heap.update a (Obj.mapSeq fun _=>#[])).get? a=some (seqObj "list" #[] c1):=⟨_,get?_update_seq ho (fun _=>#[])⟩;refine aak (seqEpoch_at Dm rfl (aak (wpAny_newTuple ?_ (by simpa using hz))));refine aak (wpAny_newList (abj ?_) (by simp));have GF:∀ b o,b≠a->s.heap.get? b=some o->(((s.heap.update a (Obj.mapSeq fun _=>#[])).push (seqObj "tuple" vs.toArray 0)).push (seqObj "list" #[] 0)).get? b=some o:=fun b o hb e =>
  aam _ (aam _ ((abw _ _ (abi hb)).trans e))
 have TQ:(((s.heap.update a (Obj.mapSeq fun _=>#[])).push (seqObj "tuple" vs.toArray 0)).push (seqObj "list" #[] 0)).get? a=some (seqObj "list" #[] c1):=aam _ (aam _ Dm);show wpAny (model prog w) A _ P E { s with heap:=((s.heap.update a (Obj.mapSeq fun _=>#[])).push (seqObj "tuple" vs.toArray 0)).push (seqObj "list" #[] 0) };generalize hG:((s.heap.update a (Obj.mapSeq fun _=>#[])).push (seqObj "tuple" vs.toArray 0)).push (seqObj "list" #[] 0)=G at GF TQ;dsimp only;have fin:∀ mS:SortSt,(arrOf mS).Perm (pairsOf vs)->Srt.Up (fun p=>kv p.1) (arrOf mS) 0 (pairsOf vs).size->P (.done (.ret .none)) { s with heap:=G.update a (Obj.mapSeq fun _=>(arrOf mS).map (·.2)) }:=by
  intro mS hp hs;obtain⟨h1,h2⟩:=Eo hp;rw[<- hp.size_eq]at hs;have h3:=hs.pairwise;refine h _ ((arrOf mS).map (·.2)).toList _ (fun b o hb e=>(abw _ _ (abi hb)).trans (GF b o hb e)) (by rw[adj];exact get?_update_seq TQ _) h1 ?_;rw[Array.toList_map,adH];exact h3.imp_of_mem fun{x y} hx hy q=>by rw[<- (h2 x hx).1,<- (h2 y hy).1];exact q
 have h2:¬ vs.toArray.size < 2:=by rw[aaE];omega
 rw[aaD h2,aaD h2];refine aak (hK (by simp at h2;omega) _ GF _ ?_);refine aak (abB (Srt.xG (κ:=κ) (ky:=fun p=>kv p.1) (kd:=kd) (S:=fun p=>S p.1) (a₀:=pairsOf vs) (st:=SortSt.mk' kd (vs.toArray.zip vs.toArray) #[] 7 none)
  (Q:=fun _ mS=>(arrOf mS).Perm (pairsOf vs)/\failedOf mS=none/\Srt.Up (fun p=>kv p.1) (arrOf mS) 0 (pairsOf vs).size)
  (qx.lt (s:={ s with heap:=G }) (hC G GF)) (fun p hp=>?_) ⟨Array.Perm.refl _,rfl,rfl⟩ rfl (by rw[pairsOf_size];exact g2) (by rw[pairsOf_size];exact YC) fun z hz hu=>⟨hz.perm,hz.failed,hu⟩) ?_ fun _ _ e=>e)
 ·rw[pairsOf_toList]at hp;exact hS _ (mem_zip_self hp).2
 ·rintro⟨⟨⟩,mS⟩ s' ⟨rfl,hp,hf,hs⟩;dsimp only;refine aak (seqEpoch_at TQ rfl (aak (listUpdate_at TQ rfl ?_ (by simp) (by refine aaA (acg ((Array.size_map ..).trans (hp.size_eq.trans (pairsOf_size _)))) ?_;omega))));rw[hf];simp only[bne_self_eq_false,ab4,ady];exact aao (fin mS hp hs)
theorem ot{r:Addr}{Rc:wf->Prop}{Q:xz}(NF:∀(A:sK) (R:wf->Shared->Prop) (E:xz),A.handled=none->(∀(h':Heap) (tk:Nat) (vs:wf),(∀ b o,s.heap.get? b=some o->h'.get? b=some o)->Rc vs->R vs { s with heap:=h',toks:=tk })->wpAny (model prog w) A (collect (.ref r)) R E s)(hh:A.handled=none)(hz:∀ vs,Rc vs->2<=vs.length/\vs.length < 64)(hS:∀ vs,Rc vs->∀ v∈vs,S v)(hK:∀ vs,Rc vs->2<=vs.length->∀(A:sK) (s':Shared),(∀ b o,s.heap.get? b=some o->s'.heap.get? b=some o)->∀(Q:SortKind->Shared->Prop) (E:xz),Q kd s'->wpAny (model prog w) A (keyKind' vs.toArray) Q E s')(hC:∀(A':sK) (h':Heap),A'.units<=A.units+4->(∀ b o,s.heap.get? b=some o->h'.get? b=some o)->qx prog w A' h' κ kv kd S)(h:∀(h1 h':Heap) (tk:Nat) (vs out:wf) (c:Nat),(∀ b o,s.heap.get? b=some o->h1.get? b=some o)->(∀ b o,h1.get? b=some o->h'.get? b=some o)->Rc vs->h'.get? h1.objs.size=some (seqObj "list" out.toArray c)->out.Perm vs->out.Pairwise (fun x y=>κ.kle (kv x) (kv y))->Q (.ref h1.objs.size) { s with heap:=h',toks:=tk }) :
  wpAny (model prog w) A (call (.builtin "sorted") [.ref r]) Q E s:=by
 refine Calls.call_function_entry kind_sorted plain_sorted entry_sorted (args_sorted1 _) ?_;unfold Builtin.«sorted»;refine aak (m:=checkCount "sorted" 1 1 _) (aao (aak (NF _ _ _ hh fun h1 tk vs k1 rc=>aak (wpAny_newList ?_ (aaA (aaJ (hz vs rc).2) (by decide))))));have TR:∀ b o,h1.get? b=some o->b≠h1.objs.size:=fun b o e z=>absurd (aay e) (by rw[z];exact aa6 _);have mB:∀ b o,s.heap.get? b=some o->b≠h1.objs.size:=fun b o e=>TR b o (k1 b o e);have ho:(h1.push (seqObj "list" vs.toArray 0)).get? h1.objs.size=some (seqObj "list" vs.toArray 0):=aaz _ rfl;refine aak (abj (abq slot_list_sort ⟨_,ho,rfl⟩ entry_list_sort (Bo (s:={ s with heap:=h1.push (seqObj "list" vs.toArray 0),toks:=tk }) (kd:=kd) (κ:=κ) (kv:=kv) (S:=S) ho (hz vs rc).1 (hz vs rc).2 (hS vs rc) ?_ ?_ fun h' out c k2 e p o=>⟨_,rfl,aao ⟨_,rfl,?_⟩⟩) (args_list_sort _)))
 ·exact fun g s' k2 Q q=>hK vs rc g _ _ (fun b o e=>k2 b o (mB b o e) (aam _ (k1 b o e))) Q _ q
 ·exact fun h' k2=>hC _ h' (show A.units+1+1<=A.units+4 by omega) fun b o e=>k2 b o (mB b o e) (aam _ (k1 b o e))
 ·exact h h1 h' tk vs out c k1 (fun b o e=>k2 b o (TR b o e) (aam _ e)) rc e p o
def hU(x:Int×Int×Int):PyData:=.tuple [.int x.1,.int x.2.1,.int x.2.2]
def iD(x:Int×Int×Int):Int:=100 * x.1+10 * x.2.1+x.2.2
def iU(x:Int×Int×Int):Prop:=(0<=x.2.1/\x.2.1<=2)/\0<=x.2.2/\x.2.2<=7
theorem NL{v u:Value}{y:Int×Int×Int}{p q:ww}{Q:Bool->Shared->Prop}(ra:Reads s.heap v (hU x) p)(rb:Reads s.heap u (hU y) q)(ox:iU x)(oy:iU y)(h:Q (decide (iD x < iD y)) s):wpAny (model prog w) A (keyLt' (tuples' true) v u) Q E s:=by
 obtain⟨a,b,c⟩:=x;obtain⟨a',b',c'⟩:=y;have hl:∀(i j:Int) (t t':Tok) (Q:Bool->Shared->Prop),Q (decide (i < j)) s->wpAny (model prog w) A (oneLt' false (.int i t) (.int j t')) Q (fun _ _=>False) s:=fun i j t t' Q h=>kat_one _ _ (richCompare_gives (op:=.Lt) (typeIs_int s _ t) (typeIs_int s _ t') F.slot_int_lt F.entry_int_lt (F.args_int_lt_2 _ _) (gives_int_lt _ _ t t') (fun x=>nomatch x) h);unfold iU at ox oy;unfold iD at h;dsimp only at ox oy h;cases ra with
 | tuple ha ca da ra =>
  cases rb with
  | tuple hb cb db rb =>
   refine kat_lt ha da hb db ?_;have e1:=SeqAt.ReadsAll.length _ _ _ ra;have e2:=SeqAt.ReadsAll.length _ _ _ rb;rw[aaO]at e1 e2;rw[e1,e2];generalize Array.toList _=vl at ra;generalize Array.toList _=ul at rb;cases ra with | cons r1 rs=>cases rs with | cons r2 rs=>cases rs with | cons r3 rs =>
   cases rs;cases rb with | cons q1 qs=>cases qs with | cons q2 qs=>cases qs with | cons q3 qs =>
   cases qs;cases r1;cases r2;cases r3;cases q1;cases q2;cases q3;show KatLex prog w A true _ Q [(_,_),(_,_),(_,_)] 0 s;refine kat_cons (ac7 (kat_go (fun e=>kat_yes ?_) fun e=>kat_no ?_))
   ·have e:a=a':=by simpa using e
    refine kat_cons (ac7 (kat_go (fun e=>kat_yes ?_) fun e=>kat_no ?_))
    ·have e:b=b':=by simpa using e
     refine kat_cons (ac7 (kat_go (fun e=>kat_yes ?_) fun e=>kat_no ?_))
     ·have e:c=c':=by simpa using e
      refine kat_nil ?_;rw[show decide (100 * a+10 * b+c < 100 * a'+10 * b'+c')=false by rw[decide_eq_false_iff_not];omega]at h;exact h
     ·exact hl _ _ _ _ _ (by rw[show decide (c < c')=decide (100 * a+10 * b+c < 100 * a'+10 * b'+c') by rw[ade];omega];exact h)
    ·have e:b≠b':=by simpa using e
     exact hl _ _ _ _ _ (by rw[show decide (b < b')=decide (100 * a+10 * b+c < 100 * a'+10 * b'+c') by rw[ade];omega];exact h)
   ·have e:a≠a':=by simpa using e
    exact oneLt_int (by rw[show decide (a < a')=decide (100 * a+10 * b+c < 100 * a'+10 * b'+c') by rw[ade];omega];exact h)
end
def xH:KeyOrd where
 α:=Int
 blt a b:=decide (a < b)
 irrefl a:=by simp
 trans a b c:=by simp;omega
 negTrans a b c:=by simp;omega
 total a b:=by simp;omega
theorem Bp{a b:Int}:xH.kle a b↔a<=b:=by show decide (b < a)=false↔_;simp
open Classical in
noncomputable def Iz (h:Heap) (ts:List (Int×Int×Int)) (v:Value):Int:=if e:∃ x p,Reads h v (hU x) p/\x∈ts then iD (choose e)else 0
theorem si{y:Int×Int×Int}(h:hU x=hU y):x=y:=by
 obtain⟨a,b,c⟩:=x;obtain⟨a',b',c'⟩:=y;unfold hU at h;injection h with h
 injection h with h1 h
 injection h with h2 h
 injection h with h3 h
 injection h1 with h1
 injection h2 with h2
 injection h3 with h3
 dsimp only at h1 h2 h3;rw[h1,h2,h3]
section
variable {prog:sB}{A:sK}{h':Heap}{ts:List (Int×Int×Int)}{v:Value}{p:ww}
theorem mH(r:Reads h v (hU x) p)(hd:x∈ts):Iz h ts v=iD x:=by
 unfold Iz;have e:∃ x p,Reads h v (hU x) p/\x∈ts:=⟨x,p,r,hd⟩;rw[dif_pos e];obtain⟨q,r2,hd2⟩:=Classical.choose_spec e;rw[si (SeqAt.Reads.unique _ _ _ _ _ rfl r2 r)]
theorem Ep(ok:∀ x∈ts,iU x)(hk:∀ b o,h.get? b=some o->h'.get? b=some o):qx prog w A h' xH (Iz h ts) (tuples' true) (fun v=>∃ x p,Reads h v (hU x) p/\x∈ts):=by
 rintro s rfl x y ⟨d,p,r,hd⟩ ⟨d',p',r',Ce⟩ Q E q;refine NL (adK hk r) (adK hk r') (ok _ hd) (ok _ Ce) ?_;rw[<- mH r hd,<- mH r' Ce];exact q
end
theorem j7{α β:Type}(f:α->β){out m:List β}(h:out.Perm m):∀ T:List α,T.map f=m->∃ T':List α,T'.Perm T/\T'.map f=out:=by
 induction h with
 | nil=>intro T e;exact⟨[],by rw[List.map_eq_nil_iff.mp e],rfl⟩
 | cons x _ ih =>
  intro T e;cases T with
  | nil=>cases e
  | cons t T =>
   injection e with e1 e2
   obtain⟨T',h1,h2⟩:=ih T e2;exact⟨t::T',h1.cons t,by rw[aaZ,h2,e1]⟩
 | swap x y l =>
  intro T e
  match T,e with
  | a::b::T,e =>
   injection e with e1 e2
   injection e2 with e3 e4
   exact⟨b::a::T,List.Perm.swap a b T,by rw[aaZ,aaZ,e1,e3,e4]⟩
 | trans _ _ ih1 ih2 =>
  intro T e;obtain⟨T2,h1,h2⟩:=ih2 T e;obtain⟨T3,h3,h4⟩:=ih1 T2 h2;exact⟨T3,h3.trans h1,h4⟩
def Er(K:zn):List V->Hp->VK->Prop:=fun xs H Q=>∃(p:Addr) (ys:List V) (ts:List (Int×Int×Int)),xs=[.ref p]/\eE K H p ys/\ak H (ts.map hU) ys/\(∀ x∈ts,iU x)/\2<=ts.length/\ts.length < 64 /\
 ∀(l:Addr) (zs:List (V×PyData)) (vZ:List (Int×Int×Int)),H l=none->zs.Perm (ys.zip (ts.map hU))->zs.map (·.2)=vZ.map hU->vZ.Perm ts->vZ.Pairwise (fun a b=>iD a<=iD b)->Q (.ref l) (upd H l (.lst (zs.map (·.1))))
section
variable {X:Cx}
theorem ou{h:Heap}:∀{ts:List (Int×Int×Int)} {us:wf} {p:ww},ReadsAll h us (ts.map hU) p->∃ fs,KatTups h us fs/\fs.length=us.length/\∀ f∈fs,∃ i t,f=Value.int i t
 | [],_,_,.nil=>⟨[],.nil,rfl,fun _ z=>nomatch z⟩
 | x::ts,_,_,.cons r rs=>by
  obtain⟨fs,t,hl,hf⟩:=ou rs;cases r with
  | @tuple a o vs m _ _ ho hc UM ra =>
   have:∃ t',vs[0]?=some (Value.int x.1 t'):=by
    rw[<- abO];generalize vs.toList=vl at ra;cases ra with
    | cons r1 _=>cases r1;exact⟨_,rfl⟩
   obtain⟨t',h0⟩:=this;exact⟨_,.cons ho hc UM h0 t,by simp[hl],fun f z=>(aat.mp z).elim (fun z=>⟨x.1,t',z⟩) (hf f)⟩
theorem qy:∀{T:List (Value×V×PyData)},(∀ t∈T,RelV t.2.1 t.1)->Vals ((T.map (·.2)).map (·.1)) (T.map (·.1))
 | [],_=>.nil
 | t::T,h=>.cons (h t aax) (qy fun t z=>h t (aaw _ z))
theorem readsAll_mem{h:Heap}:∀{es:wE} {us:wf} {p:ww},ReadsAll h us es p->∀ v∈us,∃ d p,Reads h v d p/\d∈es
 | _,_,_,.nil,_,z=>nomatch z
 | _,_,_,.cons r rs,v,z=>by
  rcases aat.mp z with rfl | z
  ·exact⟨_,_,r,aax⟩
  ·obtain⟨d,p,h1,h2⟩:=readsAll_mem rs v z;exact⟨d,p,h1,aaw _ h2⟩
theorem RX{P:sB}{w:World}{H:Hp}{h:Heap}(ok:eF P w H h):∀{ys:List V} {vs:wf} {ds:wE},Vals ys vs->ak H ds ys->∃ T:List (Value×V×PyData),T.map (·.1)=vs/\T.map (·.2)=ys.zip ds/\∀ t∈T,RelV t.2.1 t.1/\t.2.2∈ds/\∃ p,Reads h t.1 t.2.2 p
 | _,_,[],.nil,_=>⟨[],rfl,rfl,fun _ z=>nomatch z⟩
 | _,_,[],.cons _ _,z=>by have:=ak.length z;simp at this
 | _,_,d::ds,.nil,z=>by have:=ak.length z;simp at this
 | y::ys,v::vs,d::ds,.cons r rs,z=>by
  obtain⟨y',ZN,e,h1,h2⟩:=z;cases e;obtain⟨T,t1,t2,t3⟩:=RX ok rs h2;obtain⟨p,rd⟩:=Rep.reads ok h1 r;refine⟨(v,y,d)::T,by rw[aaZ,t1],by rw[aaZ,t2];rfl,fun t ht=>?_⟩;rcases aat.mp ht with rfl | ht
  ·exact⟨r,aax,p,rd⟩
  ·obtain⟨a1,a2,a3⟩:=t3 t ht;exact⟨a1,aaw _ a2,a3⟩
theorem Es:∀{T:List (Value×V×PyData)} {ts:List (Int×Int×Int)},T.Pairwise (fun x y=>∀ a b,hU a=x.2.2->hU b=y.2.2->iD a<=iD b)->T.map (·.2.2)=ts.map hU->ts.Pairwise (fun a b=>iD a<=iD b)
 | _,[],_,_=>.nil
 | [],a::r,_,s3=>by cases s3
 | t::T,a::r,pw,s3=>by
  injection s3 with s4 s5
  obtain⟨w1,w2⟩:=abG.mp pw;refine abG.mpr ⟨fun b hb=>?_,Es w2 s5⟩;have:hU b∈T.map (·.2.2):=by rw[s5];exact abc.mpr ⟨b,hb,rfl⟩
  obtain⟨y,hy,ey⟩:=abc.mp this;exact w1 y hy a b s4.symm ey.symm
theorem sj(hc:X.calm=true):dG X (.builtin "sorted") (Er X.K):=by
 intro pins s σ H xs us Q I r h;obtain⟨p,ys,ts,rfl,hq,IA,ok,h2,OY,q⟩:=h;obtain⟨u,rfl,ru⟩:=vals1 r;cases ru;obtain⟨aQ,rv,pl,hz⟩:=I.list hq;have YD:ys.length=ts.length:=by have:=ak.length IA;simp at this;omega
 have md:∀ d:PyData,d∈ts.map hU->∃ x,x∈ts/\d=hU x:=fun d hd=>by obtain⟨x,h1,h2⟩:=abc.mp hd;exact⟨x,h1,h2.symm⟩
 refine ot (κ:=xH) (kv:=Iz s.heap ts) (kd:=tuples' true) (S:=fun v=>∃ x p,Reads s.heap v (hU x) p/\x∈ts) (Rc:=fun vs=>Vals ys vs) (fun A R E hh hR=>?_) (I.ok.hd hc) (fun vs hv=>?_) (fun vs hv v hm=>?_) (fun vs hv h2 A s' hk Q E hQ=>?_) (fun A' h' hA hk=>Ep ok hk) fun h1 h' tk vs out c k1 k2 rc e pm pw=>?_
 ·refine collect_list (vs:=aQ) pl.isList (hR _ s.toks aQ (fun b o e=>?_) rv) (by rw[<- rv.length];exact hz);exact(abw _ _ (fun z:s.heap.objs.size=b=>absurd (aay e) (by rw[z];exact aa6 _))).trans (aam _ e)
 ·rw[<- hv.length,YD];exact⟨h2,OY⟩
 ·obtain⟨as,ra⟩:=IA.reads I.ck hv;obtain⟨d,p,r1,r2⟩:=readsAll_mem ra v hm;obtain⟨x,hx,rfl⟩:=md d r2;exact⟨x,p,r1,hx⟩
 ·obtain⟨as,ra⟩:=IA.reads I.ck hv;obtain⟨fs,t,hl,hf⟩:=ou (PyProof.Rows.ReadsAll.keeps hk ra);refine kat_kind (T:=.type "int") t (by omega) (fun v z=>?_) rfl hQ;obtain⟨i,t',rfl⟩:=hf v z;exact .now
 ·have I1:Inv X pins σ H { s with heap:=h1,toks:=tk }:=I.kept k1;obtain⟨T,t1,t2,t3⟩:=RX I.ck rc IA;obtain⟨T',p1,p2⟩:=j7 (fun t:Value×V×PyData=>t.1) pm T t1;have t4:∀ t∈T',RelV t.2.1 t.1/\t.2.2∈ts.map hU/\∃ p,Reads s.heap t.1 t.2.2 p:=fun t ht=>t3 t (p1.mem_iff.mp ht);have hv:Vals ((T'.map (·.2)).map (·.1)) out:=by rw[<- p2];exact qy fun t ht=>(t4 t ht).1
  have B7:((T'.map (·.2)).map (·.1)).length<=sizeLine:=by
   rw[hv.length,pm.length_eq,<- rc.length];exact hz
  have I2:=I1.laid (t':=tk) (a:=h1.objs.size) (o:=.lst ((T'.map (·.2)).map (·.1))) k2 (aar _) (show cK X.prog X.w _ h' _ (.lst _) from ⟨B7,out,c,hv,e⟩);have pz:(T'.map (·.2)).Perm (ys.zip (ts.map hU)):=by rw[<- t2];exact p1.map _
  have pd:((T'.map (·.2)).map (·.2)).Perm (ts.map hU):=by
   have:=pz.map (·.2)
   rwa [adT (by rw[aal,YD];exact aar _)]at this
  obtain⟨vZ,s1,s2⟩:=j7 hU pd ts rfl;refine⟨.ref h1.objs.size,_,I2,rfl,q _ _ vZ (I1.ck.fresh (aar _)) pz s2.symm s1 ?_⟩;have pw2:T'.Pairwise (fun x y=>∀ a b,hU a=x.2.2->hU b=y.2.2->iD a<=iD b):=by
   rw[<- p2,adH]at pw;refine pw.imp_of_mem fun{x y} hx hy z a b ea eb=>?_;obtain⟨_,m1,pa,ra⟩:=t4 x hx;obtain⟨_,m2,pb,rb⟩:=t4 y hy;obtain⟨xa,ha,e1⟩:=md _ m1;obtain⟨xb,hb,e2⟩:=md _ m2;rw[e1]at ra ea;rw[e2]at rb eb;rw[si ea,si eb];have z:=Bp.mp z;rw[mH ra ha,mH rb hb]at z;exact z
  have s3:T'.map (·.2.2)=vZ.map hU:=by rw[s2,ach];rfl
  exact Es pw2 s3
end
section
variable {C:DC}{F:Hp}
theorem zC:∀{ds:wE} {ys:List V},ak F ds ys->∀ z∈ys.zip ds,Rep F z.2 z.1
 | [],_,_,z,h=>by rw[List.zip_nil_right]at h;cases h
 | d::ds,_,⟨y,ys,e,h1,h2⟩,z,h=>by
  subst e;rw[List.zip_cons_cons]at h;rcases aat.mp h with rfl | h
  ·exact h1
  ·exact zC h2 z h
theorem oz:∀{zs:List (V×PyData)},(∀ z∈zs,Rep F z.2 z.1)->ak F (zs.map (·.2)) (zs.map (·.1))
 | [],_=>rfl
 | z::zs,h=>⟨z.1,zs.map (·.1),rfl,h z aax,oz fun z hz=>h z (aaw _ hz)⟩
def NM:List DV->Wd->DK->Prop:=fun as W Q=>∃(a:DV) (ts:List (Int×Int×Int)),as=[a]/\c9 W a=some ((ts.map hU).map .im)/\(∀ x∈ts,iU x)/\2<=ts.length/\ts.length < 64 /\
 ∀ vZ:List (Int×Int×Int),vZ.Perm ts->vZ.Pairwise (fun a b=>iD a<=iD b)->iK ((vZ.map hU).map .im) W Q
instance {K:zn}[hk:lO C K]:Dv C (Er K) NM:=by
 obtain⟨rfl⟩:=hk;exact⟨fun D h zz k=>by
 obtain⟨a,ts,e,e2,ok,h2,OY,q⟩:=zz
 subst e;obtain⟨x,rfl,hx⟩:=h.cY;obtain⟨p,xs,rfl,hq,r⟩:=D.c9 hx e2;have rp:=aD.nQ r;refine⟨p,xs,ts,rfl,eE.of hq,rp.mono Fz.sm,ok,h2,OY,fun l zs vZ hl hp Qg Tx hs=>?_⟩;have hz:∀ z∈zs,Rep _ z.2 z.1:=fun z hz=>zC rp z (hp.mem_iff.mp hz);have:=oz hz;rw[Qg]at this;exact gv D (aD.fi this) hl (q vZ Tx hs) k⟩
end
end L2
set_option synthInstance.maxHeartbeats 0
set_option synthInstance.maxSize 100000
namespace T1
open PySem L2
variable {P:sB}{w:World}{mg:xL}{base:Heap}{f aR aS kH f1 f2 f3 C:Addr}{fd R4 d1 d2 d3 d4:wT}{k b v z a lg b' rm:Int}{W:Wd}{Q:DK}{α:Type}{xs ws ns ord:wn}{n j m:Nat}{ps:wv}{ds:wE}{x:Str}{B:Nat->Int}{ls:tz}{y:Int×Int}
local macro_rules | `(tactic| array_mem_dec) => `(tactic| first
 | (with_reducible first|refine MX ?_|refine MY ?_|refine RL ?_|refine Nz ?_|refine Il ?_|refine Io ?_|refine Ec ?_|refine Nv ?_|refine Nw ?_)
 | (with_reducible first|refine MV ?_|refine Q0 ?_|refine MW ?_|refine Q1 ?_|refine Q4 ?_|refine Vr ?_|refine Vs ?_|refine Vu ?_|refine Vt ?_|refine RE ?_|refine RF ?_)
 | ((with_reducible apply RD);(· exact rfl))
 | ((with_reducible apply Q6);· exact rfl)
 | (with_reducible first|refine x_c ?_|refine VI ?_|refine VM ?_|refine Vv ?_|refine Rv ?_|refine Vw ?_|refine Vx ?_|refine Vy ?_|refine Q7 ?_|refine Vz ?_|refine Q8 ?_|refine MZ ?_|refine Q9 ?_|refine Na ?_|refine VA ?_|refine Ra ?_|refine Nb ?_|refine HZ ?_|refine Rb ?_|refine Nc ?_)
 | ((with_reducible refine VB ?_);refine⟨rfl,?_⟩)
 | (with_reducible first|refine Rf ?_|refine Rg ?_|refine VC ?_|refine cQ ?_|refine VD ?_|refine VE ?_|refine DS ?_|refine Nd ?_|refine VF ?_|refine Nf ?_|refine Rh ?_|refine Q5 ?_|refine x_raise ?_|refine Nj ?_)
 | ((with_reducible apply VH);(· omega);(· omega))
 | (with_reducible first|refine Ia ?_|refine Rq ?_|refine Rr ?_)
 | ((with_reducible apply uK);(· assumption))
 | (with_reducible first|refine VG ?_)
 | ((with_reducible apply x_I);· first | (show(0:Int) < _;omega) | (show(0:Int) < _;decide) | exact⟨by omega,by omega⟩ | exact .inl ⟨by omega,by omega⟩ | exact .inr ⟨by omega,by omega⟩ | exact .inr ⟨by decide,by decide⟩ | exact⟨by decide,by decide,by decide⟩ | exact⟨by decide,by decide,by omega⟩)
 | (with_reducible first|refine x_U ?_|refine Ri ?_|refine Rj ?_|refine Rk ?_|refine Rm ?_|refine Ng ?_|refine Nh ?_|refine Rx ?_|refine Ry ?_|refine Nl ?_|refine Rz ?_|refine Nk ?_)
 | ((with_reducible apply Ni);(· assumption))
 | ((with_reducible apply VJ);(· assumption))
 | (with_reducible first|refine Gz ?_|refine yW ?_|refine U3 ?_|refine U4 ?_)
 | with_reducible refine aaj ?_)
local macro_rules | `(tactic| array_get_dec) => `(tactic| repeat (first
 | array_mem_dec
 | ((with_reducible apply cn);(· exact rfl))
 | ((with_reducible apply pH);· decide)
 | ((with_reducible apply jM);· decide)
 | ((with_reducible apply Hy);· decide)
 | ((with_reducible apply Hz);· decide)
 | ((with_reducible apply pH);· omega)
 | ((with_reducible apply jM);· omega)
 | ((with_reducible apply Hy);· omega)
 | ((with_reducible apply Hz);· omega)))
local macro_rules | `(tactic| sizeOf_list_dec) => `(tactic| repeat (first
 | array_mem_dec
 | ((with_reducible apply cn);(· exact rfl))
 | ((with_reducible apply fk);(· assumption);(· exact rfl))
 | with_reducible refine Ny (by assumption) (by assumption) 0 (by with_unfolding_all rfl) (by decide +kernel) (by with_unfolding_all rfl) ?_
 | with_reducible refine NK (by assumption) (by assumption) 0 (by with_unfolding_all rfl) (by decide +kernel) (by with_unfolding_all rfl) ?_
 | with_reducible refine Ik (by assumption) 0 (by with_unfolding_all rfl) (by with_unfolding_all rfl) ?_
 | ((with_reducible apply pH);· decide)
 | ((with_reducible apply jM);· decide)
 | ((with_reducible apply Hy);· decide)
 | ((with_reducible apply Hz);· decide)
 | (apply cn;(· exact rfl))
 | refine Gz ?_
 | refine yW ?_))
local macro_rules | `(tactic| rfl') => `(tactic| repeat array_mem_dec)
local macro_rules | `(tactic| symm) => `(tactic| (try dsimp only[eW,Cx.Ap,Cx.mQ,gW,Cx.Qz,Cx.marked]))
local macro_rules | `(tactic| ac_rfl) => `(tactic| exact ⟨rfl,rfl,rfl,by decide +kernel,rfl,by decide +kernel,by decide +kernel⟩)
local macro_rules | `(tactic| nofun) => `(tactic| (intros; rename_i h; repeat (first | (obtain ⟨e, _⟩ := h; rw [e]; rfl) | obtain ⟨_, h⟩ := h)))
set_option hygiene false in
local macro_rules | `(tactic| exact_mod_cast $e) => `(tactic| (refine $e fun bC A outer s H E hr=>?_;have hu:=hr.units))
set_option hygiene false in
local macro_rules | `(tactic| norm_cast) => `(tactic| (clear hu;symm;refine fun O X W=>⟨_,inferInstance,?_⟩))
set_option hygiene false in
local macro_rules | `(tactic| push_cast) => `(tactic| (clear hu;symm;refine fun O X=>⟨_,inferInstance,?_⟩))
abbrev zD(K:zn):Sp:=DO K
abbrev NN:Stmt:=top 36
abbrev Et:Stmt:=top 37
theorem qz:av ["script", "great", "fold", "cell"] ["script"] (defScope NN):=by ac_rfl
theorem sk:av ["bag", "many", "great", "one", "mixed"] ["bag", "many"] (defScope Et):=by ac_rfl
def Bg:Addr->Nat->Cell->wn->Prop:=fun g n c gs=>∃ f k:Int,c=.lst [.pt g,.im (.int f),.im (.int k)]/\0<=f/\f < 2147483629/\0<=k/\k<=n/\gs.length<=100
section
variable {K:zn}
theorem NO(F:cL K "_law_bag" "_law_bag" NN f fd):ba P w K mg base cU 1 f fd ["script"] (HX K (cV Bg)):=by
 refine F.Vq qz fun bC A outer s H E hr=>?_;refine⟨_,(ae (aA 1 qz.nd (cm ag))
  (ae (aA 2 qz.nd af)
  (ae (gn (dQ (ah 0)) (aO 3 qz.nd) (ae (bj (aG lE (ah 3) af) (ai (aA 3 qz.nd (aT eU af (ah 3)))) aC)
   (ae (aA 2 qz.nd (aT eV (aT aV (aT aV (aT js (ah 2) af) (aT eV (ah 3) af)) af) af))
   (ai (bj (aG pS (ah 3) (aT kA af af)) (ai (cM (gS aaG aaQ aaR bQ (ah 1) (aa (aT eU (ah 3) (aT kA af af)) ag)))) aC)))))
  (ai (ay (cm (aa (ah 1) (aa (ah 2) (aa af ag))))))))),?_⟩
 symm;refine⟨_,inferInstance,fun ns HU=>?_⟩;refine cR [_,none,none,none] rfl ?_
 rfl'
 refine⟨aaW _,.inl fun p hp=>?_⟩
 rfl'
 refine ax ?_
 rfl'
 refine Ib (fun i ρ W=>∃(fo:Int) (gs:wn) (u:Option DV),ρ=[some (.jh ns),some (.pt p),some (.im (.int fo)),u]/\W=aH W0 p (.lst (fj gs))/\gs.length<=i/\0<=fo/\fo < 2147483629) ⟨5,[],none,rfl,rfl,aar _,by decide,by decide⟩ ?_ ?_
 ·rintro i z ρ W hi ⟨fo,gs,u,rfl,rfl,hl,f0,f1⟩;have Bq:i < ns.length:=(aan.mp hi).1;have hw:aH W0 p (.lst (fj gs)) p=some (.lst (fj gs)):=aq
  rfl'
  refine ax ?_
  rfl'
  refine gj (fun _=>?_) (fun _=>?_)
  all_goals
   rfl'
   refine gj (fun _=>?_) (fun _=>?_)
   ·rfl'
    refine uJ hw (by rw[aal];exact bb (by omega)) ?_
    rfl'
    exact⟨_,gs++[_],_,rfl,by rw[kM,show ∀ z:Int,fj gs++[DV.im (.int z)]=fj (gs++[z]) from fun z=>by simp],by rw[aaP];simp;omega,abP _ (by decide),abv _ (by decide)⟩
   ·rfl'
    exact⟨_,gs,_,rfl,rfl,by omega,abP _ (by decide),abv _ (by decide)⟩
 ·rintro ρ W ⟨fo,gs,u,rfl,rfl,hl,f0,f1⟩
  rfl'
  refine⟨(by show 3<=sizeLine;decide),.inl fun q hq=>?_⟩;have pq:p≠q:=fun z=>by rw[<- z,aq]at hq;cases hq
  exact⟨q,p,_,gs,rfl,aq,by rw[aw pq];exact aq,pq,⟨fo,0,rfl,f0,f1,acn _,acn _,by omega⟩,rfl⟩
theorem IB(F:cL K "_law_draw" "_law_draw" Et f fd):ba P w K mg base cU 1 f fd ["bag", "many"] (spT (cV Bg) iy):=by
 exact_mod_cast F.okO sk rfl (by nofun);refine⟨_,(ae (nF (aT aV (ao (ah 0) af) af) (Dh (ah 0) af set_list))
  (ae (aA 2 sk.nd (ao (ah 0) af))
  (ae (Hn (rH (w_and (aG (fc hu) (ah 2) (cm ag)) (dR (aG (aI hu) (ao (ah 2) af) af)))) (ai (cM (gS aaG PySem.F.slot_list_pop PySem.F.type_list_pop CV (ah 2) (aa af ag)))))
  (ae (bj (aG (fc hu) (ah 2) (cm ag)) (ae (aA 3 sk.nd (aT eV (ao (ah 2) af) (ah 1)))
   (ae (nF (aT um (ao (ah 2) af) (ah 1)) (Dh (ah 2) af set_list))
   (ai (ay (ah 3))))) aC)
  (ae (aA 4 sk.nd (aT eV (aT aV (aT js (aT aV (ao (ah 0) af) af) (aT kA (aT aV (ao (ah 0) af) af) af)) (aT js af (ao (ah 0) af))) af))
  (ai (ay (aT eV (aT um (aT eV (aT kA (ah 4) af) af) af) (ah 1))))))))),?_⟩
 clear hu;symm;refine fun t g O=>⟨_,inferInstance,?_⟩;rintro n ds R c gs gt ⟨fo,kk,rfl,f0,f1,k0,k1,hl⟩ ⟨m,rfl,hn,m0,m1,q⟩;refine cR [_,_,none,none,none] rfl ?_;have keys:∀(gs:wn) (k:Int),WO t g (.lst [.pt g,.im (.int fo),.im (.int k)]) gs t=some (.lst [.pt g,.im (.int fo),.im (.int k)])/\WO t g (.lst [.pt g,.im (.int fo),.im (.int k)]) gs g=some (.lst (fj gs)):=fun gs k=>⟨aq,by unfold WO;rw[aw gt];exact aq⟩;obtain⟨wt,wg⟩:=keys gs kk
 rfl'
 refine fk wt rfl ?_
 rfl'
 refine⟨t,_,2,2,rfl,rfl,wt,rfl,?_⟩;rw[show aH (WO t g (.lst [.pt g,.im (.int fo),.im (.int kk)]) gs) t (.lst ([DV.pt g,.im (.int fo),.im (.int kk)].set 2 (.im (.int (kk+1)))))=WO t g (.lst [.pt g,.im (.int fo),.im (.int (kk+1))]) gs from kM];clear wt wg;have kt:=fun gs=>(keys gs (kk+1)).1;have kg:=fun gs=>(keys gs (kk+1)).2;have re:∀ x y,aH (WO t g (.lst [.pt g,.im (.int fo),.im (.int (kk+1))]) x) g (.lst (fj y))=WO t g (.lst [.pt g,.im (.int fo),.im (.int (kk+1))]) y:=fun x y=>by unfold WO;rw[A7 (abi gt),kM]
 rfl'
 refine fk (kt gs) rfl ?_
 rfl'
 refine ax ?_;refine HY (fun j ρ W=>∃ GC:List Int,j=GC.length/\GC.length<=100/\ρ=[some (.pt t),some (.im (.int m)),some (.pt g),none,none]/\W=WO t g (.lst [.pt g,.im (.int fo),.im (.int (kk+1))]) GC) gs.length ⟨gs,rfl,hl,rfl,rfl⟩ ?_;rintro j ρ W ⟨GC,rfl,NP,rfl,rfl⟩;have cl:PyData.canLay0 (.list (GC.map .int))=true:=lM GC
 rfl'
 refine⟨_,nW (kg GC),cl,?_⟩;cases GC with
 | nil =>
  rfl'
  refine yW ?_
  rfl'
  refine ax ?_
  rfl'
  refine⟨_,nW (kg []),cl,?_⟩
  rfl'
  refine yW ?_
  rfl'
  refine fk (kt []) rfl ?_
  rfl'
  refine fk (kt []) rfl ?_
  rfl'
  refine fk (kt []) rfl ?_
  rfl'
  exact⟨n+1,_,[],_,rfl,kt _,kg _,⟨fo,kk+1,rfl,f0,f1,by omega,by omega,by simp⟩,rfl,q _ (abP _ (by omega)) (abv _ m0)⟩
 | cons z L =>
  have kz:WO t g (.lst [.pt g,.im (.int fo),.im (.int (kk+1))]) (z::L) g=some (.lst (.im (.int z)::fj L)):=kg (z::L)
  rfl'
  refine Gz ?_
  rfl'
  refine fk kz (aX (j:=0) rfl) ?_
  rfl'
  refine gj (fun h2=>?_) (fun h2=>?_)
  ·rfl'
   refine⟨g,_,0,0,_,rfl,rfl,kz,by decide,by decide,by unfold seqIndex?;simp,rfl,?_⟩;exact⟨L.length,by simp,L,rfl,by simp at NP;omega,rfl,re _ _⟩
  ·refine ax ?_
   rfl'
   refine⟨_,nW (kg _),cl,?_⟩
   rfl'
   refine Gz ?_
   rfl'
   refine fk kz (aX (j:=0) rfl) ?_
   rfl'
   refine fk kz (aX (j:=0) rfl) ?_
   rfl'
   refine⟨g,_,0,0,rfl,rfl,kz,xt (acn _) (by simp only[aaV];omega),?_⟩;rw[show(DV.im (.int z)::fj L).set 0 (.im (.int (z / m)))=fj (z / m::L) from rfl,re]
   rfl'
   exact⟨n+1,_,_,_,rfl,kt _,kg _,⟨fo,kk+1,rfl,f0,f1,by omega,by omega,by simpa using NP⟩,rfl,q _ (abP _ (by omega)) (abv _ m0)⟩
end
inductive Rw where
 | put (d v:Int) | op (x:Str) (d a b:Int) | mv (x:Str) (d a n:Int) | go (a p:Int) | one (x:Str)
variable {rs:List Rw}
def bX:Rw->PyData
 | .put d v=>.tuple [.str "put",.int d,.int v]
 | .op x d a b=>.tuple [.str x,.int d,.int a,.int b]
 | .mv x d a n=>.tuple [.str x,.int d,.int a,.int n]
 | .go a p=>.tuple [.str "go",.int a,.int p]
 | .one x=>.tuple [.str x]
def B8(i:Int):Prop:=0<=i/\i < 8
def Wr(i:Int):Prop:=0<=i/\i < 4294967296
def iE(m:Int):Rw->Prop
 | .put d v=>B8 d/\Wr v
 | .op x d a b=>(x = "sum"\/x = "mul"\/x = "less")/\B8 d/\B8 a/\B8 b
 | .mv x d a n=>(x = "take"\/x = "lay")/\B8 d/\B8 a/\0<=n/\n < 16
 | .go a p=>B8 a/\0<=p/\p<=m
 | .one x=>x = "shut"\/x = "open"\/x = "home"
def dS(rs:List Rw)(bs:wn):PyData:=.tuple [.tuple (rs.map bX),.tuple (bs.map .int)]
structure sq(rs:List Rw)(bs:wn):Prop where
 r1:1<=rs.length
 r2:rs.length<=40
 rok:∀ r∈rs,iE rs.length r
 b1:bs.length<=4
 bok:∀ b∈bs,0<=b/\b<=rs.length
def xI:v0->PyData
 | none=>.none
 | some k=>.int k
def stD(pl:Int)(sp ce:wn)(sh:Bool)(kp:v0):PyData:=.tuple [.int pl,.tuple (sp.map .int),.tuple (ce.map .int),.bool sh,xI kp]
structure We(m:Int)(pl:Int)(sp ce:wn)(kp:v0):Prop where
 p0:0<=pl
 p1:pl<=m
 s8:sp.length=8
 sw:∀ z∈sp,Wr z
 O1:ce.length=16
 cw:∀ z∈ce,Wr z
 kb:∀ k,kp=some k->0<=k/\k<=m
def pairD(p:Int×Int):PyData:=.tuple [.int p.1,.int p.2]
abbrev NQ:Stmt:=top 38
abbrev xJ:Stmt:=top 39
abbrev xK:Stmt:=top 49
theorem zE:av ["bag", "far", "k"] ["bag"] (defScope NQ):=by ac_rfl
theorem zF:av ["bag", "kind"] ["bag"] (defScope xJ):=by ac_rfl
theorem IC:av ["found", "due"] ["found", "due"] (defScope xK):=by ac_rfl
def Eu:uH:=fun n ds R=>ds=[]/\n<=999000000/\∀(r:Int) (n':Nat),0<=r->n'<=n+7->R (.im (.int r)) n'
def Ew:uH:=fun n ds R=>ds=[]/\n<=999000000/\∀(r:Int) (n':Nat),Wr r->n'<=n+3->R (.im (.int r)) n'
def pL:Option (Int×Str)->PyData
 | none=>.none
 | some (i,x)=>.tuple [.int i,.str x]
def Ex:jj:=fun ds R _=>∃ a b:Option (Int×Str),ds=[pL a,pL b]/\R (.im (.bool (decide (a=b))))
theorem ID{l:wn}(h0:0<=k)(h1:k < l.length):∃ v∈l,gF (l.map PyData.int) k=some (.int v):=by
 obtain⟨j,rfl⟩:=abb h0;have hj:j < l.length:=by omega
 exact⟨l[j],abA hj,aX (by rw[aap,aas hj];rfl)⟩
theorem el{l:wn}(h0:0<=k)(h1:k < l.length)(h:∀ v∈l,Q (.im (.int v)) W):MH (.im (.list (l.map .int))) (.im (.int k)) W Q:=by
 obtain⟨v,hv,e⟩:=ID h0 h1;exact bE e (h v hv)
section
variable {K:zn}
theorem NR{fD:Addr}{Wh:wT}(F:cL K "_law_far" "_law_far" NQ f fd)(aj:Dn P w K mg base 1 "_law_draw" fD Wh ["bag", "many"] (spT (cV Bg) iy))(bc:mg "range"=none):ba P w K mg base cU 2 f fd ["bag"] (spT (cV Bg) Eu):=by
 exact_mod_cast F.Km zE dY rfl (by nofun);refine⟨_,(ae (aA 1 zE.nd af)
  (ae (gn (cC bc (aa af ag)) (aO 2 zE.nd) (ai (aA 1 zE.nd (aT aV (aT js (ah 1) (aT kA af af)) (ar aj hr (aa (ah 0) (aa (aT kA af af) ag)))))))
  (ai (ay (ah 1))))),?_⟩
 clear hu;symm;refine fun t g O=>⟨_,inferInstance,?_⟩;rintro n ds R ⟨rfl,hn,q⟩;refine cR [_,none,none] rfl ?_;have wt:WT t g n t=some (.aE g n):=aq;generalize WT t g n=W at wt;have e8:(10:Int) ^ Int.toNat 8=100000000:=by decide
 rfl'
 refine ax ?_
 rfl'
 refine i9 (fun i ρ W=>∃(r:Int) (u:Option DV) (k:Nat),ρ=[some (.pt t),some (.im (.int r)),u]/\0<=r/\W t=some (.aE g k)/\k<=n+i) ⟨0,_,_,rfl,acn _,wt,by omega⟩ ?_ ?_
 ·rintro i ρ W hi ⟨r,u,k,rfl,r0,wt,hk⟩;have hi7:i < 7:=by omega
  rfl'
  rw[e8];refine aZ wt (by omega) (by omega) (by omega) fun z W1 z0 z1 wt f1=>?_
  rfl'
  exact⟨_,_,_,rfl,by omega,wt,by omega⟩
 ·rintro ρ W ⟨r,u,k,rfl,r0,wt,hk⟩
  rfl'
  exact⟨_,wt,q r _ r0 (by have:(7:Int).toNat=7:=rfl;omega)⟩
theorem Ey{fD:Addr}{Wh:wT}(F:cL K "_law_worth" "_law_worth" xJ f fd)(aj:Dn P w K mg base 1 "_law_draw" fD Wh ["bag", "many"] (spT (cV Bg) iy)):ba P w K mg base cU 2 f fd ["bag"] (spT (cV Bg) Ew):=by
 exact_mod_cast F.Km zF dY rfl (by nofun);refine⟨_,(ae (aA 1 zF.nd (ar aj hr (aa (ah 0) (aa af ag))))
  (ae (bj (aG lE (ah 1) af) (ai (ay (ao (cm (gH rfl)) (ah 1)))) aC)
  (ae (bj (aG (aI hu) (ah 1) af) (ai (ay (ar aj hr (aa (ah 0) (aa af ag))))) aC)
  (ai (ay (aT aV (aT js (ar aj hr (aa (ah 0) (aa af ag))) af) (ar aj hr (aa (ah 0) (aa af ag))))))))),?_⟩
 clear hu;symm;refine fun t g O=>⟨_,inferInstance,?_⟩;rintro n ds R ⟨rfl,hn,q⟩;refine cR [_,none] rfl ?_;have wt:WT t g n t=some (.aE g n):=aq;generalize WT t g n=W at wt
 rfl'
 refine aZ wt (by omega) (by omega) (by omega) fun k W1 k0 k1 wt f1=>?_
 rfl'
 refine ax ?_
 rfl'
 refine gj (fun h=>?_) (fun h=>?_)
 ·rfl'
  refine cX (ds:=[0,1,4294967295].map PyData.int) (by show 3<=sizeLine;decide) ?_
  rfl'
  refine el k0 h fun v hv=>?_;have:v=0\/v=1\/v=4294967295:=by simpa using hv
  exact⟨_,wt,q v _ ⟨by omega,by omega⟩ (by omega)⟩
 rfl'
 refine ax ?_
 rfl'
 refine gj (fun h=>?_) (fun h=>?_)
 ·rfl'
  refine aZ wt (by omega) (by omega) (by omega) fun r W2 r0 r1 wt f2=>?_;exact⟨_,wt,q r _ ⟨by omega,by omega⟩ (by omega)⟩
 rfl'
 refine aZ wt (by omega) (by omega) (by omega) fun r W2 r0 r1 wt f2=>?_
 rfl'
 refine aZ wt (by omega) (by omega) (by omega) fun r' W3 r0' r1' wt f3=>?_
 rfl'
 exact⟨_,wt,q _ _ ⟨by omega,by omega⟩ (by omega)⟩
theorem Ez(F:cL K "_law_right" "_law_right" xK f fd)(dh:mg "isinstance"=none)(gy:mg "tuple"=none)(bu:mg "len"=none)(EA:mg "str"=none)(xM:mg "bool"=none)(qA:mg "int"=none):ba P w K mg base cU 1 f fd ["found", "due"] (df Ex):=by
 exact_mod_cast F.nT IC (by nofun);refine⟨_,(ae (bj (jK (ah 1)) (ai (ay (JO (ah 0)))) aC)
  (ae (bj (rH (w_or (nG (tS (yV dh gy aco (ah 0)))) (w_or (aG (fc hu) (bD bq bu aa3 (aa (ah 0) ag)) af) (yU (nG (tS (yV dh EA PyProof.Rows.boot_str (ao (ah 0) af)))))))) (ai (ay AS)) aC)
  (ae (bj (rH (w_or (tS (yV dh xM PyProof.Rows.boot_bool (ao (ah 0) af))) (yU (nG (tS (yV dh qA PyProof.Rows.boot_int (ao (ah 0) af))))))) (ai (ay AS)) aC)
  (ai (ay (JP (jJ (aI hu) (ao (ah 0) af) (ao (ah 1) af)) (Dk (jJ (aI hu) (ao (ah 0) af) (ao (ah 1) af))))))))),?_⟩
 push_cast;rintro ds R ⟨a,b,rfl,q⟩;refine ax ?_;rcases a with _ | ⟨i,x⟩<;>rcases b with _ | ⟨j,y⟩<;>dsimp only[pL]
 ·sizeOf_list_dec
  exact q
 ·sizeOf_list_dec
  refine ax ?_
  sizeOf_list_dec
  exact q
 ·sizeOf_list_dec
  exact q
 ·sizeOf_list_dec
  refine ax ?_
  sizeOf_list_dec
  refine ax ?_
  sizeOf_list_dec
  refine gj (fun h=>?_) (fun h=>?_)
  ·sizeOf_list_dec
   rw[show decide (x=y)=decide (some (i,x)=some (j,y)) by rw[h];simp];exact q
  ·rw[aaF (by simp[h])]at q;exact q
end
abbrev oA:Stmt:=top 11
abbrev sr:Stmt:=top 12
abbrev EB:Stmt:=top 14
abbrev NS:Stmt:=top 17
abbrev EC:Stmt:=top 18
abbrev su:Stmt:=top 19
abbrev xN:Stmt:=top 20
abbrev xO:Stmt:=top 21
abbrev sv:Stmt:=top 22
abbrev xP:Stmt:=top 26
abbrev ED:Stmt:=top 27
abbrev EE:Stmt:=top 28
abbrev EF:Stmt:=top 29
theorem Br:av ["number"] ["number"] (defScope oA):=by ac_rfl
theorem EG:av ["worth", "n"] ["worth", "n"] (defScope sr):=by ac_rfl
theorem xQ:av ["row", "part", "number"] ["row"] (defScope EB):=by ac_rfl
theorem zG:av ["row", "spots", "cells", "word", "one", "other"] ["row", "spots", "cells"] (defScope NS):=by ac_rfl
theorem EH:av ["row", "spots", "cells", "spot"] ["row", "spots", "cells"] (defScope EC):=by ac_rfl
theorem EI:av ["row", "place", "spots", "kept"] ["row", "place", "spots", "kept"] (defScope su):=by ac_rfl
theorem IE:av ["row", "shut"] ["row", "shut"] (defScope xN):=by ac_rfl
theorem IF:av ["row", "kept"] ["row", "kept"] (defScope xO):=by ac_rfl
theorem EJ:av ["mill", "k"] ["mill", "k"] (defScope sv):=by ac_rfl
theorem IG:av ["mill", "state"] ["mill", "state"] (defScope xP):=by ac_rfl
theorem EK:av ["worths", "kind", "wrote", "at"] ["worths", "kind", "wrote"] (defScope ED):=by ac_rfl
theorem iV:av ["mill", "state", "place", "spots", "cells", "kept", "row", "wrote", "behind"] ["mill", "state"] (defScope EE):=by ac_rfl
theorem NT:av ["mill", "state", "k"] ["mill", "state", "k"] (defScope EF):=by ac_rfl
def bz:List (Str×wv):=[("put",["d", "worth"]),("sum",["d", "a", "b"]),("mul",["d", "a", "b"]),("less",["d", "a", "b"]),("take",["d", "a", "n"]),("lay",["b", "a", "n"]),("go",["a", "p"]),("shut",[]),("open",[]),("home",[])]
noncomputable def kT(x:Str):Option (List V):=(bz.lookup x).map fun ps=>ps.map V.str
theorem lookup_mem{α β:Type}[BEq α][LawfulBEq α]{a:α}{b:β}:∀{l:List (α×β)},l.lookup a=some b->(a,b)∈l
 | [],h=>by cases h
 | (x,y)::r,h=>by
  rw[abd]at h
  by_cases e:a == x
  ·rw[e]at h;cases h;rw[acq.mp e];exact aax ..
  ·rw[Bool.not_eq_true _ |>.mp e]at h;exact aaw _ (lookup_mem h)
structure Parts(K:zn)(w:World)(a:Addr):Prop where
 ex:∃ bO:List (Key×V),AN K w a bO/\(∀ x ps,bz.lookup x=some ps->∃ b,nh bO (Sum.inr x)=some (.ref b)/\∀ H,fg K H b (ps.map V.str))/\∀ x,bz.lookup x=none->nh bO (Sum.inr x)=none
theorem Parts.mt{K:zn}{a:Addr}(h:Parts K w a):ModT K w a kT:=by
 obtain⟨bO,h1,h2,_⟩:=h.ex;refine⟨bO,h1,fun x xs e=>?_⟩;unfold kT at e;cases q:bz.lookup x with
 | none=>rw[q]at e;cases e
 | some ps=>rw[q]at e;cases e;exact h2 x ps q
def dJ(ps:wv)(ns:wn):Option Int:=((ps.zip ns).find? fun p=>decide (p.1=("d":Str))).map (·.2)
def gI(xs:wn)(i:Int):Int:=xs.getD i.toNat 0
theorem dA{i:Int}(h0:0<=i)(h1:i < xs.length):gF (xs.map PyData.int) i=some (.int (gI xs i)):=by
 obtain⟨n,rfl⟩:∃ n:Nat,i=(n:Int):=⟨i.toNat,by omega⟩;refine aX ?_;have hn:n < xs.length:=by omega
 rw[aap,aas hn];unfold gI;simp[aau,hn]
theorem EL{i:Int}(h0:0<=i)(h1:i < xs.length):gI xs i∈xs:=by
 unfold gI;have hn:i.toNat < xs.length:=by omega
 rw[aau,aas hn];exact abA hn
abbrev sy:=Option (Str×Int×Int)
noncomputable def fL:sy->PyData
 | none=>.none
 | some (k,a,w)=>.tuple [.str k,.int a,.int w]
structure jl where
 place:Int
 aW:List Int
 cells:List Int
 gk:Bool
 kept:Option Int
variable {st:jl}
abbrev gb(s:jl):PyData:=stD s.place s.aW s.cells s.gk s.kept
abbrev jo(n:Nat)(s:jl):Prop:=We n s.place s.aW s.cells s.kept
noncomputable def NU(e:Int×sy):PyData:=.tuple [.int e.1,fL e.2]
def Rw.d?:Rw->Option Int
 | .put d _=>some d
 | .op _ d _ _=>some d
 | .mv x d _ _=>if x = "lay" then none else some d
 | _=>none
def Rw.gives(sp ce:wn):Rw->Int
 | .put _ v=>v
 | .op x _ a b=>if x = "sum" then(gI sp a+gI sp b) % 4294967296 else if x = "mul" then gI sp a * gI sp b % 4294967296 else if gI sp a < gI sp b then 1 else 0
 | .mv _ _ a n=>gI ce ((gI sp a+n) % 16)
 | _=>0
noncomputable def Rw.wrote(sp ce:wn):Rw->sy
 | .mv x d a n=>if x = "lay" then some ("cell",(gI sp a+n) % 16,gI sp d)else some ("spot",d,Rw.gives sp ce (.mv x d a n))
 | .put d v=>some ("spot",d,v)
 | .op x d a b=>some ("spot",d,Rw.gives sp ce (.op x d a b))
 | _=>none
noncomputable def hV(sp:wn)(place:Int)(kept:v0):Rw->Int
 | .go a p=>if gI sp a=0 then place+1 else p
 | .one x=>if x = "home" then kept.getD (place+1)else place+1
 | _=>place+1
def EN(gk:Bool):Rw->Bool
 | .one x=>decide (x = "shut")
 | _=>gk
def oB(kept:v0):Rw->Option Int
 | .one x=>if x = "home" then none else kept
 | _=>kept
noncomputable def eB(kind:Str)(ws:wn):sy->List Int
 | none=>ws
 | some (k,a,w)=>if k=kind then ws.set a.toNat w else ws
def rowOf(rows:List Rw)(place:Int):Rw:=rows.getD place.toNat (.one "home")
noncomputable def fm(r:Rw)(s:jl):jl:=⟨hV s.aW s.place s.kept r,eB "spot" s.aW (r.wrote s.aW s.cells),eB "cell" s.cells (r.wrote s.aW s.cells),EN s.gk r,oB s.kept r⟩
def zH(vg:wn)(k:Int)(s:jl):jl:=⟨gI vg k,s.aW,s.cells,true,some s.place⟩
theorem EO(n:Int):Wr (n % 4294967296):=⟨abP _ (by decide),abv _ (by decide)⟩
def zI:sy->Prop
 | none=>True
 | some (k,a,w)=>((k = "spot"/\0<=a/\a < 8)\/(k = "cell"/\0<=a/\a < 16))/\Wr w
theorem zJ(h:∀ z∈xs,Wr z)(i:Int):Wr (gI xs i):=by
 unfold gI;rw[aau];cases e:xs[i.toNat]? with
 | none=>exact⟨by decide,by decide⟩
 | some z=>exact h z (aa0 e)
theorem j8{r:Rw}{m:Int}{sp ce:wn}(ok:iE m r)(ws:∀ z∈sp,Wr z)(wc:∀ z∈ce,Wr z):zI (r.wrote sp ce):=by
 cases r with
 | put d n=>exact⟨.inl ⟨rfl,ok.1⟩,ok.2⟩
 | op x d a b =>
  refine⟨.inl ⟨rfl,ok.2.1⟩,?_⟩;show Wr (if x = "sum" then(gI sp a+gI sp b) % 4294967296 else if x = "mul" then gI sp a * gI sp b % 4294967296 else if gI sp a < gI sp b then 1 else 0);split
  ·exact EO _
  split
  ·exact EO _
  split
  ·exact⟨by decide,by decide⟩
  ·exact⟨by decide,by decide⟩
 | mv x d a n =>
  show zI (if x = "lay" then some ("cell",(gI sp a+n) % 16,gI sp d)else some ("spot",d,gI ce ((gI sp a+n) % 16)));split
  ·exact⟨.inr ⟨rfl,abP _ (by decide),abv _ (by decide)⟩,zJ ws _⟩
  ·exact⟨.inl ⟨rfl,ok.2.1⟩,zJ wc _⟩
 | go a p=>trivial
 | one x=>trivial
theorem qB(k:Str)(ws:wn)(w:sy):(eB k ws w).length=ws.length:=by
 unfold eB;split
 ·rfl
 ·split
  ·rw[adW]
  ·rfl
theorem vh{k:Str}{w:sy}(h:∀ z∈ws,Wr z)(ok:zI w):∀ z∈eB k ws w,Wr z:=by
 unfold eB;split
 ·exact h
 ·split
  ·intro z hz;rcases adC hz with hz | hz
   ·exact h z hz
   ·rw[hz];exact ok.2
  ·exact h
theorem gN{bs:wn}(h:sq rs bs){place:Int}(h0:0<=place)(h1:place < rs.length):gF (rs.map bX) place=some (bX (rowOf rs place))/\iE rs.length (rowOf rs place):=by
 have gh:place.toNat < rs.length:=by omega
 have e:rs[place.toNat]?=some rs[place.toNat]:=aas gh;have e2:rowOf rs place=rs[place.toNat]:=by unfold rowOf;rw[aau,e];rfl
 rw[e2];refine⟨?_,h.rok _ (abA gh)⟩;have ha:gF (rs.map bX) ((place.toNat:Nat):Int)=some (bX rs[place.toNat]):=aX (by rw[aap,e];rfl);rw[show((place.toNat:Nat):Int)=place by omega]at ha;exact ha
theorem zK{s:jl}{r:Rw}(h:jo n s)(hp:s.place < n)(ok:iE n r):jo n (fm r s):=by
 have NV:=j8 ok h.sw h.cw;refine⟨?_,?_,by show(eB _ _ _).length=8;rw[qB];exact h.s8,vh h.sw NV,by show(eB _ _ _).length=16;rw[qB];exact h.O1,vh h.cw NV,?_⟩
 ·show 0<=hV s.aW s.place s.kept r;have:=h.p0;unfold hV;split
  ·split
   ·omega
   ·exact ok.2.1
  ·split
   ·cases e:s.kept with
    | none=>show 0<=s.place+1;omega
    | some k=>exact(h.kb k e).1
   ·omega
  ·omega
 ·show hV s.aW s.place s.kept r<=n;unfold hV;split
  ·split
   ·omega
   ·exact ok.2.2
  ·split
   ·cases e:s.kept with
    | none=>show s.place+1<=n;omega
    | some k=>exact(h.kb k e).2
   ·omega
  ·omega
 ·intro k e;have e:oB s.kept r=some k:=e;unfold oB at e;split at e
  ·split at e
   ·cases e
   ·exact h.kb k e
  ·exact h.kb k e
theorem IH{s:jl}{vg:wn}(h:jo n s)(hb:∀ b∈vg,0<=b/\b<=(n:Int))(k0:0<=k)(k1:k < vg.length):jo n (zH vg k s) :=
 ⟨(hb _ (EL k0 k1)).1,(hb _ (EL k0 k1)).2,h.s8,h.sw,h.O1,h.cw,fun j e=>by cases e;exact⟨h.p0,h.p1⟩⟩
def KD:jj:=fun ds R _=>∃ i:Int,ds=[.int i]/\R (.im (.int (i % 4294967296)))
def sA:jj:=fun ds R _=>∃ a n:Int,ds=[.int a,.int n]/\R (.im (.int ((a+n) % 16)))
def zL:jj:=fun ds R _=>∃(x:Str) (ps:wv) (ns:wn),ds=[.tuple (.str x::ns.map .int)]/\bz.lookup x=some ps/\R (.im (xI (dJ ps ns)))
def bY(xs:wn):PyData:=.tuple (xs.map .int)
def RY:jj:=fun ds R _=>∃(r:Rw) (m:Int) (sp ce:wn),ds=[bX r,bY sp,bY ce]/\iE m r/\sp.length=8/\ce.length=16/\(∀ z∈sp,Wr z)/\r.d?.isSome=true/\R (.im (.int (r.gives sp ce)))
noncomputable def KH:jj:=fun ds R _=>∃(r:Rw) (m:Int) (sp ce:wn),ds=[bX r,bY sp,bY ce]/\iE m r/\sp.length=8/\ce.length=16/\(∀ z∈sp,Wr z)/\R (.im (fL (r.wrote sp ce)))
noncomputable def zM:jj:=fun ds R _=>∃(r:Rw) (m place:Int) (sp:wn) (kept:v0),ds=[bX r,.int place,bY sp,xI kept]/\iE m r/\sp.length=8/\R (.im (.int (hV sp place kept r)))
def ER:jj:=fun ds R _=>∃(r:Rw) (m:Int) (gk:Bool),ds=[bX r,.bool gk]/\iE m r/\R (.im (.bool (EN gk r)))
def ES:jj:=fun ds R _=>∃(r:Rw) (m:Int) (kept:v0),ds=[bX r,xI kept]/\iE m r/\R (.im (xI (oB kept r)))
def zN:jj:=fun ds R _=>∃(rs:List Rw) (bs:wn) (k:Int),ds=[dS rs bs,.int k]/\R (.im (.bool (decide (0<=k)&&decide (k < bs.length))))
def sC:jj:=fun ds R _=>∃(rs:List Rw) (bs:wn) (pl:Int) (r:wE),ds=[dS rs bs,.tuple (.int pl::r)]/\R (.im (.bool (decide (pl=rs.length))))
noncomputable def KI:jj:=fun ds R _=>∃(ws:wn) (kind:Str) (wr:sy),ds=[bY ws,.str kind,fL wr]/\2<=ws.length/\ws.length<=16/\(∀ a w,wr=some (kind,a,w)->0<=a/\a < ws.length)/\R (.im (bY (eB kind ws wr)))
noncomputable def SStep(aR:Addr):jj:=fun ds R X=>∃(rs:List Rw) (bs:wn) (s:jl),ds=[dS rs bs,gb s]/\sq rs bs/\jo rs.length s /\
 (s.place < rs.length->R (.im (.tuple [gb (fm (rowOf rs s.place) s),NU (s.place,(rowOf rs s.place).wrote s.aW s.cells)])))/\(s.place=rs.length->X aR)
def ET(aN aS:Addr):jj:=fun ds R X=>∃(rs:List Rw) (bs:wn) (s:jl) (k:Int),ds=[dS rs bs,gb s,.int k] /\
 (0<=k/\k < bs.length->s.gk=false->R (.im (gb (zH bs k s))))/\(¬ (0<=k/\k < bs.length)->X aN)/\(0<=k/\k < bs.length->s.gk=true->X aS)
theorem EU{x:PyData}{xs:wE}(h:Q (.im (.tuple xs)) W):HK (.im (.tuple (x::xs))) (some 1) none W Q:=by
 have e:HT.dN (x::xs).length 0 (some 1)=1:=by
  rw[show(some 1:v0)=some ((1:Nat):Int) from rfl,HT.my];show min 1 (xs.length+1)=1;omega
 refine⟨_,rfl,fun h=>by rw[e]at h;exact absurd h.1 (by decide),?_⟩;have e2:cutD (x::xs) (some 1) none=xs:=by
  unfold cutD;rw[e];show((x::xs).drop 1).take ((x::xs).length - 1)=_;rw[List.drop_one,List.tail_cons,aaV,Nat.add_sub_cancel,abe]
 rw[e2];exact h
theorem NW(h0:0<=k)(h1:k < ws.length)(h:Q (.im (bY (ws.take k.toNat))) W):HK (.im (bY ws)) none (some k) W Q:=by
 have e:HT.dN (ws.map PyData.int).length (ws.map PyData.int).length (some k)=k.toNat:=by
  have ek:k=((k.toNat:Nat):Int):=by omega
  rw[ek,HT.my,aal];simp only[aaB];omega
 refine⟨_,rfl,fun h=>by rw[e,aal]at h;omega,?_⟩;have e2:cutD (ws.map PyData.int) none (some k)=(ws.take k.toNat).map .int:=by
  unfold cutD;rw[e,HT.nr,List.drop_zero,Nat.sub_zero,ack]
 rw[e2];exact h
theorem EV(h0:0 < k)(h1:k<=ws.length)(h:Q (.im (bY (ws.drop k.toNat))) W):HK (.im (bY ws)) (some k) none W Q:=by
 have e:HT.dN (ws.map PyData.int).length 0 (some k)=k.toNat:=by
  have ek:k=((k.toNat:Nat):Int):=by omega
  rw[ek,HT.my,aal];simp only[aaB];omega
 refine⟨_,rfl,fun h=>by rw[e]at h;omega,?_⟩;have e2:cutD (ws.map PyData.int) (some k) none=(ws.drop k.toNat).map .int:=by
  unfold cutD;rw[e,HT.nr,acm];exact abp (by rw[abZ];exact aar _)
 rw[e2];exact h
theorem II{k:Nat}{x:Int}(h:k < ws.length):ws.take k++[x]++ws.drop (k+1)=ws.set k x:=by
 rw[List.set_eq_take_append_cons_drop,aaN h,abW];rfl
theorem vi{a b:Str}:decide (a=b)=decide (b=a):=ade.mpr eq_comm
theorem iz(h0:0<=k)(h1:k < ws.length)(h:Q (.im (.int (gI ws k))) W):MH (.im (bY ws)) (.im (.int k)) W Q:=cn (dA h0 h1) h
section
variable {K:zn}
theorem xR{tk:Tok}(F:cL K "wrapped" "wrapped" oA f fd)(oC:mg "WORTHS"=some (.int 4294967296 tk)):ba P w K mg base cU 1 f fd ["number"] (df KD):=by
 refine F.nT Br (by nofun) fun bC A outer s H E hr=>?_;refine⟨_,(ai (ay (aT eV (ah 0) (JN oC)))),?_⟩;symm;refine fun O X=>⟨_,inferInstance,?_⟩;rintro ds R ⟨i,rfl,q⟩
 rfl'
 exact q
theorem Bs{tk:Tok}(F:cL K "cell_at" "cell_at" sr f fd)(sD:mg "CELLS"=some (.int 16 tk)):ba P w K mg base cU 1 f fd ["worth", "n"] (df sA):=by
 refine F.nT EG (by nofun) fun bC A outer s H E hr=>?_;refine⟨_,(ai (ay (aT eV (aT aV (ah 0) (ah 1)) (JN sD)))),?_⟩;symm;refine fun O X=>⟨_,inferInstance,?_⟩;rintro ds R ⟨a,n,rfl,q⟩
 rfl'
 exact q
theorem IJ{aP:Addr}(F:cL K "spot_written" "spot_written" EB f fd)(jc:mg "PARTS"=some (.ref aP))(hP:ModT K w aP kT)(qC:mg "zip"=none):ba P w K mg base cU 1 f fd ["row"] (df zL):=by
 exact_mod_cast F.nT xQ (by nofun);refine⟨_,(ae (gn (JM .T .T qC (aa (RH jc hP (ao (ah 0) af)) (aa (nH rj (ah 0) (fQ af) fO) ag))) (fY (n:=2) (bo (aO 1 xQ.nd) (bo (aO 2 xQ.nd) fN))) (ai (bj (aG (aI hu) (ah 1) aJ) (ai (ay (ah 2))) aC)))
  (ai (ay fh))),?_⟩
 push_cast;rintro ds R ⟨x,ps,ns,rfl,hx,q⟩;refine cR [_,none,none] rfl ?_;refine ax ?_
 rfl'
 refine cn (D:=.str x) (aX (j:=0) rfl) ?_;refine⟨x,_,rfl,by unfold kT;rw[hx];rfl,?_⟩
 rfl'
 refine EU ?_
 rfl'
 have fl:(ps.map V.str).all dq=true:=by rw[List.all_map];exact abz.mpr fun _ _=>rfl
 refine Kn (ds:=ps.map .str) (es:=ns.map .int) (by show jO (.cst _)=_;simp only[jO,fl,acW,ach];rfl) rfl ?_;refine zq (fun i ρ W=>∃ u v,ρ=[some (.im (.tuple (.str x::ns.map .int))),u,v]/\((ps.zip ns).take i).find? (fun p=>decide (p.1=("d":Str)))=none) ⟨_,_,rfl,rfl⟩ (fun _ _ _ _=>⟨trivial,trivial⟩) ?_ ?_
 ·rintro i a d ρ W ha hd ⟨u,v,rfl,h4⟩;rw[aap]at ha hd;obtain⟨pz,RZ,rfl⟩:=aaH.mp ha;obtain⟨nz,TV,rfl⟩:=aaH.mp hd;have hz:(ps.zip ns)[i]?=some (pz,nz):=aby.mpr ⟨RZ,TV⟩
  rfl'
  refine gj (fun c1=>?_) (fun c1=>?_)
  ·rfl'
   have e:dJ ps ns=some nz:=by
    unfold dJ;have h5:((ps.zip ns).take (i+1)).find? (fun p=>decide (p.1=("d":Str)))=some (pz,nz):=by
     rw[aaT,hz,adL,h4,Option.none_or];show(List.find? _ [(pz,nz)])=_;rw[acu,show decide (((pz,nz):Str×Int).1=("d":Str))=true from aaM c1]
    rw[<- abQ (i+1) (ps.zip ns),adL,h5]
    rfl
   rw[e]at q;exact q
  ·rfl'
   refine⟨_,_,rfl,?_⟩;rw[aaT,hz,adL,h4,Option.none_or];show(List.find? _ [(pz,nz)])=_;rw[acu,show decide (((pz,nz):Str×Int).1=("d":Str))=false from aaF c1]
   rfl
 ·rintro ρ W ⟨u,v,rfl,h4⟩
  rfl'
  have e:dJ ps ns=none:=by
   unfold dJ;rw[abp (by rw[ad0,aal,aal];exact aar _)]at h4;rw[h4]
   rfl
  rw[e]at q;exact q
theorem NY{fW fC:Addr}{Wi:wT}(F:cL K "worth_got" "worth_got" NS f fd)(vj:Dn P w K mg base 1 "wrapped" fW R4 ["number"] (df KD))(oE:Dn P w K mg base 1 "cell_at" fC Wi ["worth", "n"] (df sA)):ba P w K mg base cU 2 f fd ["row", "spots", "cells"] (df RY):=by
 exact_mod_cast F.nT zG (by nofun);refine⟨_,(ae (aA 3 zG.nd (ao (ah 0) af))
  (ae (bj (aG (aI hu) (ah 3) aJ) (ai (ay (ao (ah 0) af))) aC)
  (ae (aA 4 zG.nd (ao (ah 1) (ao (ah 0) af)))
  (ae (bj (aG (aI hu) (ah 3) aJ) (ai (ay (ao (ah 2) (ar oE hr (aa (ah 4) (aa (ao (ah 0) af) ag)))))) aC)
  (ae (aA 5 zG.nd (ao (ah 1) (ao (ah 0) af)))
  (ae (bj (aG (aI hu) (ah 3) aJ) (ai (ay (ar vj hr (aa (aT aV (ah 4) (ah 5)) ag)))) aC)
  (ae (bj (aG (aI hu) (ah 3) aJ) (ai (ay (ar vj hr (aa (aT js (ah 4) (ah 5)) ag)))) aC)
  (ai (ay (rJ (aG lE (ah 4) (ah 5)) af af)))))))))),?_⟩
 push_cast;rintro ds R ⟨r,m,sp,ce,rfl,ok,l8,O2,sw,hd,q⟩;refine cR [_,_,_,none,none,none] rfl ?_;cases r with
 | put d v =>
  dsimp only[bX];array_get_dec;refine ax ?_;array_get_dec;exact q
 | op x d a b =>
  obtain⟨hx,o1,o2,o3⟩:=ok;dsimp only[bX];array_get_dec;refine ax ?_;have ra:=zJ sw a;have ra0:=ra.1;have ra1:=ra.2;rcases hx with rfl | rfl | rfl
  ·array_get_dec;refine iz o2.1 (by have:=o2.2;omega) ?_;array_get_dec;refine ax ?_;array_get_dec;refine iz o3.1 (by have:=o3.2;omega) ?_;array_get_dec;refine ax ?_;array_get_dec;exact aY (ds:=[.int _]) ⟨_,rfl,q⟩
  ·array_get_dec;refine iz o2.1 (by have:=o2.2;omega) ?_;array_get_dec;refine ax ?_;array_get_dec;refine iz o3.1 (by have:=o3.2;omega) ?_;array_get_dec;refine ax ?_;array_get_dec;refine ax ?_;array_get_dec;exact aY (ds:=[.int _]) ⟨_,rfl,q⟩
  ·array_get_dec;refine iz o2.1 (by have:=o2.2;omega) ?_;array_get_dec;refine ax ?_;array_get_dec;refine iz o3.1 (by have:=o3.2;omega) ?_;array_get_dec;refine ax ?_;array_get_dec;refine ax ?_;array_get_dec;have q':R (.im (.int (if gI sp a < gI sp b then 1 else 0))):=q;refine gj (fun h=>?_) (fun h=>?_)
   ·rw[aaN h]at q';array_get_dec;exact q'
   ·rw[aaD h]at q';array_get_dec;exact q'
 | mv x d a n =>
  obtain⟨hx,o1,o2,o3⟩:=ok;have Wj:x = "take":=by
   rcases hx with h | h
   ·exact h
   ·subst h;cases hd
  subst Wj;dsimp only[bX];array_get_dec;refine ax ?_;array_get_dec;refine iz o2.1 (by have:=o2.2;omega) ?_;array_get_dec;refine ax ?_;array_get_dec;refine aY (ds:=[.int _,.int _]) ⟨_,_,rfl,?_⟩;array_get_dec;refine iz (abP _ (by decide)) (by rw[O2];exact abv _ (by decide)) ?_;exact q
 | go a p=>cases hd
 | one x=>cases hd
theorem IK{fC fS fG:Addr}{Wi Wk fdG:wT}(F:cL K "what_it_writes" "what_it_writes" EC f fd)(oE:Dn P w K mg base 1 "cell_at" fC Wi ["worth", "n"] (df sA))(gB:Dn P w K mg base 1 "spot_written" fS Wk ["row"] (df zL))(xS:Dn P w K mg base 2 "worth_got" fG fdG ["row", "spots", "cells"] (df RY)):ba P w K mg base cU 3 f fd ["row", "spots", "cells"] (df KH):=by
 exact_mod_cast F.nT EH (by nofun);refine⟨_,(ae (bj (aG (aI hu) (ao (ah 0) af) aJ) (ai (ay (bg (aa aJ (aa (ar oE hr (aa (ao (ah 1) (ao (ah 0) af)) (aa (ao (ah 0) af) ag))) (aa (ao (ah 1) (ao (ah 0) af)) ag)))))) aC)
  (ae (aA 3 EH.nd (ar gB hr (aa (ah 0) ag)))
  (ae (bj (jK (ah 3)) (ai (ay fh)) aC)
  (ai (ay (bg (aa aJ (aa (ah 3) (aa (ar xS hr (aa (ah 0) (aa (ah 1) (aa (ah 2) ag)))) ag))))))))),?_⟩
 push_cast;rintro ds R ⟨r,m,sp,ce,rfl,ok,l8,O2,sw,q⟩;refine cR [_,_,_,none] rfl ?_;have hg:=ok;cases r with
 | put d v =>
  refine ax ?_;dsimp only[bX];array_get_dec;refine aY (ds:=[.tuple [.str "put",.int d,.int v]]) ⟨"put",["d", "worth"],[d,v],rfl,rfl,?_⟩;show jk _ _ (.im (.int d));array_get_dec;refine ax ?_;array_get_dec;refine yW ?_;array_get_dec;refine aY (ds:=[bX (.put d v),bY sp,bY ce]) ⟨.put d v,m,sp,ce,rfl,hg,l8,O2,sw,rfl,?_⟩;array_get_dec;exact aB (ds:=[.str "spot",.int d,.int _]) (by show 3<=sizeLine;decide) q
 | op x d a b =>
  refine ax ?_;dsimp only[bX];have hw:∃ ps,bz.lookup x=some ps/\dJ ps [d,a,b]=some d:=by
   rcases hg.1 with rfl | rfl | rfl
   ·exact⟨_,rfl,rfl⟩
   ·exact⟨_,rfl,rfl⟩
   ·exact⟨_,rfl,rfl⟩
  obtain⟨ps,YT,Tx⟩:=hw;have nl:¬ (x = "lay"):=by rcases hg.1 with rfl | rfl | rfl<;>decide +kernel
  array_get_dec;refine aY (ds:=[.tuple [.str x,.int d,.int a,.int b]]) ⟨x,ps,[d,a,b],rfl,YT,?_⟩;rw[Tx];show jk _ _ (.im (.int d));array_get_dec;refine ax ?_;array_get_dec;refine yW ?_;array_get_dec;refine aY (ds:=[bX (.op x d a b),bY sp,bY ce]) ⟨.op x d a b,m,sp,ce,rfl,hg,l8,O2,sw,rfl,?_⟩;array_get_dec;exact aB (ds:=[.str "spot",.int d,.int _]) (by show 3<=sizeLine;decide) q
 | mv x d a n =>
  obtain⟨hx,o1,o2,o3⟩:=ok;refine ax ?_;dsimp only[bX];rcases hx with rfl | rfl
  ·array_get_dec;refine aY (ds:=[.tuple [.str "take",.int d,.int a,.int n]]) ⟨"take",_,[d,a,n],rfl,rfl,?_⟩;show jk _ _ (.im (.int d));array_get_dec;refine ax ?_;array_get_dec;refine yW ?_;array_get_dec;refine aY (ds:=[bX (.mv "take" d a n),bY sp,bY ce]) ⟨.mv "take" d a n,m,sp,ce,rfl,hg,l8,O2,sw,rfl,?_⟩;array_get_dec;exact aB (ds:=[.str "spot",.int d,.int _]) (by show 3<=sizeLine;decide) q
  ·array_get_dec;refine iz o2.1 (by have:=o2.2;omega) ?_;array_get_dec;refine aY (ds:=[.int _,.int _]) ⟨_,_,rfl,?_⟩;array_get_dec;refine iz o1.1 (by have:=o1.2;omega) ?_;array_get_dec;exact aB (ds:=[.str "cell",.int _,.int _]) (by show 3<=sizeLine;decide) q
 | go a p =>
  refine ax ?_;dsimp only[bX];array_get_dec;refine aY (ds:=[.tuple [.str "go",.int a,.int p]]) ⟨"go",_,[a,p],rfl,rfl,?_⟩;show jk _ _ (.im .none);array_get_dec;refine ax ?_;array_get_dec;refine Gz ?_;array_get_dec;exact q
 | one x =>
  refine ax ?_;dsimp only[bX];rcases (show x = "shut"\/x = "open"\/x = "home" from ok)with rfl | rfl | rfl
  all_goals
   array_get_dec
   refine aY (ds:=[.tuple [.str _]]) ⟨_,_,[],rfl,rfl,?_⟩
   show jk _ _ (.im .none)
   array_get_dec
   refine ax ?_
   array_get_dec
   refine Gz ?_
   array_get_dec
   exact q
theorem EW(F:cL K "place_behind" "place_behind" su f fd):ba P w K mg base cU 1 f fd ["row", "place", "spots", "kept"] (df zM):=by
 exact_mod_cast F.nT EI (by nofun);refine⟨_,(ae (bj (rH (w_and (aG (aI hu) (ao (ah 0) af) aJ) (dR (aG (fc hu) (ao (ah 2) (ao (ah 0) af)) af)))) (ai (ay (ao (ah 0) af))) aC)
  (ae (bj (rH (w_and (aG (aI hu) (ao (ah 0) af) aJ) (dR (rG (ah 3))))) (ai (ay (ah 3))) aC)
  (ai (ay (aT aV (ah 1) af))))),?_⟩
 push_cast;rintro ds R ⟨r,m,place,sp,kept,rfl,ok,l8,q⟩;refine ax ?_;cases r with
 | put d v =>
  dsimp only[bX];array_get_dec;refine ax ?_;array_get_dec;exact q
 | op x d a b =>
  dsimp only[bX];rcases ok.1 with rfl | rfl | rfl
  all_goals
   array_get_dec
   refine ax ?_
   array_get_dec
   exact q
 | mv x d a n =>
  dsimp only[bX];rcases ok.1 with rfl | rfl
  all_goals
   array_get_dec
   refine ax ?_
   array_get_dec
   exact q
 | go a p =>
  obtain⟨o1,o2⟩:=ok;dsimp only[bX];array_get_dec;refine iz o1.1 (by have:=o1.2;omega) ?_;have q':R (.im (.int (if gI sp a=0 then place+1 else p))):=q;array_get_dec;refine HA (fun h=>?_) (fun h=>?_)
  ·rw[aaD h]at q';array_get_dec;exact q'
  ·rw[aaN h]at q';array_get_dec;refine ax ?_;array_get_dec;exact q'
 | one x =>
  dsimp only[bX];rcases (show x = "shut"\/x = "open"\/x = "home" from ok)with rfl | rfl | rfl
  ·array_get_dec;refine ax ?_;array_get_dec;exact q
  ·array_get_dec;refine ax ?_;array_get_dec;exact q
  ·cases kept with
   | none =>
    array_get_dec;refine ax ?_;array_get_dec;refine yW ?_;array_get_dec;exact q
   | some k =>
    array_get_dec;refine ax ?_;array_get_dec;refine Gz ?_;array_get_dec;exact q
theorem EX(F:cL K "is_shut_behind" "is_shut_behind" xN f fd):ba P w K mg base cU 1 f fd ["row", "shut"] (df ER):=by
 exact_mod_cast F.nT IE (by nofun);refine⟨_,(ae (bj (aG (aI hu) (ao (ah 0) af) aJ) (ai (ay AS)) aC)
  (ae (bj (Dj (nS hu) (ao (ah 0) af) (bg (gH rfl))) (ai (ay AS)) aC)
  (ai (ay (ah 1))))),?_⟩
 push_cast;rintro ds R ⟨r,m,gk,rfl,ok,q⟩;have two:∀{W:Wd} {Q:DK} {x:Str},Q (.im (.bool (decide (x = "open")||decide (x = "home")))) W->DE false (.im (.str x)) (.im (.tuple [.str "open",.str "home"])) W Q:=fun{W Q x} h=>by
  refine⟨.str x,[.str "open",.str "home"],rfl,rfl,.inl ⟨rfl,rfl⟩,?_⟩;have e:(List.any [PyData.str "open",.str "home"] fun d=>PyData.eqv d (.str x))=(decide (x = "open")||decide (x = "home")):=by
   show(PyData.eqv (.str "open") (.str x)||(PyData.eqv (.str "home") (.str x)||false))=_;rw[jR,jR,Bool.or_false,vi,vi (b:=x)]
  rw[aaD (by decide),e];exact h
 refine ax ?_;cases r with
 | put d v =>
  dsimp only[bX];array_get_dec;refine ax ?_;array_get_dec;refine aB (ds:=[.str "open",.str "home"]) (by show 2<=sizeLine;decide) (two ?_)
  rfl'
  refine yW ?_;array_get_dec;exact q
 | op x d a b =>
  dsimp only[bX];rcases ok.1 with rfl | rfl | rfl
  all_goals
   array_get_dec
   refine ax ?_
   array_get_dec
   refine aB (ds:=[.str "open",.str "home"]) (by show 2<=sizeLine;decide) (two ?_)
   rfl'
   refine yW ?_
   array_get_dec
   exact q
 | mv x d a n =>
  dsimp only[bX];rcases ok.1 with rfl | rfl
  all_goals
   array_get_dec
   refine ax ?_
   array_get_dec
   refine aB (ds:=[.str "open",.str "home"]) (by show 2<=sizeLine;decide) (two ?_)
   rfl'
   refine yW ?_
   array_get_dec
   exact q
 | go a p =>
  dsimp only[bX];array_get_dec;refine ax ?_;array_get_dec;refine aB (ds:=[.str "open",.str "home"]) (by show 2<=sizeLine;decide) (two ?_)
  rfl'
  refine yW ?_;array_get_dec;exact q
 | one x =>
  dsimp only[bX];rcases (show x = "shut"\/x = "open"\/x = "home" from ok)with rfl | rfl | rfl
  ·array_get_dec;exact q
  all_goals
   array_get_dec
   refine ax ?_
   array_get_dec
   refine aB (ds:=[.str "open",.str "home"]) (by show 2<=sizeLine;decide) (two ?_)
   rfl'
   refine Gz ?_
   array_get_dec
   exact q
theorem EY(F:cL K "kept_behind" "kept_behind" xO f fd):ba P w K mg base cU 1 f fd ["row", "kept"] (df ES):=by
 exact_mod_cast F.nT IF (by nofun);refine⟨_,(ai (ay (rJ (aG (aI hu) (ao (ah 0) af) aJ) fh (ah 1)))),?_⟩;push_cast;rintro ds R ⟨r,m,kept,rfl,ok,q⟩;cases r with
 | put d v =>
  dsimp only[bX];array_get_dec;exact q
 | op x d a b =>
  dsimp only[bX];rcases ok.1 with rfl | rfl | rfl
  all_goals
   array_get_dec
   exact q
 | mv x d a n =>
  dsimp only[bX];rcases ok.1 with rfl | rfl
  all_goals
   array_get_dec
   exact q
 | go a p =>
  dsimp only[bX];array_get_dec;exact q
 | one x =>
  dsimp only[bX];rcases (show x = "shut"\/x = "open"\/x = "home" from ok)with rfl | rfl | rfl
  all_goals
   array_get_dec
   exact q
theorem Bt(F:cL K "is_bell" "is_bell" sv f fd)(bu:mg "len"=none):ba P w K mg base cU 1 f fd ["mill", "k"] (df zN):=by
 exact_mod_cast F.nT EJ (by nofun);refine⟨_,(ai (ay (Ho JB lE af (ah 1) (bD bq bu aa3 (aa (ao (ah 0) af) ag))))),?_⟩;push_cast;rintro ds R ⟨rs,bs,k,rfl,q⟩
 rfl'
 by_cases h:(0:Int)<=k
 ·rw[aaM h]at q ⊢;refine Gz ?_
  rfl'
  refine cn (D:=.tuple (bs.map .int)) rfl ?_
  rfl'
  rw[aal];exact q
 ·rw[aaF h]at q ⊢;refine yW ?_;exact q
theorem EZ(F:cL K "rests" "rests" xP f fd)(bu:mg "len"=none):ba P w K mg base cU 1 f fd ["mill", "state"] (df sC):=by
 exact_mod_cast F.nT IG (by nofun);refine⟨_,(ai (ay (jJ (aI hu) (ao (ah 1) af) (bD bq bu aa3 (aa (ao (ah 0) af) ag))))),?_⟩;push_cast;rintro ds R ⟨rs,bs,pl,r,rfl,q⟩
 rfl'
 refine cn (D:=.int pl) (Nq (k:=0) (by decide) (by simp)) ?_
 rfl'
 refine cn (D:=.tuple (rs.map bX)) rfl ?_
 rfl'
 rw[aal];exact q
theorem IL(F:cL K "with_written" "with_written" ED f fd):ba P w K mg base cU 1 f fd ["worths", "kind", "wrote"] (df KI):=by
 exact_mod_cast F.nT EK (by nofun);refine⟨_,(ae (bj (rH (w_or (jK (ah 2)) (yU (aG (fc hu) (ao (ah 2) af) (ah 1))))) (ai (ay (ah 0))) aC)
  (ae (aA 3 EK.nd (ao (ah 2) af))
  (ai (ay (aT uA (aT uA (nH rj (ah 0) fO (fQ (ah 3))) (bg (aa (ao (ah 2) af) ag))) (nH rj (ah 0) (fQ (aT aV (ah 3) af)) fO)))))),?_⟩
 push_cast;rintro ds R ⟨ws,kind,wr,rfl,l2,O2,zO,q⟩;refine cR [_,_,_,none] rfl ?_;refine ax ?_;cases wr with
 | none =>
  rfl'
  refine Gz ?_
  rfl'
  exact q
 | some t =>
  obtain⟨k,a,x⟩:=t;dsimp only[fL]
  rfl'
  refine yW ?_
  rfl'
  refine cn (D:=.str k) rfl ?_
  rfl'
  have q':R (.im (bY (if k=kind then ws.set a.toNat x else ws))):=q;refine HA (fun h=>?_) (fun h=>?_)
  ·rfl'
   rw[aaD h]at q';exact q'
  ·subst h;rw[aaN rfl]at q';obtain⟨a0,a1⟩:=zO a x rfl
   rfl'
   refine cn (D:=.int a) rfl ?_
   rfl'
   refine NW a0 a1 ?_
   rfl'
   refine cn (D:=.int x) rfl ?_
   rfl'
   refine aB (ds:=[.int x]) (by show 1<=sizeLine;decide) ?_;refine⟨_,_,rfl,rfl,aaJ (bb (by simp only[aal,aa8,aaV,acR];omega)),?_⟩
   rfl'
   refine EV (by omega) (by omega) ?_;refine⟨_,_,rfl,rfl,aaJ (bb (by simp only[aaP,aal,aa8,abZ,aaV,acR];omega)),?_⟩;have e:(ws.take a.toNat).map PyData.int++[PyData.int x]++(ws.drop (a+1).toNat).map PyData.int=(ws.set a.toNat x).map .int:=by
    rw[<- II (ws:=ws) (k:=a.toNat) (x:=x) (by omega),show(a+1).toNat=a.toNat+1 by omega];simp only[aaU,aaZ,List.map_nil]
   rw[e];exact q'
theorem IM(Bu:rN K aR)(kU:mg "Resting"=some (.ref aR)){fR fH fP fW fS fK:Addr}{Wl fdH fdP Wk fdK:wT}(F:cL K "step" "step" EE f fd)(xT:Dn P w K mg base 1 "rests" fR Wl ["mill", "state"] (df sC))(l5:Dn P w K mg base 3 "what_it_writes" fH fdH ["row", "spots", "cells"] (df KH))(pM:Dn P w K mg base 1 "place_behind" fP fdP ["row", "place", "spots", "kept"] (df zM))(jq:Dn P w K mg base 1 "with_written" fW R4 ["worths", "kind", "wrote"] (df KI))(l6:Dn P w K mg base 1 "is_shut_behind" fS Wk ["row", "shut"] (df ER))(sE:Dn P w K mg base 1 "kept_behind" fK fdK ["row", "kept"] (df ES)) :
  ba P w K mg base (vY P w) 4 f fd ["mill", "state"] (df (SStep aR)):=by
 exact_mod_cast F.QW iV (by nofun);refine⟨_,(ae (bj (tS (ar xT hr (aa (ah 0) (aa (ah 1) ag)))) (ai (rO Bu kU (aa aJ ag))) aC)
  (ae (aA 2 iV.nd (ao (ah 1) af))
  (ae (aA 3 iV.nd (ao (ah 1) af))
  (ae (aA 4 iV.nd (ao (ah 1) af))
  (ae (aA 5 iV.nd (ao (ah 1) af))
  (ae (aA 6 iV.nd (ao (ao (ah 0) af) (ah 2)))
  (ae (aA 7 iV.nd (ar l5 hr (aa (ah 6) (aa (ah 3) (aa (ah 4) ag)))))
  (ae (aA 8 iV.nd (bg (aa (ar pM hr (aa (ah 6) (aa (ah 2) (aa (ah 3) (aa (ah 5) ag))))) (aa (ar jq hr (aa (ah 3) (aa aJ (aa (ah 7) ag)))) (aa (ar jq hr (aa (ah 4) (aa aJ (aa (ah 7) ag)))) (aa (ar l6 hr (aa (ah 6) (aa (ao (ah 1) af) ag))) (aa (ar sE hr (aa (ah 6) (aa (ah 5) ag))) ag)))))))
  (ai (ay (bg (aa (ah 8) (aa (bg (aa (ah 2) (aa (ah 7) ag))) ag))))))))))))),?_⟩
 push_cast;rintro ds R ⟨rs,bs,st,rfl,Wm,zP,q,qX⟩;refine cR [_,_,none,none,none,none,none,none,none] rfl ?_;refine ax ?_
 rfl'
 refine aY (ds:=[dS rs bs,gb st]) ⟨rs,bs,st.place,_,rfl,?_⟩
 rfl'
 refine gj (fun h=>?_) (fun h=>?_)
 ·rfl'
  exact⟨by show 1<=sizeLine;decide,qX h⟩
 have hp:st.place < rs.length:=by have:=zP.p1;omega
 replace q:=q hp;obtain⟨er,zQ⟩:=gN Wm zP.p0 hp;generalize rowOf rs st.place=r at er zQ q;have NV:=j8 zQ zP.sw zP.cw
 rfl'
 refine cn (D:=.int st.place) rfl ?_
 rfl'
 refine cn (D:=bY st.aW) rfl ?_
 rfl'
 refine cn (D:=bY st.cells) rfl ?_
 rfl'
 refine cn (D:=xI st.kept) rfl ?_
 rfl'
 refine cn (D:=.tuple (rs.map bX)) rfl ?_
 rfl'
 refine cn er ?_
 rfl'
 refine aY (ds:=[bX r,bY st.aW,bY st.cells]) ⟨r,rs.length,st.aW,st.cells,rfl,zQ,zP.s8,zP.O1,zP.sw,?_⟩
 rfl'
 refine aY (ds:=[bX r,.int st.place,bY st.aW,xI st.kept]) ⟨r,rs.length,st.place,st.aW,st.kept,rfl,zQ,zP.s8,?_⟩
 rfl'
 refine aY (ds:=[bY st.aW,.str "spot",fL (r.wrote st.aW st.cells)]) ⟨st.aW, "spot",_,rfl,by rw[zP.s8];decide,by rw[zP.s8];decide,fun a w e=>?_,?_⟩
 ·rw[e]at NV;rcases NV.1 with⟨_,z⟩ | ⟨z,_⟩
  ·rw[zP.s8];exact z
  ·exact absurd z (by decide +kernel)
 rfl'
 refine aY (ds:=[bY st.cells,.str "cell",fL (r.wrote st.aW st.cells)]) ⟨st.cells, "cell",_,rfl,by rw[zP.O1];decide,by rw[zP.O1];decide,fun a w e=>?_,?_⟩
 ·rw[e]at NV;rcases NV.1 with⟨z,_⟩ | ⟨_,z⟩
  ·exact absurd z (by decide +kernel)
  ·rw[zP.O1];exact z
 rfl'
 refine cn (D:=.bool st.gk) rfl ?_
 rfl'
 refine aY (ds:=[bX r,.bool st.gk]) ⟨r,rs.length,st.gk,rfl,zQ,?_⟩
 rfl'
 refine aY (ds:=[bX r,xI st.kept]) ⟨r,rs.length,st.kept,rfl,zQ,?_⟩
 rfl'
 refine aB (ds:=[.int (hV st.aW st.place st.kept r),bY (eB "spot" st.aW (r.wrote st.aW st.cells)),bY (eB "cell" st.cells (r.wrote st.aW st.cells)),.bool (EN st.gk r),xI (oB st.kept r)]) (by show 5<=sizeLine;decide) ?_
 rfl'
 refine aB (ds:=[.int st.place,fL (r.wrote st.aW st.cells)]) (by show 2<=sizeLine;decide) ?_
 rfl'
 exact aB (ds:=[gb (fm r st),NU (st.place,r.wrote st.aW st.cells)]) (by show 2<=sizeLine;decide) q
theorem IP{aN:Addr}(E1:rN K aN)(oF:mg "NoBell"=some (.ref aN))(NZ:rN K aS)(xU:mg "Shut"=some (.ref aS)){fI:Addr}{fdI:wT}(F:cL K "bell" "bell" EF f fd)(E2:Dn P w K mg base 1 "is_bell" fI fdI ["mill", "k"] (df zN)) :
  ba P w K mg base (vY P w) 2 f fd ["mill", "state", "k"] (df (ET aN aS)):=by
 exact_mod_cast F.QW NT (by nofun);refine⟨_,(ae (bj (nG (tS (ar E2 hr (aa (ah 0) (aa (ah 2) ag))))) (ai (rO E1 oF (aa aJ ag))) aC)
  (ae (bj (tS (ao (ah 1) af)) (ai (rO NZ xU (aa aJ ag))) aC)
  (ai (ay (bg (aa (ao (ao (ah 0) af) (ah 2)) (aa (ao (ah 1) af) (aa (ao (ah 1) af) (aa AS (aa (ao (ah 1) af) ag)))))))))),?_⟩
 push_cast;rintro ds R ⟨rs,bs,st,k,rfl,q,qN,qS⟩;refine ax ?_
 rfl'
 refine aY (ds:=[dS rs bs,.int k]) ⟨rs,bs,k,rfl,?_⟩
 rfl'
 by_cases hk:0<=k/\k < bs.length
 ·rw[show(decide (0<=k)&&decide (k < (bs.length:Int)))=true by simp[hk.1,hk.2]]
  rfl'
  refine ax ?_
  rfl'
  refine cn (D:=.bool st.gk) rfl ?_
  rfl'
  cases e:st.gk with
  | true =>
   rfl'
   exact⟨by show 1<=sizeLine;decide,qS hk e⟩
  | false =>
   rfl'
   refine cn (D:=bY bs) rfl ?_
   rfl'
   refine iz hk.1 hk.2 ?_
   rfl'
   refine cn (D:=bY st.aW) rfl ?_
   rfl'
   refine cn (D:=bY st.cells) rfl ?_
   rfl'
   refine cn (D:=.int st.place) rfl ?_
   rfl'
   exact aB (ds:=[.int (gI bs k),bY st.aW,bY st.cells,.bool true,.int st.place]) (by show 5<=sizeLine;decide) (q hk e)
 ·rw[show(decide (0<=k)&&decide (k < (bs.length:Int)))=false by
   by_cases h:0<=k
   ·rw[aaM h,aaF (fun z=>hk ⟨h,z⟩)];rfl
   ·rw[aaF h];rfl]
  rfl'
  exact⟨by show 1<=sizeLine;decide,qN hk⟩
end
def cD(ps:wv)(ns:wn):List Int:=(ps.zip ns).foldl (fun acc p=>if(p.1=("a":Str)\/p.1=("b":Str))/\p.2 ∉ acc then acc++[p.2]else acc) []
def xV:jj:=fun ds R _=>∃(x:Str) (ps:wv) (ns:wn),ds=[.tuple (.str x::ns.map .int)]/\bz.lookup x=some ps/\R (.nw ((cD ps ns).map .int))
theorem sF{i:Nat}{p:Str}{n:Int}(hp:ps[i]?=some p)(hn:ns[i]?=some n):cD (ps.take (i+1)) (ns.take (i+1))=if(p=("a":Str)\/p=("b":Str))/\n ∉ cD (ps.take i) (ns.take i)then cD (ps.take i) (ns.take i)++[n]else cD (ps.take i) (ns.take i):=by
 have e:(ps.take (i+1)).zip (ns.take (i+1))=(ps.take i).zip (ns.take i)++[(p,n)]:=by
  have h1:i < ps.length:=(aan.mp hp).1;have h2:i < ns.length:=(aan.mp hn).1;rw[aaT,hp,aaT,hn];exact List.zip_append (by rw[aa8,aa8];omega)
 unfold cD;rw[e,List.foldl_append]
 rfl
theorem vk:cD (ps.take (min ps.length ns.length)) (ns.take (min ps.length ns.length))=cD ps ns:=by
 unfold cD;rw[<- List.zip_eq_zip_take_min]
def ft(rs:tz)(aF:Int):List Int:=(rs.filter fun r=>decide (r.1<=aF)).map (·.2)
def zR(rs:tz)(tk:wn)(aF:Int):List Int:=(ft rs aF).filter fun k=>decide (tk.count k < (ft rs aF).count k)
def KJ:jj:=fun ds R _=>∃(rs:tz) (aF:Int),ds=[.list (rs.map pairD),.int aF]/\rs.length<=60/\R (.nw ((ft rs aF).map .int))
def E3:jj:=fun ds R _=>∃(rs:tz) (tk:wn) (aF:Int),ds=[.list (rs.map pairD),.list (tk.map .int),.int aF]/\rs.length<=60/\∀ ns:List Int,ns.Pairwise (· < ·)->(∀ k,k∈ns↔k∈zR rs tk aF)->R (.nw (ns.map .int))
theorem Bv(rs:tz)(aF:Int):(ft rs aF).length<=rs.length:=by unfold ft;rw[aal];exact List.length_filter_le ..
theorem qD{α:Type}[BEq α][LawfulBEq α]:∀{l l':List α},l.Nodup->(∀ x∈l,x∈l')->l.length<=l'.length
 | [],_,_,_=>aaW _
 | x::r,l',nd,h=>by
  have hx:=h x (aax ..);have⟨n1,n2⟩:=abD.mp nd;have:=qD (l:=r) (l':=l'.erase x) n2 fun y hy=>(List.mem_erase_of_ne (show y≠x from fun z=>n1 (z▸hy))).mpr (h y (aaw _ hy));rw[List.length_erase_of_mem hx]at this;have hp:0 < l'.length:=List.length_pos_of_mem hx;rw[aaV];omega
theorem ty_list:A3 "list" (.im (.list ds)) W:=.inl ⟨rfl,_,rfl⟩
theorem sG:c9 W (.im (.list (ns.map .int)))=some (ns.map fun i=>.im (.int i)):=by show some _=_;rw[ach];rfl
theorem oG:∀ ns:List Int,gK (ns.map PyData.int)=true
 | []=>rfl
 | n::r=>by rw[aaZ];unfold gK;rw[oG r];rfl
theorem cj{f:DV->Option PyData}{x:DV}{d:PyData}{r:List DV}(h:f x=some d)(hr:eR f r=some ds):eR f (x::r)=some (d::ds):=by unfold eR;rw[h,hr];rfl
theorem cG(h:n<=100000):n < sizeLine:=acO h (by decide)
abbrev oH:=Option (Str×Int×v0)
noncomputable def iW:oH->PyData
 | none=>.none
 | some (k,x,v)=>.tuple [.str k,.int x,xI v]
inductive Ev where
 | fin (b pl:Int) (t:oH) | az (b n v:Int) | down (b n c v:Int) | gO (b k:Int)
variable {es p r':List Ev}
noncomputable def bI:Ev->PyData
 | .fin b pl t=>.tuple [.str "end",.int b,.int pl,iW t]
 | .az b n v=>.tuple [.str "late",.int b,.int n,.int v]
 | .down b n c v=>.tuple [.str "down",.int b,.int n,.int c,.int v]
 | .gO b k=>.tuple [.str "bell",.int b,.int k]
def Ev.aF:Ev->Int
 | .fin b _ _=>b
 | .az b _ _=>b
 | .down b _ _ _=>b
 | .gO b _=>b
noncomputable def vm:Option (Str×Int)->PyData
 | none=>.none
 | some (k,n)=>.tuple [.str k,.int n]
noncomputable abbrev oH.E4(t:oH):Option (Str×Int):=t.map fun x=>(x.1,x.2.1)
noncomputable abbrev sy.told(t:sy):oH:=t.map fun x=>(x.1,x.2.1,some x.2.2)
theorem sH(t:sy):fL t=iW t.told:=by cases t<;>rfl
noncomputable def vn:Rw->Bool
 | .op x _ _ _=>decide (x = "mul")
 | .mv x _ _ _=>decide (x = "take")
 | _=>false
noncomputable def E5:jj:=fun ds R _=>∃(r:Rw) (n:Int),ds=[bX r]/\iE n r/\R (.im (.bool (vn r)))
noncomputable def xW:jj:=fun ds R _=>∃ t:oH,ds=[iW t]/\R (.im (vm t.E4))
structure HM where
 rows:List Rw
 fu:List Int
 rings:List (Int×Int)
 (width room queue gc longest:Int)
 st:jl
 (aF events ends jx bJ:Int)
 taken:List Int
 cq:List (Int×Int×Int×Int)
 laid:List (Int×Int×Int)
 cause:Option Str
variable {h:HM}
structure E6 where
 (p d tk ow la:Addr)
def vo(x:Int×Int×Int×Int):PyData:=.tuple [.int x.1,.int x.2.1,.int x.2.2.1,.int x.2.2.2]
def oI(x:Int×Int×Int):PyData:=.tuple [.int x.1,.int x.2.1,.int x.2.2]
def vp:Option Str->PyData
 | none=>.none
 | some x=>.str x
noncomputable def bL:List Str:=["mill", "state", "rings", "terms", "width", "room", "queue", "patience", "longest", "beat", "events", "ends", "ends_of_beat", "pressed", "taken", "owed", "laid", "cause"]
def tT(a:E6)(h:HM):List (Str×DV):=[("mill",.im (dS h.rows h.fu)),("state",.im (gb h.st)),("rings",.im (.list (h.rings.map pairD))),("terms",.im (.tuple [.int h.width,.int h.room,.int h.queue,.int h.gc,.int h.longest])),("width",.im (.int h.width)),("room",.im (.int h.room)),("queue",.im (.int h.queue)),("patience",.im (.int h.gc)),("longest",.im (.int h.longest)),("beat",.im (.int h.aF)),("events",.im (.int h.events)),("ends",.im (.int h.ends)),("ends_of_beat",.im (.int h.jx)),("pressed",.im (.int h.bJ)),("taken",.pt a.tk),("owed",.pt a.ow),("laid",.pt a.la),("cause",.im (vp h.cause))]
def KL(ds:wE):Cell:=.lst (ds.map .im)
def dH(kH:Addr)(a:E6)(h:HM):Ws:=[(a.p,.ob kH a.d (tT a h)),(a.tk,KL (h.taken.map .int)),(a.ow,KL (h.cq.map vo)),(a.la,KL (h.laid.map oI))]
theorem aL{a:E6}:PlainL (dH kH a h)=true:=rfl
def E6.on(a' a:E6):Prop:=a'.p=a.p/\a'.d=a.d
section
variable {K:zn}{W':Wd}{p:Addr}{a:E6}{f:Str}{v:DV}{Pr:Wd->Prop}
theorem KN(h':HM)(hA:At W (dH kH a h))(c:fe K kH bL)(q:∀ W1,At W1 (dH kH a h')->Pr W1)(n:autoParam (f∈bL) ra9)(e:autoParam (putD f v (tT a h)=tT a h') ra3)(ht:autoParam ((dH kH a h').tail=(dH kH a h).tail) ra0):∃ p' k d fs,DV.pt a.p=.pt p'/\W p'=some (.ob k d fs)/\lX K k/\cu K k f/\fs.length < 1000/\Pr (aH W p' (.ob k d (putD f v fs))) :=
 sd hA c 0 rfl n (by show 18 < 1000;decide) fun W1 h1 f1=>q W1 (by rw[e]at h1;show At W1 ((a.p,.ob kH a.d (tT a h'))::(dH kH a h').tail);rw[ht];exact h1)
theorem Wn(h':HM)(hA:At W (dH kH a h))(q:∀ W1,At W1 (dH kH a h')->Pr W1)(e:autoParam (putD f v (tT a h)=tT a h') ra3)(ht:autoParam ((dH kH a h').tail=(dH kH a h).tail) ra0):∃ d fs,W a.p=some (.ob kH d fs)/\fs.length < 1000/\Pr (aH W a.p (.ob kH d (putD f v fs))) :=
 ⟨_,_,hA.get 0 rfl,(by show 18 < 1000;decide),q _ (by rw[e];show At _ ((a.p,.ob kH a.d (tT a h'))::(dH kH a h').tail);rw[ht];exact hA.set 0 rfl)⟩
theorem YU{q:Addr}{W0:Wd}{c':Cell}(i:Nat)(a':E6)(h':HM)(hA:At W0 (dH kH a h))(c:fe K kH bL)(hq:W0 q=none)(fq:Fr q W0 W)(wq:W q=some c')(k:∀ W1,At W1 (dH kH a' h')->Pr W1)(e:((dH kH a h).set i (q,c')).set 0 (a.p,.ob kH a.d (putD f v (tT a h)))=dH kH a' h')(h0:autoParam (((dH kH a h).set i (q,c'))[0]?=some (a.p,.ob kH a.d (tT a h))) ra0)(n:autoParam (f∈bL) ra9):∃ p' k d fs,DV.pt a.p=.pt p'/\W p'=some (.ob k d fs)/\lX K k/\cu K k f/\fs.length < 1000/\Pr (aH W p' (.ob k d (putD f v fs))) :=
 sd (hA.swap i hq fq wq) c 0 h0 n (by show 18 < 1000;decide) fun W1 h1 _=>k W1 (by rw[e]at h1;exact h1)
theorem Wo(hA:At W (dH kH a h))(f:Fr a.tk W W')(w:W' a.tk=some (.lst ((xs.map PyData.int).map .im))):At W' (dH kH a { h with taken:=xs }):=hA.iG 1 rfl f w
theorem Wq{xs:List (Int×Int×Int×Int)}(hA:At W (dH kH a h))(f:Fr a.ow W W')(w:W' a.ow=some (.lst ((xs.map vo).map .im))):At W' (dH kH a { h with cq:=xs }):=hA.iG 2 rfl f w
theorem Wt{xs:List (Int×Int×Int)}(hA:At W (dH kH a h))(f:Fr a.la W W')(w:W' a.la=some (.lst ((xs.map oI).map .im))):At W' (dH kH a { h with laid:=xs }):=hA.iG 3 rfl f w
theorem N0(hA:At W (dH kH a h)):W a.tk=some (.lst ((h.taken.map PyData.int).map .im)):=hA.get 1 rfl
theorem pN(hA:At W (dH kH a h)):W a.ow=some (.lst ((h.cq.map vo).map .im)):=hA.get 2 rfl
theorem IQ(hA:At W (dH kH a h)):W a.la=some (.lst ((h.laid.map oI).map .im)):=hA.get 3 rfl
end
def oJ(rs:tz)(tk:wn)(aF:Int):List Int:=([0,1,2,3]:wn).filter fun k=>decide (tk.count k < (ft rs aF).count k)
def HM.iX(h:HM)(aF:Int):List Int:=oJ h.rings h.taken aF
def HM.bK(h:HM)(aF:Int):Bool:=!h.st.gk&&decide (0 < (h.iX aF).length)
def HM.endsAt(h:HM)(aF:Int):Int:=if aF=h.aF then h.jx else 0
abbrev HM.row(h:HM):Rw:=rowOf h.rows h.st.place
noncomputable def kW:Rw->List Int
 | .put d v=>[d,v]
 | .op _ d a b=>[d,a,b]
 | .mv _ d a n=>[d,a,n]
 | .go a p=>[a,p]
 | .one _=>[]
def R5:Rw->Str
 | .put _ _ => "put"
 | .op x _ _ _=>x
 | .mv x _ _ _=>x
 | .go _ _ => "go"
 | .one x=>x
def kX(r:Rw):List Str:=(bz.lookup (R5 r)).getD []
theorem E7{r:Rw}{m:Int}(ok:iE m r):bX r=.tuple (.str (R5 r)::(kW r).map .int)/\bz.lookup (R5 r)=some (kX r):=by
 have k:∀ x∈bz.map (·.1),bz.lookup x=some ((bz.lookup x).getD []):=by decide +kernel
 have m1:("put":Str)∈bz.map (·.1)/\("go":Str)∈bz.map (·.1)/\("sum":Str)∈bz.map (·.1)/\("mul":Str)∈bz.map (·.1)/\("less":Str)∈bz.map (·.1)/\("take":Str)∈bz.map (·.1)/\("lay":Str)∈bz.map (·.1)/\("shut":Str)∈bz.map (·.1)/\("open":Str)∈bz.map (·.1)/\("home":Str)∈bz.map (·.1):=by decide +kernel
 obtain⟨h1,h2,h3,h4,h5,h6,h7,h8,h9,h0⟩:=m1;cases r with
 | put d v=>exact⟨rfl,k _ h1⟩
 | op x d a b=>exact⟨rfl,by rcases ok.1 with rfl | rfl | rfl;exact k _ h3;exact k _ h4;exact k _ h5⟩
 | mv x d a n=>exact⟨rfl,by rcases ok.1 with rfl | rfl;exact k _ h6;exact k _ h7⟩
 | go a p=>exact⟨rfl,k _ h2⟩
 | one x=>exact⟨rfl,by rcases ok with rfl | rfl | rfl;exact k _ h8;exact k _ h9;exact k _ h0⟩
noncomputable def bM(r:Rw)(dj:Int):Bool:=decide (dj∈cD (kX r) (kW r))||decide (some dj=dJ (kX r) (kW r))
noncomputable def HM.hZ(h:HM)(r:Rw)(t:oH):Option Str :=
 if t.E4≠oH.E4 (r.wrote h.st.aW h.st.cells).told then some "thing" else
 match t with
 | none=>none
 | some (k,_,none)=>if vn r=false then some "owed" else if h.room<=h.cq.length then some "room" else if k = "cell"/\h.queue<=h.laid.length then some "room" else none
 | some (k,_,some v)=>if(r.wrote h.st.aW h.st.cells).map (·.2.2)≠some v then some "worth" else if k = "cell"/\h.queue<=h.laid.length then some "room" else none
noncomputable def HM.iA(h:HM)(b pl:Int)(t:oH):Option Str :=
 if h.st.place=h.rows.length then some "rest" else if pl≠h.st.place then some "place" else if h.width<=h.endsAt b then some "crowd" else if h.bK b=true/\h.gc<=h.bJ then some "bell"
 else if h.cq.any (fun o=>bM h.row o.2.1)=true then some "ahead" else h.hZ h.row t
noncomputable def HM.ij(h:HM)(n v:Int):Option Str:=match h.cq.filter fun o=>decide (o.1=n) with
 | []=>some "stray"
 | o::_=>if o.2.2.1=v then none else some "worth"
noncomputable def HM.oK(h:HM)(n c v:Int):Option Str:=match h.laid with
 | []=>some "stray"
 | l::_=>if l.1≠n then some "stray" else if l.2.1≠c then some "thing" else if l.2.2=v then none else some "worth"
noncomputable def HM.jy(h:HM)(b k:Int):Option Str:=if k ∉ h.iX b then some "stray" else if h.st.gk=true then some "shut" else if(h.iX b).head?=some k then none else some "order"
noncomputable def HM.bH(h:HM)(e:Ev):Option Str :=
 if e.aF < h.aF then some "beat" else if h.cq.any (fun o=>decide (o.2.2.2+h.longest < e.aF))=true then some "overdue" else
 match e with
 | .fin b pl t=>h.iA b pl t
 | .az _ n v=>h.ij n v
 | .down _ n c v=>h.oK n c v
 | .gO b k=>h.jy b k
noncomputable def HM.eI(h:HM)(b:Int)(t:oH)(w:sy):HM:=match t,w with
 | some (_,_,none),some (_,x,v)=>{ h with cq:=h.cq++[(h.ends,x,v,b)] }
 | some (k,_,some _),some (_,x,v)=>if k = "cell" then{ h with laid:=h.laid++[(h.ends,x,v)] }else h
 | _,_=>h
noncomputable def HM.oM(h:HM)(b:Int)(t:oH):HM :=
 let h2:HM:=({ h with bJ:=if h.bK b=true then h.bJ+1 else 0 }:HM).eI b t (h.row.wrote h.st.aW h.st.cells)
 { h2 with st:=fm h.row h.st,ends:=h2.ends+1,jx:=h2.jx+1 }
def HM.xX(h:HM)(k:Int):HM:={ h with st:=zH h.fu k h.st,taken:=h.taken++[k],bJ:=0 }
noncomputable def HM.cH(h:HM)(e:Ev):HM :=
 let h1:HM:={ h with jx:=h.endsAt e.aF }
 let h2:HM:=match e with
  | .fin b _ t=>h1.oM b t
  | .az _ n _=>{ h1 with cq:=h1.cq.filter fun o=>decide (o.1≠n) }
  | .down _ _ _ _=>{ h1 with laid:=h1.laid.drop 1 }
  | .gO _ k=>h1.xX k
 { h2 with aF:=e.aF,events:=h2.events+1 }
noncomputable def HM.tell(h:HM)(e:Ev):HM:=match h.bH e with
 | some x=>{ h with cause:=some x }
 | none=>h.cH e
abbrev E8:Stmt:=top 15
abbrev xY:Stmt:=top 13
abbrev E9:Stmt:=top 23
abbrev Fb:Stmt:=top 24
abbrev xZ:Stmt:=top 31
theorem Oa:av ["row"] ["row"] (defScope E8):=by ac_rfl
theorem mI:av ["row", "spots", "part", "number"] ["row"] (defScope xY):=by ac_rfl
theorem Ob:av ["rings", "beat"] ["rings", "beat"] (defScope E9):=by ac_rfl
theorem Fc:av ["rings", "taken", "beat", "rung"] ["rings", "taken", "beat"] (defScope Fb):=by ac_rfl
theorem IS:av ["wrote"] ["wrote"] (defScope xZ):=by ac_rfl
section
variable {K:zn}
theorem IT(F:cL K "is_slow" "is_slow" E8 f fd)(ik:mg "SLOW_WORDS"=some (.ref aS))(sI:∀ H,fg K H aS [.str "mul",.str "take"]):ba P w K mg base cU 1 f fd ["row"] (df E5):=by
 exact_mod_cast F.nT Oa (by nofun);refine⟨_,(ai (ay (Qm (nS hu) (ao (ah 0) af) (Rt ik sI)))),?_⟩;push_cast;rintro ds R ⟨r,n,rfl,ok,q⟩;have two:∀{W:Wd} {Q:DK} {x:Str},Q (.im (.bool (decide (x∈[("mul":Str), "take"])))) W->DE false (.im (.str x)) (.cst [V.str "mul",V.str "take"]) W Q:=fun{W Q x} h=>j6 (neg:=false) (xs:=["mul", "take"]) rfl h;cases r with
 | put d v =>
  dsimp only[bX];array_get_dec;exact two q
 | op x d a b =>
  dsimp only[bX];rcases ok.1 with rfl | rfl | rfl
  all_goals
   array_get_dec
   exact two q
 | mv x d a n =>
  dsimp only[bX];rcases ok.1 with rfl | rfl
  all_goals
   array_get_dec
   exact two q
 | go b p =>
  dsimp only[bX];array_get_dec;exact two q
 | one x =>
  dsimp only[bX];rcases ok with rfl | rfl | rfl
  all_goals
   array_get_dec
   exact two q
theorem Fd{aP:Addr}(F:cL K "spots_read" "spots_read" xY f fd)(jc:mg "PARTS"=some (.ref aP))(hP:ModT K w aP kT)(qC:mg "zip"=none):ba P w K mg base cU 1 f fd ["row"] (df xV):=by
 exact_mod_cast F.nT mI (by nofun);refine⟨_,(ae (aA 1 mI.nd (cm ag))
  (ae (gn (JM .T .T qC (aa (RH jc hP (ao (ah 0) af)) (aa (nH rj (ah 0) (fQ af) fO) ag))) (fY (n:=2) (bo (aO 2 mI.nd) (bo (aO 3 mI.nd) fN))) (ai (bj (rH (w_and (Dj (nS hu) (ah 2) (bg (gH rfl))) (dR (Dj (qf hu) (ah 3) (ah 1))))) (ai (cM (gS aaG aaQ aaR bQ (ah 1) (aa (ah 3) ag)))) aC)))
  (ai (ay (ah 1))))),?_⟩
 push_cast;rintro ds R ⟨x,ps,ns,rfl,hx,q⟩;refine cR [_,none,none,none] rfl ?_;have Ee:ps.length<=3:=(show ∀ y∈bz,y.2.length<=3 by decide +kernel) _ (lookup_mem hx)
 rfl'
 refine fX (aaW _) fun l W0 hl wl fl=>?_
 rfl'
 refine ax ?_
 rfl'
 refine cn (D:=.str x) (aX (j:=0) rfl) ?_;refine⟨x,_,rfl,by unfold kT;rw[hx];rfl,?_⟩
 rfl'
 refine EU ?_
 rfl'
 have fl:(ps.map V.str).all dq=true:=by rw[List.all_map];exact abz.mpr fun _ _=>rfl
 refine Kn (ds:=ps.map .str) (es:=ns.map .int) (by show jO (.cst _)=_;simp only[jO,fl,acW,ach];rfl) rfl ?_;refine zq (fun i ρ W=>∃ u v,ρ=[some (.im (.tuple (.str x::ns.map .int))),some (.pt l),u,v]/\W l=some (.lst (((cD (ps.take i) (ns.take i)).map PyData.int).map .im))/\(cD (ps.take i) (ns.take i)).length<=i) ⟨_,_,rfl,wl,aar _⟩ (fun _ _ _ _=>⟨trivial,trivial⟩) ?_ ?_
 ·rintro i a d ρ W ha hd ⟨u,v,rfl,wl,B7⟩;rw[aap]at ha hd;obtain⟨pz,RZ,rfl⟩:=aaH.mp ha;obtain⟨nz,TV,rfl⟩:=aaH.mp hd;have hz:(ps.zip ns)[i]?=some (pz,nz):=aby.mpr ⟨RZ,TV⟩;have es:=sF RZ TV
  rfl'
  refine aB (ds:=[.str "a",.str "b"]) (by show 2<=sizeLine;decide) (j6 (neg:=false) (xs:=["a", "b"]) rfl ?_)
  rfl'
  by_cases GD:pz∈[("a":Str), "b"]
  ·have Oc:pz=("a":Str)\/pz=("b":Str):=by simpa using GD
   refine pH GD ?_
   rfl'
   refine om (neg:=true) (RV wl) ?_
   rfl'
   by_cases HB:nz∈cD (ps.take i) (ns.take i)
   ·rw[aaD (fun z=>z.2 HB)]at es;rw[aaN rfl,aaM HB]
    rfl'
    exact⟨_,_,rfl,by rw[es];exact wl,by rw[es];omega⟩
   ·rw[aaN ⟨Oc,HB⟩]at es;rw[aaN rfl,aaF HB]
    rfl'
    have VR:=(aan.mp RZ).1;refine bU wl (by rw[aal,aal];exact cG (by omega)) fun W3 w3 f3=>?_;exact⟨_,_,rfl,by rw[es,w3];simp,by rw[es,aaP];simp;omega⟩
  ·have Oc:¬ (pz=("a":Str)\/pz=("b":Str)):=by simpa using GD
   rw[aaD (fun z=>Oc z.1)]at es;refine jM GD ?_
   rfl'
   exact⟨_,_,rfl,by rw[es];exact wl,by rw[es];omega⟩
 ·rintro ρ W ⟨u,v,rfl,wl,_⟩
  rfl'
  rw[aal,aal,vk]at wl;exact gZ wl q
theorem IU(F:cL K "bells_rung" "bells_rung" E9 f fd):ba P w K mg base cU 1 f fd ["rings", "beat"] (df KJ):=by
 exact_mod_cast F.nT Ob (by nofun);refine⟨_,(ai (ay (fb (N':=["rung", "k", "beat"]) (ix:=[none,none,some 1]) ⟨rfl,rfl,rfl,rfl,rfl,rfl⟩ (dQ (ah 0)) (fun _ _ _ _=>(fY (n:=2) (bo (aO 0 (show List.Nodup (["rung", "k", "beat"]:wv) by decide +kernel)) (bo (aO 1 (show List.Nodup (["rung", "k", "beat"]:wv) by decide +kernel)) fN)))) (fun _ _ _ _=>(eZ (aG JB (ah 0) (ah 2)))) (fun _ _ _ _=>(ah 1))))),?_⟩;push_cast;rintro ds R ⟨rs,aF,rfl,hl,q⟩
 rfl'
 refine jU (fun i ys W=>ys=((ft (rs.take i) aF).map PyData.int).map .im) (by rw[aal];exact aaJ (cG (by omega))) rfl ?_ ?_
 ·rintro i d ys W hd _ rfl;rw[aap]at hd;obtain⟨r,hr,rfl⟩:=aaH.mp hd;have et:rs.take (i+1)=rs.take i++[r]:=by rw[aaT,hr];rfl
  unfold pairD
  rfl'
  rw[et];unfold ft;rw[acr];refine gj (fun h=>?_) (fun h=>?_)
  ·rfl'
   simp[show r.1<=aF from h]
  ·rfl'
   simp[show ¬ r.1<=aF from h]
 ·rintro ys W rfl;rw[aal,abe];refine jm fun p W1 hp wp fp=>?_;exact gZ wp q
theorem IV{fR:Addr}{Wl:wT}(F:cL K "bells_waiting" "bells_waiting" Fb f fd)(vq:Dn P w K mg base 1 "bells_rung" fR Wl ["rings", "beat"] (df KJ))(gP:mg "sorted"=none)(Fe:mg "set"=none):ba P w K mg base cU 2 f fd ["rings", "taken", "beat"] (df E3):=by
 exact_mod_cast F.nT Fc (by nofun);refine⟨_,(ae (aA 3 Fc.nd (ar vq hr (aa (ah 0) (aa (ah 2) ag))))
  (ai (ay (fb (N':=["k", "rung", "taken"]) (ix:=[none,some 3,some 1]) ⟨rfl,rfl,rfl,rfl,rfl,rfl⟩ (dQ (Bm rfl gP Fe (ah 3))) (fun _ _ _ _=>(aO 0 (show List.Nodup (["k", "rung", "taken"]:wv) by decide +kernel))) (fun _ _ _ _=>(eZ (aG yE (gS aaG PySem.F.slot_list_count PySem.F.type_list_count ve (ah 1) (aa (ah 0) ag)) (gS aaG PySem.F.slot_list_count PySem.F.type_list_count ve (ah 2) (aa (ah 0) ag))))) (fun _ _ _ _=>(ah 0)))))),?_⟩
 push_cast;rintro ds R ⟨rs,tk,aF,rfl,hl,q⟩;refine cR [_,_,_,none] rfl ?_;have Bw:=Bv rs aF
 rfl'
 refine aY (ds:=[.list (rs.map pairD),.int aF]) ⟨rs,aF,rfl,hl,jX ?_⟩
 rfl'
 refine⟨ft rs aF,sG,by omega,fun ns hp hm=>?_⟩;rw[show(ns.map fun i=>DV.im (.int i))=(ns.map PyData.int).map .im by rw[ach];rfl];refine cZ ?_
 rfl'
 have hnl:ns.length<=rs.length:=by
  exact aaA (qD (hp.imp fun h=>Int.ne_of_lt h) fun k hk=>(hm k).mp hk) Bw
 refine jU (fun i ys W=>ys=((((ns.take i).filter fun k=>decide (tk.count k < (ft rs aF).count k))).map PyData.int).map .im) (by rw[aal];exact aaJ (cG (by omega))) rfl ?_ ?_
 ·rintro i d ys W hd _ rfl;rw[aap]at hd;obtain⟨k,hk,rfl⟩:=aaH.mp hd;have et:ns.take (i+1)=ns.take i++[k]:=by rw[aaT,hk];rfl
  rfl'
  refine⟨ty_list,?_⟩
  rfl'
  refine⟨_,k,rfl,sG,?_⟩
  rfl'
  refine⟨ty_list,?_⟩
  rfl'
  refine⟨_,k,rfl,sG,?_⟩
  rfl'
  rw[et,acr];refine gj (fun h=>?_) (fun h=>?_)
  ·rfl'
   have h':tk.count k < (ft rs aF).count k:=by omega
   simp[h']
  ·rfl'
   have h':¬ tk.count k < (ft rs aF).count k:=by omega
   simp[h']
 ·rintro ys W rfl;rw[aal,abe];refine jm fun p W1 YT wp fp=>?_;refine gZ wp (q _ (hp.sublist (acJ ..)) fun k=>?_);unfold zR;rw[aa4,aa4,hm]
theorem Ff(F:cL K "thing_of" "thing_of" xZ f fd):ba P w K mg base cU 1 f fd ["wrote"] (df xW):=by
 exact_mod_cast F.nT IS (by nofun);refine⟨_,(ai (ay (rJ (jK (ah 0)) fh (bg (aa (ao (ah 0) af) (aa (ao (ah 0) af) ag)))))),?_⟩;push_cast;rintro ds R ⟨t,rfl,q⟩;rcases t with _ | ⟨k,x,v⟩<;>dsimp only[iW]
 ·sizeOf_list_dec
  exact q
 ·sizeOf_list_dec
  exact aB (ds:=[.str k,.int x]) (by show 2<=sizeLine;decide) q
end
structure eF(h:HM):Prop where
 j9:sq h.rows h.fu
 st:jo h.rows.length h.st
 rl:h.rings.length<=60
 rb:∀ r∈h.rings,0<=r.2/\r.2 < h.fu.length
 tk:h.taken.length<=5000
 ow:h.cq.length<=5000
 la:h.laid.length<=5000
theorem zS:∀{l m:wn},l.Pairwise (· < ·)->m.Pairwise (· < ·)->(∀ k,k∈l↔k∈m)->l=m
 | [],[],_,_,_=>rfl
 | [],y::m,_,_,h=>by have:=(h y).mpr (aax ..);cases this
 | x::l,[],_,_,h=>by have:=(h x).mp (aax ..);cases this
 | x::l,y::m,hl,hm,h=>by
  obtain⟨l1,l2⟩:=abG.mp hl;obtain⟨m1,m2⟩:=abG.mp hm;have e:x=y:=by
   rcases aat.mp ((h x).mp (aax ..))with e | e
   ·exact e
   rcases aat.mp ((h y).mpr (aax ..))with e' | e'
   ·exact e'.symm
   have a1:=m1 x e;have a2:=l1 y e';omega
  subst e;rw[zS l2 m2 fun k=>⟨fun hk=>(aat.mp ((h k).mp (aaw _ hk))).resolve_left fun z=>by have:=l1 k hk;omega,fun hk=>(aat.mp ((h k).mpr (aaw _ hk))).resolve_left fun z=>by have:=m1 k hk;omega⟩]
theorem Fg{rs:tz}{tk:wn}{aF:Int}(rb:∀ r∈rs,0<=r.2/\r.2 < 4)(hp:ns.Pairwise (· < ·))(hm:∀ k,k∈ns↔k∈zR rs tk aF):ns=oJ rs tk aF:=by
 refine zS hp (List.Pairwise.sublist (acJ ..) (by decide)) fun k=>?_;rw[hm];unfold zR oJ;rw[aa4,aa4];refine⟨fun⟨h1,h2⟩=>⟨?_,h2⟩,fun⟨_,h2⟩=>⟨?_,h2⟩⟩
 ·unfold ft at h1;obtain⟨r,hr,rfl⟩:=abc.mp h1;have:=rb r (aa4.mp hr).1;have:r.2=0\/r.2=1\/r.2=2\/r.2=3:=by omega
  simpa using this
 ·have h3:=aa2 h2;exact List.count_pos_iff.mp (by omega)
def Fh(kH:Addr):jY:=fun aK W R _=>∃ a h,aK=[.pt a.p]/\At W (dH kH a h)/\eF h/\h.st.place < h.rows.length/\∀ W',At W' (dH kH a h)->R (.im (bX h.row)) W'
def mJ(kH:Addr):jY:=fun aK W R _=>∃ a h aF,aK=[.pt a.p,.im (.int aF)]/\At W (dH kH a h)/\eF h/\∀ W',At W' (dH kH a h)->R (.im (.list ((h.iX aF).map .int))) W'
def ka(kH:Addr):jY:=fun aK W R _=>∃ a h aF,aK=[.pt a.p,.im (.int aF)]/\At W (dH kH a h)/\eF h/\∀ W',At W' (dH kH a h)->R (.im (.bool (h.bK aF))) W'
def mK(kH:Addr):jY:=fun aK W R _=>∃ a h aF,aK=[.pt a.p,.im (.int aF)]/\At W (dH kH a h)/\∀ W',At W' (dH kH a h)->R (.im (.int (h.endsAt aF))) W'
def sJ(kH:Addr):jY:=fun aK W R _=>∃ a h,aK=[.pt a.p]/\At W (dH kH a h)/\∀ W',At W' (dH kH a h)->R (.im (pL (h.cause.map fun x=>(h.events,x)))) W'
abbrev Fi:Stmt:=(met 33 8)
abbrev sL:Stmt:=(met 33 9)
abbrev oN:Stmt:=(met 33 10)
abbrev sM:Stmt:=(met 33 11)
abbrev sN:Stmt:=(met 33 20)
theorem Od:av ["self"] ["self"] (defScope Fi):=by ac_rfl
theorem Fj:av ["self", "beat"] ["self", "beat"] (defScope sL):=by ac_rfl
theorem Bx:av ["self", "beat"] ["self", "beat"] (defScope oN):=by ac_rfl
theorem Fl:av ["self", "beat"] ["self", "beat"] (defScope sM):=by ac_rfl
theorem Fm:av ["self"] ["self"] (defScope sN):=by ac_rfl
section
variable {K:zn}
theorem IW(F:cL K "row_now" "Holder.row_now" Fi f fd)(cN:fe K kH bL):ba P w K mg base cU 1 f fd ["self"] (eC K (Fh kH)):=by
 exact_mod_cast F.wj Od (fun aK W R X zz=>by obtain⟨a,b,e,_⟩:=zz; rw[e];rfl);refine⟨_,(ai (ay (ao (ao (bx (ah 0)) af) (ao (bx (ah 0)) af)))),?_⟩;norm_cast;rintro aK R ⟨a,h,rfl,hA,ok,hp,qq⟩
 sizeOf_list_dec
 exact cn (gN ok.j9 ok.st.p0 hp).1 (qq W hA)
theorem Bz{fB:Addr}{fdB:wT}(F:cL K "waiting_by" "Holder.waiting_by" sL f fd)(cN:fe K kH bL)(oO:Dn P w K mg base 2 "bells_waiting" fB fdB ["rings", "taken", "beat"] (df E3)):ba P w K mg base cU 3 f fd ["self", "beat"] (eC K (mJ kH)):=by
 exact_mod_cast F.wj Fj (fun aK W R X zz=>by obtain⟨a,b,c,e,_⟩:=zz; rw[e];rfl);refine⟨_,(ai (ay (ar oO hr (aa (bx (ah 0)) (aa (bx (ah 0)) (aa (ah 1) ag)))))),?_⟩;norm_cast;rintro aK R ⟨a,h,aF,rfl,hA,ok,qq⟩
 sizeOf_list_dec
 refine jV (ds:=[.list (h.rings.map pairD),.list (h.taken.map .int),.int aF]) (cj cv (cj (gY (N0 hA)) (cj cv rfl))) ⟨h.rings,h.taken,aF,rfl,ok.rl,fun ns hp hm=>⟨oG ns,jX ?_⟩⟩;rw[Fg (fun r hr=>⟨(ok.rb r hr).1,by have:=(ok.rb r hr).2;have:=ok.j9.b1;omega⟩) hp hm];exact qq W hA
theorem x5{fW:Addr}(F:cL K "is_pressed" "Holder.is_pressed" oN f fd)(cN:fe K kH bL)(iY:iR P w K mg base 3 kH "waiting_by" fW R4 ["self", "beat"] (eC K (mJ kH)))(bu:mg "len"=none):ba P w K mg base cU 4 f fd ["self", "beat"] (eC K (ka kH)):=by
 exact_mod_cast F.wj Bx (fun aK W R X zz=>by obtain⟨a,b,c,e,_⟩:=zz; rw[e];rfl);refine⟨_,(ai (ay (JP (Qn (ao (bx (ah 0)) af)) (Dk (jJ yE (bD bq bu aa3 (aa (dE iY hr (ah 0) (aa (ah 1) ag)) ag)) af))))),?_⟩;norm_cast;rintro aK R ⟨a,h,aF,rfl,hA,ok,qq⟩;unfold HM.bK at qq
 sizeOf_list_dec
 cases e:h.st.gk with
 | true =>
  rw[e]at qq;exact qq W hA
 | false =>
  rw[e]at qq
  sizeOf_list_dec
  refine cg hA aL fun W1 R' h1 g=>⟨a,h,aF,rfl,h1,ok,fun W' h'=>g _ _ fun W2 t fr=>?_⟩;have l7:=t _ h' aL
  sizeOf_list_dec
  have q:=qq W2 l7;simp only[Bool.not_false,Bool.true_and]at q;rw[aal,show decide ((0:Int) < ((h.iX aF).length:Int))=decide (0 < (h.iX aF).length) by simp only[Int.natCast_pos]];exact q
theorem BA(F:cL K "ends_at" "Holder.ends_at" sM f fd)(cN:fe K kH bL):ba P w K mg base cU 1 f fd ["self", "beat"] (eC K (mK kH)):=by
 exact_mod_cast F.wj Fl (fun aK W R X zz=>by obtain⟨a,b,c,e,_⟩:=zz; rw[e];rfl);refine⟨_,(ai (ay (rJ (aG (aI hu) (ah 1) (bx (ah 0))) (bx (ah 0)) af))),?_⟩;norm_cast;rintro aK R ⟨a,h,aF,rfl,hA,qq⟩;have q:=qq W hA;unfold HM.endsAt at q
 sizeOf_list_dec
 refine gj (fun e=>?_) (fun e=>?_)
 ·rw[aaN e]at q
  sizeOf_list_dec
  exact q
 ·rw[aaD e]at q
  sizeOf_list_dec
  exact q
theorem BB(F:cL K "parted" "Holder.parted" sN f fd)(cN:fe K kH bL):ba P w K mg base cU 1 f fd ["self"] (eC K (sJ kH)):=by
 exact_mod_cast F.wj Fm (fun aK W R X zz=>by obtain⟨a,b,e,_⟩:=zz; rw[e];rfl);refine⟨_,(ai (ay (rJ (jK (bx (ah 0))) fh (bg (aa (bx (ah 0)) (aa (bx (ah 0)) ag)))))),?_⟩;norm_cast;rintro aK R ⟨a,h,rfl,hA,qq⟩;have q:=qq W hA
 sizeOf_list_dec
 cases e:h.cause with
 | none =>
  rw[e]at q
  sizeOf_list_dec
  exact q
 | some x =>
  rw[e]at q
  sizeOf_list_dec
  rw[e];exact aB (ds:=[.int h.events,.str x]) (by show 2<=sizeLine;decide) q
end
def x6(a:Option (Str×Int)):Prop:=∀ k x,a=some (k,x)->k = "spot"\/k = "cell"
noncomputable def oP(kH:Addr):jY:=fun aK W R _=>∃ a h t,aK=[.pt a.p,.im (bX h.row),.im (iW t)]/\At W (dH kH a h)/\eF h/\h.st.place < h.rows.length/\x6 t.E4/\∀ W',At W' (dH kH a h)->R (.im (vp (h.hZ h.row t))) W'
noncomputable def sO(kH:Addr):jY:=fun aK W R _=>∃ a h b n v,aK=[.pt a.p,.im (bI (.az b n v))]/\At W (dH kH a h)/\eF h/\∀ W',At W' (dH kH a h)->R (.im (vp (h.ij n v))) W'
noncomputable def sP(kH:Addr):jY:=fun aK W R _=>∃ a h b n c v,aK=[.pt a.p,.im (bI (.down b n c v))]/\At W (dH kH a h)/\eF h/\∀ W',At W' (dH kH a h)->R (.im (vp (h.oK n c v))) W'
noncomputable def sQ(kH:Addr):jY:=fun aK W R _=>∃ a h b k,aK=[.pt a.p,.im (bI (.gO b k))]/\At W (dH kH a h)/\eF h/\∀ W',At W' (dH kH a h)->R (.im (vp (h.jy b k))) W'
abbrev oQ:Stmt:=(met 33 4)
abbrev sR:Stmt:=(met 33 5)
abbrev sS:Stmt:=(met 33 6)
abbrev sT:Stmt:=(met 33 7)
theorem kY:av ["self", "row", "wrote", "right", "is_owed"] ["self", "row", "wrote"] (defScope oQ):=by ac_rfl
theorem vt:av ["self", "event", "found"] ["self", "event"] (defScope sR):=by ac_rfl
theorem Fn:av ["self", "event"] ["self", "event"] (defScope sS):=by ac_rfl
theorem vv:av ["self", "event", "waiting"] ["self", "event"] (defScope sT):=by ac_rfl
section
variable {K:zn}
theorem zT:gA W (.im (.list ds))=some ds:=jN (fun _=>by rfl) ds
theorem IY:∀ a b:Option (Str×Int),PyData.eqv (vm a) (vm b)=decide (a=b)
 | none,none=>rfl
 | none,some _=>rfl
 | some _,none=>rfl
 | some (k,n),some (k',n')=>by
  show(PyData.eqv (.str k) (.str k')&&(PyData.eqv (.int n) (.int n')&&true))=_;rw[jR,rY]
  by_cases h1:k=k'<;>by_cases h2:n=n'<;>simp[h1,h2]
theorem zU{a:Option (Str×Int)}(h:x6 a):(vm a).canLay0=true:=by
 rcases a with _ | ⟨k,x⟩
 ·rfl
 ·rcases h k x rfl with rfl | rfl<;>(simp only[vm,PyData.canLay0,PyData.canLayAll0,Bool.and_true];decide +kernel)
theorem R6{a b:Option (Str×Int)}(ha:x6 a)(hb:x6 b)(h:Q (.im (.bool (!decide (a=b)))) W):DD (.im (vm a)) (.im (vm b)) W Q :=
 Rn cv cv (.inr ⟨zU ha,zU hb,aaA (Nat.min_le_left ..) (by rcases a with _ | ⟨x,y⟩<;>simp[vm,PyData.depth,PyData.depthAll])⟩) (by rw[IY];exact h)
theorem Oe{t:sy}(h:zI t):x6 t.told.E4:=by
 rintro k x e;rcases t with _ | ⟨k',x',v⟩
 ·cases e
 ·cases e;rcases h.1 with⟨z,_⟩ | ⟨z,_⟩
  ·exact .inl z
  ·exact .inr z
theorem x8(F:cL K "broken_by_wrote" "Holder.broken_by_wrote" oQ f fd)(cN:fe K kH bL)(Fo:Dn P w K mg base 4 "step" f1 d1 ["mill", "state"] (jv (df (SStep aR))))(qE:Dn P w K mg base 1 "thing_of" f2 d2 ["wrote"] (df xW))(Fp:Dn P w K mg base 1 "is_slow" f3 d3 ["row"] (df E5))(bu:mg "len"=none):ba P w K mg base cU 5 f fd ["self", "row", "wrote"] (eC K (oP kH)):=by
 exact_mod_cast F.wj kY (fun aK W R X zz=>by obtain⟨a,b,c,e,_⟩:=zz; rw[e];rfl);refine⟨_,(ae (aA 3 kY.nd (ao (ao (ar Fo hr (aa (bx (ah 0)) (aa (bx (ah 0)) ag))) af) af))
  (ae (bj (aG (fc hu) (ar qE hr (aa (ah 2) ag)) (ar qE hr (aa (ah 3) ag))) (ai (ay aJ)) aC)
  (ae (bj (jK (ah 2)) (ai (ay fh)) aC)
  (ae (aA 4 kY.nd (JO (ao (ah 2) af)))
  (ae (bj (rH (w_and (tS (ah 4)) (dR (nG (tS (ar Fp hr (aa (ah 1) ag))))))) (ai (ay aJ)) aC)
  (ae (bj (rH (w_and (nG (tS (ah 4))) (dR (aG (fc hu) (ao (ah 2) af) (ao (ah 3) af))))) (ai (ay aJ)) aC)
  (ae (bj (rH (w_and (tS (ah 4)) (dR (aG pS (bD bq bu aa3 (aa (bx (ah 0)) ag)) (bx (ah 0)))))) (ai (ay aJ)) aC)
  (ae (bj (rH (w_and (aG (aI hu) (ao (ah 2) af) aJ) (dR (aG pS (bD bq bu aa3 (aa (bx (ah 0)) ag)) (bx (ah 0)))))) (ai (ay aJ)) aC)
  (ai (ay fh)))))))))),?_⟩
 norm_cast;rintro aK R ⟨a,h,t,rfl,hA,ok,hp,hT,qq⟩;have q:=qq W hA;have wo:=pN hA;have wl:=IQ hA;have ro:=(gN ok.j9 ok.st.p0 hp).2;unfold HM.hZ at q
 sizeOf_list_dec
 refine aY (ds:=[dS h.rows h.fu,gb h.st]) ⟨h.rows,h.fu,h.st,rfl,ok.j9,ok.st,fun _=>cQ ?_,fun z=>by omega⟩
 sizeOf_list_dec
 refine ax ?_
 sizeOf_list_dec
 refine aY (ds:=[iW t]) ⟨t,rfl,cQ ?_⟩
 sizeOf_list_dec
 refine aY (ds:=[fL (h.row.wrote h.st.aW h.st.cells)]) ⟨_,by rw[sH],cQ ?_⟩
 sizeOf_list_dec
 refine R6 hT (Oe (j8 ro ok.st.sw ok.st.cw)) ?_
 sizeOf_list_dec
 refine HA (fun e=>?_) (fun e=>?_)
 ·rw[aaN e]at q
  sizeOf_list_dec
  exact q
 rw[aaD (fun z=>z e)]at q
 sizeOf_list_dec
 refine ax ?_
 sizeOf_list_dec
 rcases t with _ | ⟨k,x,v⟩
 ·sizeOf_list_dec
  exact q
 obtain⟨v',ew⟩:∃ v',h.row.wrote h.st.aW h.st.cells=some (k,x,v'):=by
  cases ew:h.row.wrote h.st.aW h.st.cells with
  | none=>rw[ew]at e;cases e
  | some y=>obtain⟨k',x',v'⟩:=y;rw[ew]at e;cases e;exact⟨v',rfl⟩
 rw[ew]at q;rw[ew];have ro':iE h.rows.length h.row:=ro;dsimp only[iW]
 sizeOf_list_dec
 cases v with
 | none =>
  dsimp only at q
  sizeOf_list_dec
  refine ax ?_
  sizeOf_list_dec
  refine aY (ds:=[bX h.row]) ⟨h.row,_,rfl,ro',cQ ?_⟩
  sizeOf_list_dec
  cases es:vn h.row with
  | false =>
   rw[es,aaN rfl]at q
   sizeOf_list_dec
   exact q
  | true =>
   rw[es,aaD (by decide)]at q
   sizeOf_list_dec
   refine ax ?_
   sizeOf_list_dec
   refine ax ?_
   sizeOf_list_dec
   rw[aal,aal];refine gj (fun e=>?_) (fun e=>?_)
   ·rw[aaN e]at q
    sizeOf_list_dec
    exact q
   rw[aaD e]at q
   sizeOf_list_dec
   refine ax ?_
   sizeOf_list_dec
   by_cases ek:k = "cell"
   ·refine pH ek ?_
    sizeOf_list_dec
    rw[aal,aal];refine gj (fun e=>?_) (fun e=>?_)
    ·rw[aaN ⟨ek,e⟩]at q
     sizeOf_list_dec
     exact q
    ·rw[aaD (fun z=>e z.2)]at q
     sizeOf_list_dec
     exact q
   ·refine jM ek ?_;rw[aaD (fun z=>ek z.1)]at q
    sizeOf_list_dec
    exact q
 | some v =>
  dsimp only at q
  sizeOf_list_dec
  refine ax ?_
  sizeOf_list_dec
  refine ax ?_
  sizeOf_list_dec
  dsimp only[xI]
  sizeOf_list_dec
  refine HA (fun e=>?_) (fun e=>?_)
  ·rw[aaN (show Option.map (fun x:Str×Int×Int=>x.2.2) (some (k,x,v'))≠some v from fun z=>e (aa5 z).symm)]at q
   sizeOf_list_dec
   exact q
  rw[aaD (fun z=>z (by rw[e];rfl))]at q
  sizeOf_list_dec
  refine ax ?_
  sizeOf_list_dec
  refine ax ?_
  sizeOf_list_dec
  by_cases ek:k = "cell"
  ·refine pH ek ?_
   sizeOf_list_dec
   rw[aal,aal];refine gj (fun e=>?_) (fun e=>?_)
   ·rw[aaN ⟨ek,e⟩]at q
    sizeOf_list_dec
    exact q
   ·rw[aaD (fun z=>e z.2)]at q
    sizeOf_list_dec
    exact q
  ·refine jM ek ?_;rw[aaD (fun z=>ek z.1)]at q
   sizeOf_list_dec
   exact q
theorem BC(F:cL K "broken_by_late" "Holder.broken_by_late" sR f fd)(cN:fe K kH bL)(bu:mg "len"=none):ba P w K mg base cU 1 f fd ["self", "event"] (eC K (sO kH)):=by
 exact_mod_cast F.wj vt (fun aK W R X zz=>by obtain⟨a,b,c,d,g,e,_⟩:=zz; rw[e];rfl);refine⟨_,(ae (nM 2 (N':=["n", "spot", "worth", "told", "event"]) (ix:=[none,none,none,none,some 1]) ⟨rfl,rfl,rfl,rfl,rfl,rfl⟩ vt.nd (dQ (bx (ah 0))) (fun _ _ _ _=>(fY (n:=4) (bo (aO 0 (show List.Nodup (["n", "spot", "worth", "told", "event"]:wv) by decide +kernel)) (bo (aO 1 (show List.Nodup (["n", "spot", "worth", "told", "event"]:wv) by decide +kernel)) (bo (aO 2 (show List.Nodup (["n", "spot", "worth", "told", "event"]:wv) by decide +kernel)) (bo (aO 3 (show List.Nodup (["n", "spot", "worth", "told", "event"]:wv) by decide +kernel)) fN)))))) (fun _ _ _ _=>(eZ (aG (aI hu) (ah 0) (ao (ah 4) af)))) (fun _ _ _ _=>(ah 2)))
  (ae (bj (aG (aI hu) (bD bq bu aa3 (aa (ah 2) ag)) af) (ai (ay aJ)) aC)
  (ai (ay (rJ (aG (aI hu) (ao (ah 2) af) (ao (ah 1) af)) fh aJ))))),?_⟩
 norm_cast;rintro aK R ⟨a,h,b,n,v,rfl,hA,ok,qq⟩;have q:=qq W hA;unfold HM.ij at q;dsimp only[bI]
 sizeOf_list_dec
 refine uK (pN hA) ?_;refine mG (fun i ys W'=>W'=W/\ys=((((h.cq.take i).filter fun o=>decide (o.1=n)).map fun o=>PyData.int o.2.2.1)).map .im) (by rw[aal];exact aaJ (cG (by have:=ok.ow;omega))) ⟨rfl,rfl⟩ (by rintro i ys _ ⟨rfl,_⟩;exact pN hA) ?_ ?_
 ·rintro i d ys _ hd _ ⟨rfl,rfl⟩;rw[aap]at hd;obtain⟨r,hr,rfl⟩:=aaH.mp hd;have et:h.cq.take (i+1)=h.cq.take i++[r]:=by rw[aaT,hr];rfl
  unfold vo
  sizeOf_list_dec
  rw[et,acr];refine gj (fun e=>?_) (fun e=>?_)
  ·sizeOf_list_dec
   exact⟨rfl,by simp[show r.1=n from e]⟩
  ·exact⟨rfl,by simp[show ¬ r.1=n from e]⟩
 ·rintro ys _ ⟨rfl,rfl⟩;rw[aal,abe];refine cZ ?_
  sizeOf_list_dec
  refine ax ?_
  sizeOf_list_dec
  rw[aal];cases e:h.cq.filter fun o=>decide (o.1=n) with
  | nil =>
   rw[e]at q
   sizeOf_list_dec
   exact q
  | cons o r =>
   rw[e]at q;refine jM (by rw[aaV];omega) ?_
   sizeOf_list_dec
   refine bE (D:=.int o.2.2.1) (aX (j:=0) rfl) ?_
   sizeOf_list_dec
   dsimp only at q;refine gj (fun e=>?_) (fun e=>?_)
   ·rw[aaN e]at q
    sizeOf_list_dec
    exact q
   ·rw[aaD e]at q
    sizeOf_list_dec
    exact q
theorem BD(F:cL K "broken_by_down" "Holder.broken_by_down" sS f fd)(cN:fe K kH bL)(bu:mg "len"=none):ba P w K mg base cU 1 f fd ["self", "event"] (eC K (sP kH)):=by
 exact_mod_cast F.wj Fn (fun aK W R X zz=>by obtain⟨a,b,c,d,g,i,e,_⟩:=zz; rw[e];rfl);refine⟨_,(ae (bj (rH (w_or (aG (aI hu) (bD bq bu aa3 (aa (bx (ah 0)) ag)) af) (yU (aG (fc hu) (ao (ao (bx (ah 0)) af) af) (ao (ah 1) af))))) (ai (ay aJ)) aC)
  (ae (bj (aG (fc hu) (ao (ao (bx (ah 0)) af) af) (ao (ah 1) af)) (ai (ay aJ)) aC)
  (ai (ay (rJ (aG (aI hu) (ao (ao (bx (ah 0)) af) af) (ao (ah 1) af)) fh aJ))))),?_⟩
 norm_cast;rintro aK R ⟨a,h,b,n,c,v,rfl,hA,ok,qq⟩;have q:=qq W hA;have wl:=IQ hA;unfold HM.oK at q;dsimp only[bI];refine ax ?_
 sizeOf_list_dec
 rw[aal,aal];cases e:h.laid with
 | nil =>
  rw[e]at q
  sizeOf_list_dec
  exact q
 | cons l r =>
  rw[e]at q wl;refine jM (by rw[aaV];omega) ?_;dsimp only at q
  sizeOf_list_dec
  refine fk (v:=.im (oI l)) wl (aX (j:=0) rfl) ?_
  sizeOf_list_dec
  refine HA (fun e=>?_) (fun e=>?_)
  ·rw[aaN e]at q
   sizeOf_list_dec
   exact q
  rw[aaD (fun z=>z e)]at q
  sizeOf_list_dec
  refine ax ?_
  sizeOf_list_dec
  refine fk (v:=.im (oI l)) wl (aX (j:=0) rfl) ?_
  sizeOf_list_dec
  refine HA (fun e=>?_) (fun e=>?_)
  ·rw[aaN e]at q
   sizeOf_list_dec
   exact q
  rw[aaD (fun z=>z e)]at q
  sizeOf_list_dec
  refine fk (v:=.im (oI l)) wl (aX (j:=0) rfl) ?_
  sizeOf_list_dec
  refine gj (fun e=>?_) (fun e=>?_)
  ·rw[aaN e]at q
   sizeOf_list_dec
   exact q
  ·rw[aaD e]at q
   sizeOf_list_dec
   exact q
theorem BE(F:cL K "broken_by_bell" "Holder.broken_by_bell" sT f fd)(cN:fe K kH bL)(iY:iR P w K mg base 3 kH "waiting_by" f1 d1 ["self", "beat"] (eC K (mJ kH))):ba P w K mg base cU 4 f fd ["self", "event"] (eC K (sQ kH)):=by
 exact_mod_cast F.wj vv (fun aK W R X zz=>by obtain⟨a,b,c,d,e,_⟩:=zz; rw[e];rfl);refine⟨_,(ae (aA 2 vv.nd (dE iY hr (ah 0) (aa (ao (ah 1) af) ag)))
  (ae (bj (Dj (qf hu) (ao (ah 1) af) (ah 2)) (ai (ay aJ)) aC)
  (ae (bj (tS (ao (bx (ah 0)) af)) (ai (ay aJ)) aC)
  (ai (ay (rJ (aG (aI hu) (ao (ah 2) af) (ao (ah 1) af)) fh aJ)))))),?_⟩
 norm_cast;rintro aK R ⟨a,h,b,k,rfl,hA,ok,qq⟩;unfold HM.jy at qq;dsimp only[bI]
 sizeOf_list_dec
 refine cg hA aL fun W1 R' h1 g=>⟨a,h,b,rfl,h1,ok,fun W' h'=>g _ _ fun W2 t fr=>?_⟩;have l7:=t _ h' aL;have q:=qq W2 l7;clear fr t h' h1 g hA qq
 sizeOf_list_dec
 refine ax ?_
 sizeOf_list_dec
 refine om (neg:=true) zT ?_
 sizeOf_list_dec
 by_cases e:k∈h.iX b
 ·rw[aaD (fun z=>z e)]at q;rw[aaN rfl,aaM e]
  sizeOf_list_dec
  refine ax ?_
  sizeOf_list_dec
  cases es:h.st.gk with
  | true =>
   rw[es,aaN rfl]at q
   sizeOf_list_dec
   exact q
  | false =>
   rw[es,aaD (by decide)]at q
   sizeOf_list_dec
   cases ew:h.iX b with
   | nil=>rw[ew]at e;cases e
   | cons x r =>
    rw[ew]at q;refine bE (D:=.int x) (aX (j:=0) rfl) ?_
    sizeOf_list_dec
    rw[List.head?_cons]at q;refine gj (fun e=>?_) (fun e=>?_)
    ·rw[aaN (by rw[e])]at q
     sizeOf_list_dec
     exact q
    ·rw[aaD (fun z=>e (aa5 z))]at q
     sizeOf_list_dec
     exact q
 ·rw[aaN e]at q;rw[aaN rfl,aaF e]
  sizeOf_list_dec
  exact q
end
noncomputable def x9(kH:Addr):jY:=fun aK W R _=>∃ a h b pl t,aK=[.pt a.p,.im (bI (.fin b pl t))]/\At W (dH kH a h)/\eF h/\x6 t.E4/\∀ W',At W' (dH kH a h)->R (.im (vp (h.iA b pl t))) W'
noncomputable def l9:Ev->Prop
 | .fin _ _ t=>x6 t.E4
 | _=>True
noncomputable def sU(kH:Addr):jY:=fun aK W R _=>∃ a h e,aK=[.pt a.p,.im (bI e)]/\At W (dH kH a h)/\eF h/\l9 e/\∀ W',At W' (dH kH a h)->R (.im (vp (h.bH e))) W'
abbrev ya:Stmt:=(met 33 3)
abbrev sW:Stmt:=(met 33 2)
theorem sX:av ["self", "event", "beat", "row"] ["self", "event"] (defScope ya):=by ac_rfl
theorem vw:av ["self", "event", "beat"] ["self", "event"] (defScope sW):=by ac_rfl
section
variable {K:zn}
theorem IZ(x:Int)(o:v0):PyData.eqv (.int x) (xI o)=decide (some x=o):=by
 cases o with
 | none=>rfl
 | some y=>show(x == y)=_;by_cases e:x=y<;>simp[e]
theorem I0{x:Int}{o:v0}(h:Q (.im (.bool (decide (some x=o)))) W):DB (.im (.int x)) (.im (xI o)) W Q:=by
 refine⟨_,_,cv,cv,.inr ⟨rfl,by cases o<;>rfl,by cases o<;>exact aaW _⟩,?_⟩;rw[IZ];exact h
theorem qG(bs:List Bool):iO ((bs.map PyData.bool).map .im)=some bs:=by rw[ach];exact xl bs
theorem Fq{f4 f5 f6 f7:Addr}{d5 d6 d7:wT}(F:cL K "broken_by_end" "Holder.broken_by_end" ya f fd)(cN:fe K kH bL)(xT:Dn P w K mg base 1 "rests" f1 d1 ["mill", "state"] (df sC))(oR:iR P w K mg base 1 kH "ends_at" f2 d2 ["self", "beat"] (eC K (mK kH)))(iZ:iR P w K mg base 4 kH "is_pressed" f3 d3 ["self", "beat"] (eC K (ka kH)))(Fs:iR P w K mg base 1 kH "row_now" f4 d4 ["self"] (eC K (Fh kH)))(vx:Dn P w K mg base 1 "spots_read" f5 d5 ["row"] (df xV))(gB:Dn P w K mg base 1 "spot_written" f6 d6 ["row"] (df zL))(kZ:iR P w K mg base 5 kH "broken_by_wrote" f7 d7 ["self", "row", "wrote"] (eC K (oP kH)))(lQ:mg "any"=none):ba P w K mg base cU 6 f fd ["self", "event"] (eC K (x9 kH)):=by
 exact_mod_cast F.wj sX (fun aK W R X zz=>by obtain⟨a,b,c,d,g,e,_⟩:=zz; rw[e];rfl);refine⟨_,(ae (aA 2 sX.nd (ao (ah 1) af))
  (ae (bj (tS (ar xT hr (aa (bx (ah 0)) (aa (bx (ah 0)) ag)))) (ai (ay aJ)) aC)
  (ae (bj (aG (fc hu) (ao (ah 1) af) (ao (bx (ah 0)) af)) (ai (ay aJ)) aC)
  (ae (bj (aG pS (dE oR hr (ah 0) (aa (ah 2) ag)) (bx (ah 0))) (ai (ay aJ)) aC)
  (ae (bj (rH (w_and (tS (dE iZ hr (ah 0) (aa (ah 2) ag))) (dR (aG pS (bx (ah 0)) (bx (ah 0)))))) (ai (ay aJ)) aC)
  (ae (aA 3 sX.nd (zw Fs hr (ah 0)))
  (ae (bj (tS (bD (qd rfl) lQ PyProof.Rows.boot_any (aa (fb (N':=["n", "spot", "worth", "told", "row"]) (ix:=[none,none,none,none,some 3]) ⟨rfl,rfl,rfl,rfl,rfl,rfl⟩ (dQ (bx (ah 0))) (fun _ _ _ _=>(fY (n:=4) (bo (aO 0 (show List.Nodup (["n", "spot", "worth", "told", "row"]:wv) by decide +kernel)) (bo (aO 1 (show List.Nodup (["n", "spot", "worth", "told", "row"]:wv) by decide +kernel)) (bo (aO 2 (show List.Nodup (["n", "spot", "worth", "told", "row"]:wv) by decide +kernel)) (bo (aO 3 (show List.Nodup (["n", "spot", "worth", "told", "row"]:wv) by decide +kernel)) fN)))))) (fun _ _ _ _=>nL) (fun _ _ _ _=>(US (Qm (nS hu) (ah 1) (ar vx hr (aa (ah 4) ag))) (Dk (jJ (aI hu) (ah 1) (ar gB hr (aa (ah 4) ag))))))) ag))) (ai (ay aJ)) aC)
  (ai (ay (dE kZ hr (ah 0) (aa (ah 3) (aa (ao (ah 1) af) ag)))))))))))),?_⟩
 norm_cast;rintro aK R ⟨a,h,b,pl,t,rfl,hA,ok,hT,qq⟩;unfold HM.iA at qq;dsimp only[bI]
 sizeOf_list_dec
 refine ax ?_
 sizeOf_list_dec
 refine aY (ds:=[dS h.rows h.fu,gb h.st]) ⟨h.rows,h.fu,h.st.place,_,rfl,cQ ?_⟩
 sizeOf_list_dec
 refine gj (fun e=>?_) (fun e=>?_)
 ·rw[aaN e]at qq
  sizeOf_list_dec
  exact qq W hA
 rw[aaD e]at qq;have hp:h.st.place < h.rows.length:=by have:=ok.st.p1;omega
 have ro:=(gN ok.j9 ok.st.p0 hp).2
 sizeOf_list_dec
 refine ax ?_
 sizeOf_list_dec
 refine HA (fun e=>?_) (fun e=>?_)
 ·rw[aaN e]at qq
  sizeOf_list_dec
  exact qq W hA
 rw[aaD (fun z=>z e)]at qq
 sizeOf_list_dec
 refine ax ?_
 sizeOf_list_dec
 refine cg hA aL fun W1 R' h1 g=>⟨a,h,b,rfl,h1,fun W' h'=>g _ _ fun W2 t fr=>?_⟩;have l7:=t _ h' aL;clear fr t h' h1 g hA
 sizeOf_list_dec
 refine gj (fun e=>?_) (fun e=>?_)
 ·rw[aaN e]at qq
  sizeOf_list_dec
  exact qq _ l7
 rw[aaD e]at qq
 sizeOf_list_dec
 refine fV (fun ρ W=>¬ (h.bK b=true/\h.gc<=h.bJ)/\At W (dH kH a h)/\ρ=[some (.pt a.p),some (.im (bI (.fin b pl t))),some (.im (.int b)),none]) (fun k hk=>?_) ?_
 ·sizeOf_list_dec
  refine cg l7 aL fun W1 R' h1 g=>⟨a,h,b,rfl,h1,ok,fun W' h'=>g _ _ fun W2 t fr=>?_⟩;have hA:=t _ h' aL;clear fr t h' h1 g l7
  sizeOf_list_dec
  cases ep:h.bK b with
  | false =>
   sizeOf_list_dec
   exact hk _ _ ⟨fun z=>(aaC (ep.symm.trans z.1)),hA,rfl⟩
  | true =>
   sizeOf_list_dec
   refine gj (fun e=>?_) (fun e=>?_)
   ·rw[aaN ⟨ep,e⟩]at qq
    sizeOf_list_dec
    exact qq _ hA
   ·sizeOf_list_dec
    exact hk _ _ ⟨fun z=>e z.2,hA,rfl⟩
 clear l7;rintro ρ W ⟨hn,hA,rfl⟩;rw[aaD hn]at qq;obtain⟨hx,Ee⟩:=E7 ro
 sizeOf_list_dec
 refine cg hA aL fun W1 R' h1 g=>⟨a,h,rfl,h1,ok,hp,fun W' h'=>g _ _ fun W2 t fr=>?_⟩;have l7:=t _ h' aL;clear fr t h' h1 g hA
 sizeOf_list_dec
 refine ax ?_
 sizeOf_list_dec
 refine uK (pN l7) ?_
 sizeOf_list_dec
 refine mG (fun i ys W=>ys=(((h.cq.take i).map fun o=>bM h.row o.2.1).map PyData.bool).map .im/\At W (dH kH a h)) (by rw[aal];exact aaJ (cG (by have:=ok.ow;omega))) ⟨rfl,l7⟩ (fun i ys W ⟨_,h⟩=>pN h) ?_ ?_
 ·rintro i d ys W hd _ ⟨rfl,hA⟩;rw[aap]at hd;obtain⟨o,hl,rfl⟩:=aaH.mp hd;have et:h.cq.take (i+1)=h.cq.take i++[o]:=by rw[aaT,hl];rfl
  unfold vo
  sizeOf_list_dec
  refine aY (ds:=[bX h.row]) ⟨R5 h.row,kX h.row,kW h.row,by rw[hx],Ee,jX ?_⟩;refine om (neg:=false) (b:=.im (.list ((cD (kX h.row) (kW h.row)).map .int))) zT ?_
  sizeOf_list_dec
  rw[et,aaU]
  by_cases e:o.2.1∈cD (kX h.row) (kW h.row)
  ·refine pH e ?_
   sizeOf_list_dec
   exact⟨by simp[bM,e],hA⟩
  ·refine jM e ?_
   sizeOf_list_dec
   refine aY (ds:=[bX h.row]) ⟨R5 h.row,kX h.row,kW h.row,by rw[hx],Ee,cQ (I0 ?_)⟩;exact⟨by simp[bM,e],hA⟩
 ·rintro ys W4 ⟨rfl,hA⟩;rw[aal,abe];refine cZ ?_
  sizeOf_list_dec
  refine⟨_,_,_,rfl,rfl,qG _,?_⟩
  sizeOf_list_dec
  rw[show(List.map (fun o=>bM h.row o.2.1) h.cq).any id=h.cq.any (fun o=>bM h.row o.2.1) by rw[List.any_map];rfl];cases eo:h.cq.any (fun o=>bM h.row o.2.1) with
  | true =>
   rw[eo,aaN rfl]at qq
   sizeOf_list_dec
   exact qq _ hA
  | false =>
   rw[eo,aaD (by decide)]at qq
   sizeOf_list_dec
   refine cg hA aL fun W1 R' h1 g=>⟨a,h,t,rfl,h1,ok,hp,hT,fun W' h'=>g _ _ fun W2 t fr=>?_⟩;exact qq _ (t _ h' aL)
theorem BF{f4:Addr}(F:cL K "first_broken" "Holder.first_broken" sW f fd)(cN:fe K kH bL)(oS:iR P w K mg base 6 kH "broken_by_end" f1 d1 ["self", "event"] (eC K (x9 kH)))(mf:iR P w K mg base 1 kH "broken_by_late" f2 d2 ["self", "event"] (eC K (sO kH)))(mh:iR P w K mg base 1 kH "broken_by_down" f3 d3 ["self", "event"] (eC K (sP kH)))(mj:iR P w K mg base 4 kH "broken_by_bell" f4 d4 ["self", "event"] (eC K (sQ kH)))(lQ:mg "any"=none):ba P w K mg base cU 7 f fd ["self", "event"] (eC K (sU kH)):=by
 exact_mod_cast F.wj vw (fun aK W R X zz=>by obtain⟨a,b,c,e,_⟩:=zz; rw[e];rfl);refine⟨_,(ae (aA 2 vw.nd (ao (ah 1) af))
  (ae (bj (aG lE (ah 2) (bx (ah 0))) (ai (ay aJ)) aC)
  (ae (bj (tS (bD (qd rfl) lQ PyProof.Rows.boot_any (aa (fb (N':=["n", "spot", "worth", "told", "beat", "self"]) (ix:=[none,none,none,none,some 2,some 0]) ⟨rfl,rfl,rfl,rfl,rfl,rfl⟩ (dQ (bx (ah 0))) (fun _ _ _ _=>(fY (n:=4) (bo (aO 0 (show List.Nodup (["n", "spot", "worth", "told", "beat", "self"]:wv) by decide +kernel)) (bo (aO 1 (show List.Nodup (["n", "spot", "worth", "told", "beat", "self"]:wv) by decide +kernel)) (bo (aO 2 (show List.Nodup (["n", "spot", "worth", "told", "beat", "self"]:wv) by decide +kernel)) (bo (aO 3 (show List.Nodup (["n", "spot", "worth", "told", "beat", "self"]:wv) by decide +kernel)) fN)))))) (fun _ _ _ _=>nL) (fun _ _ _ _=>(jJ lE (aT aV (ah 3) (bx (ah 5))) (ah 4)))) ag))) (ai (ay aJ)) aC)
  (ae (bj (aG (aI hu) (ao (ah 1) af) aJ) (ai (ay (dE oS hr (ah 0) (aa (ah 1) ag)))) aC)
  (ae (bj (aG (aI hu) (ao (ah 1) af) aJ) (ai (ay (dE mf hr (ah 0) (aa (ah 1) ag)))) aC)
  (ae (bj (aG (aI hu) (ao (ah 1) af) aJ) (ai (ay (dE mh hr (ah 0) (aa (ah 1) ag)))) aC)
  (ai (ay (dE mj hr (ah 0) (aa (ah 1) ag)))))))))),?_⟩
 norm_cast;rintro aK R ⟨a,h,e,rfl,hA,ok,hE,qq⟩;unfold HM.bH at qq;have e1:∃ x r,bI e=.tuple (.str x::.int e.aF::r):=by cases e<;>exact⟨_,_,rfl⟩
 obtain⟨x,r,e1⟩:=e1;rw[e1]
 sizeOf_list_dec
 refine cn (D:=.int e.aF) (aX (j:=1) rfl) ?_
 sizeOf_list_dec
 refine ax ?_
 sizeOf_list_dec
 refine gj (fun z=>?_) (fun z=>?_)
 ·rw[aaN z]at qq
  sizeOf_list_dec
  exact qq W hA
 rw[aaD z]at qq
 sizeOf_list_dec
 refine ax ?_
 sizeOf_list_dec
 refine uK (pN hA) ?_
 sizeOf_list_dec
 refine mG (fun i ys W=>ys=(((h.cq.take i).map fun o=>decide (o.2.2.2+h.longest < e.aF)).map PyData.bool).map .im/\At W (dH kH a h)) (by rw[aal];exact aaJ (cG (by have:=ok.ow;omega))) ⟨rfl,hA⟩ (fun i ys W ⟨_,h⟩=>pN h) ?_ ?_
 ·clear hA;rintro i d ys W hd _ ⟨rfl,hA⟩;rw[aap]at hd;obtain⟨o,hl,rfl⟩:=aaH.mp hd;have et:h.cq.take (i+1)=h.cq.take i++[o]:=by rw[aaT,hl];rfl
  unfold vo
  sizeOf_list_dec
  rw[et,aaU];exact⟨by simp,hA⟩
 clear hA;rintro ys W ⟨rfl,hA⟩;rw[aal,abe];refine cZ ?_
 sizeOf_list_dec
 refine⟨_,_,_,rfl,rfl,qG _,?_⟩
 sizeOf_list_dec
 rw[show(List.map (fun o:Int×Int×Int×Int=>decide (o.2.2.2+h.longest < e.aF)) h.cq).any id=h.cq.any (fun o=>decide (o.2.2.2+h.longest < e.aF)) by rw[List.any_map];rfl];cases eo:h.cq.any (fun o=>decide (o.2.2.2+h.longest < e.aF)) with
 | true =>
  rw[eo,aaN rfl]at qq
  sizeOf_list_dec
  exact qq _ hA
 | false =>
  rw[eo,aaD (by decide)]at qq
  sizeOf_list_dec
  refine ax ?_;cases e with
  | fin b pl t =>
   cases e1
   sizeOf_list_dec
   refine cg hA aL fun W1 R' h1 g=>⟨a,h,b,pl,t,rfl,h1,ok,hE,fun W' h'=>g _ _ fun W2 t fr=>?_⟩;exact qq _ (t _ h' aL)
  | az b n v =>
   cases e1
   sizeOf_list_dec
   refine ax ?_
   sizeOf_list_dec
   refine cg hA aL fun W1 R' h1 g=>⟨a,h,b,n,v,rfl,h1,ok,fun W' h'=>g _ _ fun W2 t fr=>?_⟩;exact qq _ (t _ h' aL)
  | down b n c v =>
   cases e1
   sizeOf_list_dec
   refine ax ?_
   sizeOf_list_dec
   refine ax ?_
   sizeOf_list_dec
   refine cg hA aL fun W1 R' h1 g=>⟨a,h,b,n,c,v,rfl,h1,ok,fun W' h'=>g _ _ fun W2 t fr=>?_⟩;exact qq _ (t _ h' aL)
  | gO b k =>
   cases e1
   sizeOf_list_dec
   refine ax ?_
   sizeOf_list_dec
   refine ax ?_
   sizeOf_list_dec
   refine cg hA aL fun W1 R' h1 g=>⟨a,h,b,k,rfl,h1,ok,fun W' h'=>g _ _ fun W2 t fr=>?_⟩;exact qq _ (t _ h' aL)
end
noncomputable def oT(kH:Addr):jY:=fun aK W R _=>∃ a h b t,aK=[.pt a.p,.im (.int b),.im (iW t)]/\At W (dH kH a h)/\eF h/\h.st.place < h.rows.length/\t.E4=oH.E4 (h.row.wrote h.st.aW h.st.cells).told/\∀ W',At W' (dH kH a (h.oM b t))->R (.im .none) W'
def lb(kH:Addr):jY:=fun aK W R _=>∃ a h k,aK=[.pt a.p,.im (.int k)]/\At W (dH kH a h)/\eF h/\0<=k/\k < h.fu.length/\h.st.gk=false/\∀ W',At W' (dH kH a (h.xX k))->R (.im .none) W'
abbrev oU:Stmt:=(met 33 13)
abbrev lh:Stmt:=(met 33 14)
theorem lj:av ["self", "beat", "wrote", "done", "right"] ["self", "beat", "wrote"] (defScope oU):=by ac_rfl
theorem yb:av ["self", "k"] ["self", "k"] (defScope lh):=by ac_rfl
section
variable {K:zn}
theorem vA{aN:Addr}(F:cL K "take_bell" "Holder.take_bell" lh f fd)(cN:fe K kH bL)(R7:Dn P w K mg base 2 "bell" f1 d1 ["mill", "state", "k"] (jv (df (ET aN aS)))):ba P w K mg base cU 3 f fd ["self", "k"] (eC K (lb kH)):=by
 exact_mod_cast F.wj yb (fun aK W R X zz=>by obtain⟨a,b,c,e,_⟩:=zz; rw[e];rfl);refine⟨_,(ae (cO (ah 0) (ar R7 hr (aa (bx (ah 0)) (aa (bx (ah 0)) (aa (ah 1) ag)))))
  (ae (cM (gS aaG aaQ aaR bQ (bx (ah 0)) (aa (ah 1) ag)))
  (ai (cO (ah 0) af)))),?_⟩
 norm_cast;rintro aK R ⟨a,h,k,rfl,hA,ok,k0,k1,hs,qq⟩
 sizeOf_list_dec
 refine aY (ds:=[dS h.rows h.fu,gb h.st,.int k]) ⟨h.rows,h.fu,h.st,k,rfl,fun _ _=>cQ ?_,fun z=>absurd ⟨k0,k1⟩ z,fun _ z=>absurd (hs.symm.trans z) aaC⟩
 sizeOf_list_dec
 refine KN { h with st:=zH h.fu k h.st } hA cN fun W1 O3=>?_;have wk:=N0 O3
 sizeOf_list_dec
 refine bU (N0 O3) (by rw[aal,aal];exact cG (by have:=ok.tk;exact aaA this (by decide))) fun W2 w2 f2=>?_;have l7:=Wo (xs:=h.taken++[k]) O3 f2 (by rw[w2];simp)
 sizeOf_list_dec
 refine KN (h.xX k) l7 cN fun W3 Ja=>?_;exact qq _ Ja
theorem yc(F:cL K "take_end" "Holder.take_end" oU f fd)(cN:fe K kH bL)(iZ:iR P w K mg base 4 kH "is_pressed" f1 d1 ["self", "beat"] (eC K (ka kH)))(Fo:Dn P w K mg base 4 "step" f2 d2 ["mill", "state"] (jv (df (SStep aR)))):ba P w K mg base cU 5 f fd ["self", "beat", "wrote"] (eC K (oT kH)):=by
 exact_mod_cast F.wj lj (fun aK W R X zz=>by obtain⟨a,b,c,d,e,_⟩:=zz; rw[e];rfl);refine⟨_,(ae (cO (ah 0) (rJ (tS (dE iZ hr (ah 0) (aa (ah 1) ag))) (aT aV (bx (ah 0)) af) af))
  (ae (aA 3 lj.nd (ar Fo hr (aa (bx (ah 0)) (aa (bx (ah 0)) ag))))
  (ae (aA 4 lj.nd (ao (ao (ah 3) af) af))
  (ae (bj (rH (w_and (rG (ah 2)) (dR (jK (ao (ah 2) af))))) (ai (cM (gS aaG aaQ aaR bQ (bx (ah 0)) (aa (bg (aa (bx (ah 0)) (aa (ao (ah 4) af) (aa (ao (ah 4) af) (aa (ah 1) ag))))) ag)))) (ai (bj (rH (w_and (rG (ah 2)) (dR (aG (aI hu) (ao (ah 2) af) aJ)))) (ai (cM (gS aaG aaQ aaR bQ (bx (ah 0)) (aa (bg (aa (bx (ah 0)) (aa (ao (ah 4) af) (aa (ao (ah 4) af) ag)))) ag)))) aC)))
  (ae (cO (ah 0) (ao (ah 3) af))
  (ae (nX qW (ah 0) af)
  (ai (nX qW (ah 0) af)))))))),?_⟩
 norm_cast;rintro aK R ⟨a,h,b,t,rfl,hA,ok,hp,hT,qq⟩;have ro:=(gN ok.j9 ok.st.p0 hp).2;refine cR [_,_,_,none,none] rfl ?_;refine fV (fun ρ W=>At W (dH kH a { h with bJ:=if h.bK b=true then h.bJ+1 else 0 })/\ρ=[some (.pt a.p),some (.im (.int b)),some (.im (iW t)),none,none]) (fun k hk=>?_) ?_
 ·sizeOf_list_dec
  refine cg hA aL fun W1 R' h1 g=>⟨a,h,b,rfl,h1,ok,fun W' h'=>g _ _ fun W2 t fr=>?_⟩;have O3:=t _ h' aL;clear fr t h' h1 g hA
  sizeOf_list_dec
  cases ep:h.bK b with
  | true =>
   sizeOf_list_dec
   refine KN { h with bJ:=h.bJ+1 } O3 cN fun W3 Ja=>?_;exact hk _ _ ⟨by rw[ep];exact Ja,rfl⟩
  | false =>
   sizeOf_list_dec
   refine KN { h with bJ:=0 } O3 cN fun W3 Ja=>?_;exact hk _ _ ⟨by rw[ep];exact Ja,rfl⟩
 clear hA;rintro ρ W ⟨hA,rfl⟩;generalize hpr:(if h.bK b=true then h.bJ+1 else 0)=pr at hA
 sizeOf_list_dec
 refine aY (ds:=[dS h.rows h.fu,gb h.st]) ⟨h.rows,h.fu,h.st,rfl,ok.j9,ok.st,fun _=>cQ ?_,fun z=>by omega⟩
 sizeOf_list_dec
 have R8:∀ h2:HM,h2=({ h with bJ:=pr }:HM).eI b t (h.row.wrote h.st.aW h.st.cells)->h.oM b t={ h2 with st:=fm h.row h.st,ends:=h2.ends+1,jx:=h2.jx+1 }:=fun h2 e=>by subst e;subst hpr;rfl
 refine fV (fun ρ W=>∃ h2:HM,h.oM b t={ h2 with st:=fm h.row h.st,ends:=h2.ends+1,jx:=h2.jx+1 }/\At W (dH kH a h2)/\∃ u,ρ=[some (.pt a.p),some (.im (.int b)),some (.im (iW t)),some (.im (.tuple [gb (fm h.row h.st),NU (h.st.place,h.row.wrote h.st.aW h.st.cells)])),u]) (fun k hk=>?_) ?_
 ·have wo:=pN hA;have wl:=IQ hA;rcases t with _ | ⟨k',x',v'⟩
  ·sizeOf_list_dec
   exact hk _ _ ⟨_,R8 _ (by unfold HM.eI;rfl),hA,_,rfl⟩
  obtain⟨v,ew⟩:∃ v,h.row.wrote h.st.aW h.st.cells=some (k',x',v):=by
   cases ew:h.row.wrote h.st.aW h.st.cells with
   | none=>rw[ew]at hT;cases hT
   | some y=>obtain⟨k',x',v'⟩:=y;rw[ew]at hT;cases hT;exact⟨v',rfl⟩
  rw[ew]at R8 ⊢;dsimp only[iW]
  sizeOf_list_dec
  cases v' with
  | none =>
   sizeOf_list_dec
   refine aB (ds:=[.int h.ends,.int x',.int v,.int b]) (by show 4<=sizeLine;decide) ?_
   sizeOf_list_dec
   refine bU wo (by rw[aal,aal];exact cG (by have:=ok.ow;exact aaA this (by decide))) fun W2 w2 f2=>?_;exact hk _ _ ⟨_,R8 _ rfl,Wq (xs:=h.cq++[(h.ends,x',v,b)]) hA f2 (by rw[w2];simp[vo]),some (.im (fL (some (k',x',v)))),by rw[ew];rfl⟩
  | some v' =>
   sizeOf_list_dec
   by_cases ek:k' = "cell"
   ·refine pH ek ?_
    sizeOf_list_dec
    refine aB (ds:=[.int h.ends,.int x',.int v]) (by show 3<=sizeLine;decide) ?_
    sizeOf_list_dec
    refine bU wl (by rw[aal,aal];exact cG (by have:=ok.la;exact aaA this (by decide))) fun W2 w2 f2=>?_;exact hk _ _ ⟨_,R8 _ (by unfold HM.eI;dsimp only;rw[aaN ek]),Wt (xs:=h.laid++[(h.ends,x',v)]) hA f2 (by rw[w2];simp[oI]),some (.im (fL (some (k',x',v)))),by rw[ew];rfl⟩
   ·refine jM ek ?_
    sizeOf_list_dec
    exact hk _ _ ⟨_,R8 _ (by unfold HM.eI;dsimp only;rw[aaD ek]),hA,some (.im (fL (some (k',x',v)))),by rw[ew];rfl⟩
 rintro ρ W ⟨h2,e2,hA,u,rfl⟩;rw[e2]at qq
 sizeOf_list_dec
 refine KN { h2 with st:=fm h.row h.st } hA cN fun W3 Ja=>?_
 sizeOf_list_dec
 refine Wn { h2 with st:=fm h.row h.st,ends:=h2.ends+1 } Ja fun W4 Wu=>?_
 sizeOf_list_dec
 refine Wn { h2 with st:=fm h.row h.st,ends:=h2.ends+1,jx:=h2.jx+1 } Wu fun W5 R9=>?_;exact qq _ R9
end
noncomputable def sY(kH:Addr):jY:=fun aK W R _=>∃ a h e,aK=[.pt a.p,.im (bI e)]/\At W (dH kH a h)/\eF h/\h.bH e=none/\∀ a' W',a'.on a->At W' (dH kH a' (h.cH e))->R (.im .none) W'
noncomputable def Ft(kH:Addr):jY:=fun aK W R _=>∃ a h e,aK=[.pt a.p,.im (bI e)]/\At W (dH kH a h)/\eF h/\l9 e/\h.cause=none/\∀ a' W',a'.on a->At W' (dH kH a' (h.tell e))->R (.im (vp (h.tell e).cause)) W'
theorem qH{e:Ev}(z:h.bH e=none):¬ e.aF < h.aF/\(match e with
  | .fin b pl t=>h.iA b pl t
  | .az _ n v=>h.ij n v
  | .down _ n c v=>h.oK n c v
  | .gO b k=>h.jy b k)=none:=by
 unfold HM.bH at z;split at z
 ·cases z
 ·rename_i hb;split at z
  ·cases z
  ·exact⟨hb,z⟩
theorem Fu{pl:Int}{t:oH}(ok:eF h)(z:h.iA b pl t=none):h.st.place < h.rows.length/\pl=h.st.place/\t.E4=oH.E4 (h.row.wrote h.st.aW h.st.cells).told:=by
 unfold HM.iA at z;split at z
 ·cases z
 rename_i h1;have:=ok.st.p1;refine⟨by omega,?_⟩;split at z
 ·cases z
 rename_i h2;refine⟨adM.mp h2,?_⟩;split at z
 ·cases z
 split at z
 ·cases z
 split at z
 ·cases z
 unfold HM.hZ at z;split at z
 ·cases z
 ·rename_i h3;exact adM.mp h3
theorem BG(ok:eF h)(m:k∈h.iX b):0<=k/\k < h.fu.length:=by
 unfold HM.iX oJ at m;have h2:=aa2 (aa4.mp m).2;have h3:k∈ft h.rings b:=List.count_pos_iff.mp (by omega);unfold ft at h3;obtain⟨r,hr,rfl⟩:=abc.mp h3;exact ok.rb r (aa4.mp hr).1
theorem zV(ok:eF h)(z:h.jy b k=none):0<=k/\k < h.fu.length/\h.st.gk=false:=by
 unfold HM.jy at z;split at z
 ·cases z
 rename_i h1;split at z
 ·cases z
 rename_i h2;obtain⟨a,b⟩:=BG ok (adM.mp h1);exact⟨a,b,by simpa using h2⟩
abbrev sZ:Stmt:=(met 33 12)
abbrev Fv:Stmt:=(met 33 1)
theorem vB:av ["self", "event", "beat"] ["self", "event"] (defScope sZ):=by ac_rfl
theorem Of:av ["self", "event"] ["self", "event"] (defScope Fv):=by ac_rfl
section
variable {K:zn}
theorem Jb(xs:List α):cutD xs (some 1) none=xs.drop 1:=by
 have e:HT.dN xs.length 0 (some 1)=min 1 xs.length:=by rw[show(some 1:v0)=some ((1:Nat):Int) from rfl,HT.my]
 unfold cutD;rw[e,HT.nr];cases xs with
 | nil=>rfl
 | cons x r=>show((x::r).drop (min 1 (r.length+1))).take ((r.length+1) - min 1 (r.length+1))=r;rw[acS (by omega)];simp
theorem BH(F:cL K "take_up" "Holder.take_up" sZ f fd)(cN:fe K kH bL)(oR:iR P w K mg base 1 kH "ends_at" f1 d1 ["self", "beat"] (eC K (mK kH)))(BI:iR P w K mg base 5 kH "take_end" f2 d2 ["self", "beat", "wrote"] (eC K (oT kH)))(yd:iR P w K mg base 3 kH "take_bell" f3 d3 ["self", "k"] (eC K (lb kH))):ba P w K mg base cU 6 f fd ["self", "event"] (eC K (sY kH)):=by
 exact_mod_cast F.wj vB (fun aK W R X zz=>by obtain⟨a,b,c,e,_⟩:=zz; rw[e];rfl);refine⟨_,(ae (aA 2 vB.nd (ao (ah 1) af))
  (ae (cO (ah 0) (dE oR hr (ah 0) (aa (ah 2) ag)))
  (ae (bj (aG (aI hu) (ao (ah 1) af) aJ) (ai (cM (dE BI hr (ah 0) (aa (ah 2) (aa (ao (ah 1) af) ag))))) (ai (bj (aG (aI hu) (ao (ah 1) af) aJ) (ai (cO (ah 0) (fb (N':=["one", "event"]) (ix:=[none,some 1]) ⟨rfl,rfl,rfl,rfl,rfl,rfl⟩ (dQ (bx (ah 0))) (fun _ _ _ _=>(aO 0 (show List.Nodup (["one", "event"]:wv) by decide +kernel))) (fun _ _ _ _=>(eZ (aG (fc hu) (ao (ah 0) af) (ao (ah 1) af)))) (fun _ _ _ _=>(ah 0))))) (ai (bj (aG (aI hu) (ao (ah 1) af) aJ) (ai (cO (ah 0) (nH gR (bx (ah 0)) (fQ af) fO))) (ai (cM (dE yd hr (ah 0) (aa (ao (ah 1) af) ag)))))))))
  (ae (cO (ah 0) (ah 2))
  (ai (nX qW (ah 0) af)))))),?_⟩
 norm_cast;rintro aK R ⟨a,h,e,rfl,hA,ok,hb,qq⟩;obtain⟨_,hb⟩:=qH hb;have e1:∃ x r,bI e=.tuple (.str x::.int e.aF::r):=by cases e<;>exact⟨_,_,rfl⟩
 obtain⟨x,r,e1⟩:=e1;rw[e1];refine cR [_,_,none] rfl ?_
 sizeOf_list_dec
 refine cn (D:=.int e.aF) (aX (j:=1) rfl) ?_
 sizeOf_list_dec
 refine cg hA aL fun W1 R' h1 g=>⟨a,h,e.aF,rfl,h1,fun W' h'=>g _ _ fun W2 t fr=>?_⟩;have l7:=t _ h' aL;clear fr t h' h1 g hA
 sizeOf_list_dec
 refine KN { h with jx:=h.endsAt e.aF } l7 cN fun W3 hA=>?_;clear l7;have YV:eF { h with jx:=h.endsAt e.aF }:=⟨ok.j9,ok.st,ok.rl,ok.rb,ok.tk,ok.ow,ok.la⟩;refine fV (fun ρ W=>∃ a' h2,a'.on a/\At W (dH kH a' h2)/\h.cH e={ h2 with aF:=e.aF,events:=h2.events+1 }/\ρ=[some (.pt a.p),some (.im (bI e)),some (.im (.int e.aF))]) (fun k hk=>?_) ?_
 ·cases e with
  | fin b pl t =>
   obtain⟨z1,z2,z3⟩:=Fu ok hb;cases e1
   sizeOf_list_dec
   refine cg hA aL fun W1 R' h1 g=>⟨a,_,b,t,rfl,h1,YV,z1,z3,fun W' h'=>g _ _ fun W2 t fr=>?_⟩;exact hk _ _ ⟨a,_,⟨rfl,rfl⟩,t _ h' aL,rfl,rfl⟩
  | az b n v =>
   cases e1
   sizeOf_list_dec
   refine uK (pN hA) ?_
   sizeOf_list_dec
   refine mG (fun i ys W'=>W'=W3/\ys=((((h.cq.take i).filter fun o=>decide (o.1≠n)).map vo)).map .im) (by rw[aal];exact aaJ (cG (by have:=ok.ow;exact aaA this (by decide)))) ⟨rfl,rfl⟩ (by rintro i ys _ ⟨rfl,_⟩;exact pN hA) ?_ ?_
   ·rintro i d ys _ hd _ ⟨rfl,rfl⟩;rw[aap]at hd;obtain⟨o,hl,rfl⟩:=aaH.mp hd;have et:h.cq.take (i+1)=h.cq.take i++[o]:=by
     have NP:h.cq[i]?=some o:=hl;rw[aaT,NP];rfl
    sizeOf_list_dec
    rw[et,acr];refine HA (fun z=>?_) (fun z=>?_)
    ·sizeOf_list_dec
     exact⟨rfl,by simp[show ¬ o.1=n from z]⟩
    ·exact⟨rfl,by simp[show o.1=n from z]⟩
   ·rintro ys _ ⟨rfl,rfl⟩;rw[aal];refine jm fun q W4 hq wq fq=>?_
    sizeOf_list_dec
    refine YU 2 { a with ow:=q } { h with jx:=h.endsAt b,cq:=h.cq.filter fun o=>decide (o.1≠n) } hA cN hq fq wq (fun W5 R9=>hk _ _ ⟨{ a with ow:=q },_,⟨rfl,rfl⟩,R9,rfl,rfl⟩) ?_;rw[show(h.cq.take h.cq.length)=h.cq from abe ..]
    with_unfolding_all rfl
  | down b n c v =>
   cases e1
   sizeOf_list_dec
   refine RA (IQ hA) ?_;rw[Jb];refine jm fun q W4 hq wq fq=>?_
   sizeOf_list_dec
   refine YU 3 { a with la:=q } { h with jx:=h.endsAt b,laid:=h.laid.drop 1 } hA cN hq fq wq (fun W5 R9=>hk _ _ ⟨{ a with la:=q },_,⟨rfl,rfl⟩,R9,rfl,rfl⟩) ?_;rw[<- acm,<- acm]
   with_unfolding_all rfl
  | gO b k =>
   obtain⟨z1,z2,z3⟩:=zV ok hb;cases e1
   sizeOf_list_dec
   refine cg hA aL fun W1 R' h1 g=>⟨a,_,k,rfl,h1,YV,z1,z2,z3,fun W' h'=>g _ _ fun W2 t fr=>?_⟩;exact hk _ _ ⟨a,_,⟨rfl,rfl⟩,t _ h' aL,rfl,rfl⟩
 clear hA;rintro ρ W ⟨a',h2,⟨o1,o2⟩,hA,e2,rfl⟩;rw[e2]at qq;rw[<- o1]
 sizeOf_list_dec
 refine KN { h2 with aF:=e.aF } hA cN fun W3 Ja=>?_
 sizeOf_list_dec
 refine Wn { h2 with aF:=e.aF,events:=h2.events+1 } Ja fun W4 Wu=>?_;exact qq a' _ ⟨o1,o2⟩ Wu
theorem Jc(F:cL K "tell" "Holder.tell" Fv f fd)(cN:fe K kH bL)(pO:iR P w K mg base 7 kH "first_broken" f1 d1 ["self", "event"] (eC K (sU kH)))(Fw:iR P w K mg base 6 kH "take_up" f2 d2 ["self", "event"] (eC K (sY kH))):ba P w K mg base cU 8 f fd ["self", "event"] (eC K (Ft kH)):=by
 exact_mod_cast F.wj Of (fun aK W R X zz=>by obtain⟨a,b,c,e,_⟩:=zz; rw[e];rfl);refine⟨_,(ae (bj (jK (bx (ah 0))) (ae (cO (ah 0) (dE pO hr (ah 0) (aa (ah 1) ag)))
   (ai (bj (jK (bx (ah 0))) (ai (cM (dE Fw hr (ah 0) (aa (ah 1) ag)))) aC))) aC)
  (ai (ay (bx (ah 0))))),?_⟩
 norm_cast;rintro aK R ⟨a,h,e,rfl,hA,ok,hE,hc,qq⟩;unfold HM.tell at qq;refine ax ?_
 sizeOf_list_dec
 rw[hc]
 sizeOf_list_dec
 refine cg hA aL fun W1 R' h1 g=>⟨a,h,e,rfl,h1,ok,hE,fun W' h'=>g _ _ fun W2 t fr=>?_⟩;have l7:=t _ h' aL;clear fr t h' h1 g hA
 sizeOf_list_dec
 refine KN { h with cause:=h.bH e } l7 cN fun W3 hA=>?_;clear l7;cases eb:h.bH e with
 | some x =>
  rw[eb]at qq hA
  sizeOf_list_dec
  exact qq a _ ⟨rfl,rfl⟩ hA
 | none =>
  rw[eb]at qq hA;have eh:({ h with cause:=none }:HM)=h:=by cases h;cases hc;rfl
  rw[eh]at hA
  sizeOf_list_dec
  rw[hc]
  sizeOf_list_dec
  refine cg hA aL fun W1 R' h1 g=>⟨a,h,e,rfl,h1,ok,eb,fun a' W' o h'=>g _ _ fun W2 t fr=>?_⟩;have l7:=t _ h' aL;have q:=qq a' _ o l7;obtain⟨o1,o2⟩:=o;rw[<- o1]
  sizeOf_list_dec
  exact q
end
structure YW where
 (width room queue gc longest:Int)
def vC(t:YW):PyData:=.tuple [.int t.width,.int t.room,.int t.queue,.int t.gc,.int t.longest]
def Fx(rs:List Rw)(bs:wn)(st:jl)(ps:tz)(t:YW):HM:=⟨rs,bs,ps,t.width,t.room,t.queue,t.gc,t.longest,st,0,0,0,0,0,[],[],[],none⟩
def ye(kH:Addr):jY:=fun aK W R _=>∃ p d rs bs st ps t,aK=[.pt p,.im (dS rs bs),.im (gb st),.im (.list (ps.map pairD)),.im (vC t)]/\At W [(p,.ob kH d [])]/\ps.length<=1000/\∀ a W',a.p=p->At W' (dH kH a (Fx rs bs st ps t))->R (.im .none) W'
noncomputable def fv:HM->List Ev->Option (Int×Str)
 | _,[]=>none
 | h,e::r=>match (h.tell e).cause with
  | some x=>some ((h.tell e).events,x)
  | none=>fv (h.tell e) r
noncomputable def oV:jj:=fun ds R _=>∃ rs bs st ps t es,ds=[dS rs bs,gb st,.list (ps.map pairD),vC t,.list (es.map bI)]/\eF (Fx rs bs st ps t)/\(∀ e∈es,l9 e)/\es.length<=4000/\R (.im (pL (fv (Fx rs bs st ps t) es)))
structure BJ(h:HM)(n:Nat):Prop where
 tk:h.taken.length<=n
 ow:h.cq.length<=n
 la:h.laid.length<=n
theorem BK(l:BJ h n)(b:Int)(t:oH)(w:sy):BJ (h.eI b t w) (n+1)/\∃ o la,h.eI b t w={ h with cq:=o,laid:=la }:=by
 have h1:=l.tk;have h2:=l.ow;have h3:=l.la;unfold HM.eI;split
 ·exact⟨⟨aaY h1,by simp only[aaP,aaV,acR];omega,aaY h3⟩,_,_,rfl⟩
 ·split
  ·exact⟨⟨aaY h1,aaY h2,by simp only[aaP,aaV,acR];omega⟩,_,_,rfl⟩
  ·exact⟨⟨aaY h1,aaY h2,aaY h3⟩,_,_,rfl⟩
 ·exact⟨⟨aaY h1,aaY h2,aaY h3⟩,_,_,rfl⟩
theorem Sa{e:Ev}(ok:eF h)(hb:h.bH e=none)(l:BJ h n)(hn:n < 5000):eF (h.cH e)/\BJ (h.cH e) (n+1)/\(h.cH e).cause=h.cause/\(h.cH e).events=h.events+1:=by
 obtain⟨_,hb⟩:=qH hb;cases e with
 | fin b pl t =>
  obtain⟨z1,z2,z3⟩:=Fu ok hb;have ro:=(gN ok.j9 ok.st.p0 z1).2;have l1:BJ { h with jx:=h.endsAt b,bJ:=if({ h with jx:=h.endsAt b }:HM).bK b=true then h.bJ+1 else 0 } n:=⟨l.tk,l.ow,l.la⟩;obtain⟨l2,o,la,e2⟩:=BK l1 b t (h.row.wrote h.st.aW h.st.cells);have eu:h.cH (.fin b pl t)={ ({ h with jx:=h.endsAt b,bJ:=if({ h with jx:=h.endsAt b }:HM).bK b=true then h.bJ+1 else 0 }:HM).eI b t (h.row.wrote h.st.aW h.st.cells)with st:=fm h.row h.st,ends:=(({ h with jx:=h.endsAt b,bJ:=if({ h with jx:=h.endsAt b }:HM).bK b=true then h.bJ+1 else 0 }:HM).eI b t (h.row.wrote h.st.aW h.st.cells)).ends+1,jx:=(({ h with jx:=h.endsAt b,bJ:=if({ h with jx:=h.endsAt b }:HM).bK b=true then h.bJ+1 else 0 }:HM).eI b t (h.row.wrote h.st.aW h.st.cells)).jx+1,aF:=b,events:=(({ h with jx:=h.endsAt b,bJ:=if({ h with jx:=h.endsAt b }:HM).bK b=true then h.bJ+1 else 0 }:HM).eI b t (h.row.wrote h.st.aW h.st.cells)).events+1 }:=rfl;rw[eu];rw[e2]at l2 ⊢;have k1:=l2.tk;have k2:=l2.ow;have k3:=l2.la;exact⟨⟨ok.j9,zK ok.st z1 ro,ok.rl,ok.rb,aaA k1 hn,aaA k2 hn,aaA k3 hn⟩,⟨k1,k2,k3⟩,rfl,rfl⟩
 | az b m v =>
  have k:=l.ow;have k2:(h.cq.filter fun o=>decide (o.1≠m)).length<=n:=aaA (List.length_filter_le ..) k;exact⟨⟨ok.j9,ok.st,ok.rl,ok.rb,ok.tk,aaA k2 (aaJ hn),ok.la⟩,⟨aaY l.tk,aaY k2,aaY l.la⟩,rfl,rfl⟩
 | down b m c v =>
  have k:=l.la;have k2:(h.laid.drop 1).length<=n:=by rw[abZ];omega
  exact⟨⟨ok.j9,ok.st,ok.rl,ok.rb,ok.tk,ok.ow,aaA k2 (aaJ hn)⟩,⟨aaY l.tk,aaY l.ow,aaY k2⟩,rfl,rfl⟩
 | gO b k =>
  obtain⟨z1,z2,z3⟩:=zV ok hb;have k2:(h.taken++[k]).length<=n+1:=by have:=l.tk;simp only[aaP,aaV,acR];omega
  exact⟨⟨ok.j9,IH ok.st ok.j9.bok z1 z2,ok.rl,ok.rb,aaA k2 hn,ok.ow,ok.la⟩,⟨k2,aaY l.ow,aaY l.la⟩,rfl,rfl⟩
section
variable {K:zn}{W':Wd}{a:E6}{f:Str}{v:DV}{Pr:Wd->Prop}{L:Ws}
theorem tU(i:Nat)(hA:At W ((a.p,.ob kH a.d ((tT a h).take i))::L))(c:fe K kH bL)(q:∀ W1,At W1 ((a.p,.ob kH a.d ((tT a h).take (i+1)))::L)->Pr W1)(n:autoParam (f∈bL) ra9)(e:autoParam (putD f v ((tT a h).take i)=(tT a h).take (i+1)) ra3):∃ p' k d fs,DV.pt a.p=.pt p'/\W p'=some (.ob k d fs)/\lX K k/\cu K k f/\fs.length < 1000/\Pr (aH W p' (.ob k d (putD f v fs))) :=
 sd hA c 0 rfl n (by rw[aa8];exact acO (adR ..) (by show 18 < 1000;decide)) fun W1 h1 f1=>q W1 (by rw[e]at h1;exact h1)
theorem Wv{q:Addr}{x:Cell}(a':E6)(i:Nat)(hA:At W ((a.p,.ob kH a.d ((tT a h).take i))::L))(hq:W q=none)(fq:Fr q W W')(wq:W' q=some x)(e1:autoParam ((a'.p,Cell.ob kH a'.d ((tT a' h).take i))=(a.p,.ob kH a.d ((tT a h).take i))) ra0):At W' ((a'.p,.ob kH a'.d ((tT a' h).take i))::(q,x)::L):=by
 rw[e1];exact(hA.cons hq fq wq).perm (List.Perm.swap ..)
end
abbrev yf:Stmt:=(met 33 0)
abbrev ke:Stmt:=top 34
theorem Jd:av ["self", "mill", "state", "rings", "terms"] ["self", "mill", "state", "rings", "terms"] (defScope yf):=by ac_rfl
theorem ll:av ["mill", "state", "rings", "terms", "diary", "holder", "event"] ["mill", "state", "rings", "terms", "diary"] (defScope ke):=by ac_rfl
section
variable {K:zn}
theorem Fy(F:cL K "__init__" "Holder.__init__" yf f fd)(cN:fe K kH bL)(i0:mg "list"=none):ba P w K mg base cU 1 f fd ["self", "mill", "state", "rings", "terms"] (eC K (ye kH)):=by
 exact_mod_cast F.wj Jd (fun aK W R X zz=>by obtain⟨a,b,c,d,g,i,j,e,_⟩:=zz; rw[e];rfl);refine⟨_,(ae (cO (ah 0) (ah 1))
  (ae (cO (ah 0) (ah 2))
  (ae (cO (ah 0) (gJ nN i0 PyProof.Rows.boot_list (aa (ah 3) ag)))
  (ae (cO (ah 0) (ah 4))
  (ae (cO (ah 0) (ao (ah 4) af))
  (ae (cO (ah 0) (ao (ah 4) af))
  (ae (cO (ah 0) (ao (ah 4) af))
  (ae (cO (ah 0) (ao (ah 4) af))
  (ae (cO (ah 0) (ao (ah 4) af))
  (ae (cO (ah 0) af)
  (ae (cO (ah 0) af)
  (ae (cO (ah 0) af)
  (ae (cO (ah 0) af)
  (ae (cO (ah 0) af)
  (ae (cO (ah 0) (cm ag))
  (ae (cO (ah 0) (cm ag))
  (ae (cO (ah 0) (cm ag))
  (ai (cO (ah 0) fh))))))))))))))))))),?_⟩
 norm_cast;rintro aK R ⟨p,d,rs,bs,st,ps,t,rfl,hA,Ee,qq⟩;unfold vC;replace hA:At W [((⟨p,d,p,p,p⟩:E6).p,.ob kH (⟨p,d,p,p,p⟩:E6).d ((tT ⟨p,d,p,p,p⟩ (Fx rs bs st ps t)).take 0))]:=hA
 sizeOf_list_dec
 refine tU 0 hA cN fun W0 hB=>?_;clear hA;have hA:=hB;clear hB
 sizeOf_list_dec
 refine tU 1 hA cN fun W1 hB=>?_;clear hA;have hA:=hB;clear hB
 sizeOf_list_dec
 refine zr (cZ ?_)
 sizeOf_list_dec
 refine tU 2 hA cN fun W2 hB=>?_;clear hA;have hA:=hB;clear hB
 sizeOf_list_dec
 refine tU 3 hA cN fun W3 hB=>?_;clear hA;have hA:=hB;clear hB
 sizeOf_list_dec
 refine tU 4 hA cN fun W4 hB=>?_;clear hA;have hA:=hB;clear hB
 sizeOf_list_dec
 refine tU 5 hA cN fun W5 hB=>?_;clear hA;have hA:=hB;clear hB
 sizeOf_list_dec
 refine tU 6 hA cN fun W6 hB=>?_;clear hA;have hA:=hB;clear hB
 sizeOf_list_dec
 refine tU 7 hA cN fun W7 hB=>?_;clear hA;have hA:=hB;clear hB
 sizeOf_list_dec
 refine tU 8 hA cN fun W8 hB=>?_;clear hA;have hA:=hB;clear hB
 sizeOf_list_dec
 refine tU 9 hA cN fun W9 hB=>?_;clear hA;have hA:=hB;clear hB
 sizeOf_list_dec
 refine tU 10 hA cN fun W10 hB=>?_;clear hA;have hA:=hB;clear hB
 sizeOf_list_dec
 refine tU 11 hA cN fun W11 hB=>?_;clear hA;have hA:=hB;clear hB
 sizeOf_list_dec
 refine tU 12 hA cN fun W12 hB=>?_;clear hA;have hA:=hB;clear hB
 sizeOf_list_dec
 refine tU 13 hA cN fun W13 hB=>?_;clear hA;have hA:=hB;clear hB
 sizeOf_list_dec
 refine fX (aaW _) fun Sb V14 hq wq fq=>?_;replace hA:=Wv ⟨p,d,Sb,p,p⟩ 14 hA hq fq wq;clear hq fq wq
 sizeOf_list_dec
 refine tU 14 hA cN fun W14 hB=>?_;clear hA;have hA:=hB;clear hB
 sizeOf_list_dec
 refine fX (aaW _) fun TX V15 hq wq fq=>?_;replace hA:=Wv ⟨p,d,Sb,TX,p⟩ 15 hA hq fq wq;clear hq fq wq
 sizeOf_list_dec
 refine tU 15 hA cN fun W15 hB=>?_;clear hA;have hA:=hB;clear hB
 sizeOf_list_dec
 refine fX (aaW _) fun Ww V16 hq wq fq=>?_;replace hA:=Wv ⟨p,d,Sb,TX,Ww⟩ 16 hA hq fq wq;clear hq fq wq
 sizeOf_list_dec
 refine tU 16 hA cN fun W16 hB=>?_;clear hA;have hA:=hB;clear hB
 sizeOf_list_dec
 refine tU 17 hA cN fun W17 hB=>?_;clear hA;have hA:=hB;clear hB;refine qq ⟨p,d,Sb,TX,Ww⟩ _ rfl ?_;refine hA.perm ?_;exact .cons _ (List.reverse_perm [(Sb,Cell.lst []),(TX,Cell.lst []),(Ww,Cell.lst [])])
theorem yg(F:cL K "parting" "parting" ke f fd)(cN:fe K kH bL)(Je:VP P w K mg base 1 kH "Holder" f1 d1 ["self", "mill", "state", "rings", "terms"] (eC K (ye kH)))(Se:iR P w K mg base 8 kH "tell" f2 d2 ["self", "event"] (eC K (Ft kH)))(Jf:iR P w K mg base 1 kH "parted" f3 d3 ["self"] (eC K (sJ kH))):ba P w K mg base cU 9 f fd ["mill", "state", "rings", "terms", "diary"] (df oV):=by
 exact_mod_cast F.nT ll (by nofun);refine⟨_,(ae (aA 5 ll.nd (Nu Je hr (aa (ah 0) (aa (ah 1) (aa (ah 2) (aa (ah 3) ag))))))
  (ae (gn (dQ (ah 4)) (aO 6 ll.nd) (ai (bj (rG (dE Se hr (ah 5) (aa (ah 6) ag))) (ai (ay (zw Jf hr (ah 5)))) aC)))
  (ai (ay fh)))),?_⟩
 push_cast;rintro ds R ⟨rs,bs,st,ps,t,es,rfl,ok,hE,hl,q⟩;refine cR [_,_,_,_,_,none,none] rfl ?_
 sizeOf_list_dec
 intro p d hp hd mB;have YX:At (aH W0 p (.ob kH d [])) [(p,.ob kH d [])]:=⟨by simp,fun x hx=>by rw[aaq]at hx;subst hx;exact aq⟩;refine cg YX rfl fun W1 R' h1 g=>⟨p,d,rs,bs,st,ps,t,rfl,h1,aaA ok.rl (by decide),fun a W' hap h'=>g _ _ fun W2 t fr=>?_⟩;have hA:=t _ h' aL;clear fr t h' h1 g YX;refine⟨rfl,?_⟩;subst hap
 sizeOf_list_dec
 refine ax ?_
 sizeOf_list_dec
 refine jT (fun i ρ W=>∃ h a' u,a'.p=a.p/\At W (dH kH a' h)/\eF h/\BJ h i/\h.cause=none/\fv (Fx rs bs st ps t) es=fv h (es.drop i)/\ρ=[some (.im (dS rs bs)),some (.im (gb st)),some (.im (.list (ps.map pairD))),some (.im (vC t)),some (.im (.list (es.map bI))),some (.pt a.p),u]) ⟨_,a,_,rfl,hA,ok,⟨aar _,aar _,aar _⟩,rfl,rfl,rfl⟩ ?_ ?_
 ·clear hA;rintro i d ρ W hd ⟨h,a',u,o1,hA,ok,ln,hc,ep,rfl⟩;rw[aap]at hd;obtain⟨e,he,rfl⟩:=aaH.mp hd;have Bq:=(aan.mp he).1;have ed:es.drop i=e::es.drop (i+1):=by rw[acF Bq,(aan.mp he).2]
  have hEe:=hE e (aa0 he);rw[ed,show fv h (e::es.drop (i+1))=(match (h.tell e).cause with | some x=>some ((h.tell e).events,x) | none=>fv (h.tell e) (es.drop (i+1))) from rfl]at ep;rw[<- o1]at *
  sizeOf_list_dec
  refine cg hA aL fun W1 R' h1 g=>⟨a',h,e,rfl,h1,ok,hEe,hc,fun a2 W' o h'=>g _ _ fun W2 t fr=>?_⟩;have l7:=t _ h' aL;clear fr t h' h1 g hA;obtain⟨o2,_⟩:=o;rw[<- o2]at *
  sizeOf_list_dec
  cases ec:(h.tell e).cause with
  | some x =>
   rw[ec]at ep;rw[ep]at q
   sizeOf_list_dec
   refine cg l7 aL fun W1 R' h1 g=>⟨a2,_,rfl,h1,fun W' h'=>g _ _ fun W2 t fr=>?_⟩;rw[ec];exact q
  | none =>
   rw[ec]at ep
   sizeOf_list_dec
   have eb:h.bH e=none:=by
    cases eb:h.bH e with
    | none=>rfl
    | some x=>unfold HM.tell at ec;rw[eb]at ec;cases ec
   have et:h.tell e=h.cH e:=by unfold HM.tell;rw[eb]
   obtain⟨k1,k2,k3,_⟩:=Sa ok eb ln (by omega);rw[et]at l7 ep;exact⟨_,a2,_,rfl,l7,k1,k2,k3.trans hc,ep,rfl⟩
 ·clear hA;rintro ρ W ⟨h,a',u,o1,hA,ok,ln,hc,ep,rfl⟩;rw[aal,List.drop_length]at ep;rw[ep]at q
  sizeOf_list_dec
  exact q
end
theorem Og{e:Ev}(h:l9 e):(bI e).canLay0=true/\(bI e).depth<=2:=by
 have c:(PyData.str "end").canLay0=true/\(PyData.str "late").canLay0=true/\(PyData.str "down").canLay0=true/\(PyData.str "bell").canLay0=true/\(PyData.str "spot").canLay0=true/\(PyData.str "cell").canLay0=true:=by decide +kernel
 obtain⟨c1,c2,c3,c4,c5,c6⟩:=c;simp only[PyData.canLay0]at c1 c2 c3 c4 c5 c6;have k:∀ o:Option Int,(xI o).canLay0=true/\(xI o).depth=0:=fun o=>by cases o<;>exact⟨rfl,rfl⟩
 cases e with
 | fin b pl t =>
  rcases t with _ | ⟨w,x,v⟩
  ·exact⟨by simp[bI,iW,PyData.canLay0,PyData.canLayAll0,c1],by simp[bI,iW,PyData.depth,PyData.depthAll]⟩
  ·refine⟨?_,by simp[bI,iW,PyData.depth,PyData.depthAll,(k v).2]⟩;rcases h w x rfl with rfl | rfl<;>simp[bI,iW,PyData.canLay0,PyData.canLayAll0,c1,c5,c6,(k v).1]
 | az b n v=>exact⟨by simp[bI,PyData.canLay0,PyData.canLayAll0,c2],by simp[bI,PyData.depth,PyData.depthAll]⟩
 | down b n c v=>exact⟨by simp[bI,PyData.canLay0,PyData.canLayAll0,c3],by simp[bI,PyData.depth,PyData.depthAll]⟩
 | gO b k=>exact⟨by simp[bI,PyData.canLay0,PyData.canLayAll0,c4],by simp[bI,PyData.depth,PyData.depthAll]⟩
theorem FA(h:∀ d∈ds,d.canLay0=true/\d.depth<=2):(PyData.list ds).canLay0=true/\(PyData.list ds).depth<=64:=by
 have:PyData.canLayAll0 ds=true/\PyData.depthAll ds<=2:=by
  induction ds with
  | nil=>exact⟨rfl,aaW _⟩
  | cons d r ih =>
   obtain⟨h1,h2⟩:=h d (aax ..);obtain⟨i1,i2⟩:=ih fun x hx=>h x (aaw _ hx);exact⟨by rw[PyData.canLayAll0,h1,i1];rfl,by rw[PyData.depthAll];omega⟩
 exact⟨this.1,by rw[PyData.depth];omega⟩
theorem zW(h:∀ e∈es,l9 e):(PyData.list (es.map bI)).canLay0=true/\(PyData.list (es.map bI)).depth<=64:=FA fun d hd=>by obtain⟨e,he,rfl⟩:=abc.mp hd;exact Og (h e he)
noncomputable def kh:HM->List Ev->Option HM
 | h,[]=>some h
 | h,e::r=>match h.bH e with
  | none=>kh (h.cH e) r
  | some _=>none
theorem qI{e:Ev}(b:h.bH e=none):h.tell e=h.cH e:=by unfold HM.tell;rw[b]
theorem BM{e:Ev}(b:h.bH e=some x):h.tell e={ h with cause:=some x }:=by unfold HM.tell;rw[b]
theorem jd:∀{es:List Ev} {h h1:HM} {e:Ev},kh h es=some h1->h1.bH e=none->kh h (es++[e])=some (h1.cH e)
 | [],h,h1,e,f,b=>by cases f;show(match h.bH e with | none=>kh (h.cH e) [] | some _=>none)=_;rw[b];rfl
 | a::r,h,h1,e,f,b=>by
  show(match h.bH a with | none=>kh (h.cH a) (r++[e]) | some _=>none)=_;have f':(match h.bH a with | none=>kh (h.cH a) r | some _=>none)=some h1:=f;cases q:h.bH a with
  | some x=>rw[q]at f';cases f'
  | none=>rw[q]at f';exact jd f' b
theorem vD(h:HM)(e:Ev):(h.cH e).cause=h.cause:=by
 cases e with
 | fin b pl t=>show(HM.oM _ b t).cause=_;unfold HM.oM HM.eI;dsimp only;split<;>(try split)<;>rfl
 | az b n v=>rfl
 | down b n c v=>rfl
 | gO b k=>rfl
theorem lp:∀{es:List Ev} {h h1:HM} {r:List Ev},h.cause=none->kh h es=some h1->fv h (es++r)=fv h1 r/\h1.cause=none
 | [],h,h1,r,c,f=>by cases f;exact⟨rfl,c⟩
 | a::es,h,h1,r,c,f=>by
  have f':(match h.bH a with | none=>kh (h.cH a) es | some _=>none)=some h1:=f;cases q:h.bH a with
  | some x=>rw[q]at f';cases f'
  | none =>
   rw[q]at f';have c1:(h.tell a).cause=none:=by rw[qI q,vD];exact c
   show(match (h.tell a).cause with | some x=>some ((h.tell a).events,x) | none=>fv (h.tell a) (es++r))=_/\_;rw[c1,qI q];exact lp (by rw[vD];exact c) f'
theorem vE{e:Ev}{r:List Ev}(b:h.bH e=some x):fv h (e::r)=some (h.events,x):=by
 show(match (h.tell e).cause with | some x=>some ((h.tell e).events,x) | none=>fv (h.tell e) r)=_;rw[BM b]
abbrev GG:=Int×Int×Int×Int
variable {ow:List GG}
def dK(ord:wn)(k:Nat):Int:=ord.getD k 0
noncomputable def stN(rs:List Rw)(st:jl):Nat->jl
 | 0=>st
 | n+1=>fm (rowOf rs (n:Int)) (stN rs st n)
def wK(rs:List Rw)(st:jl)(k:Nat):Int:=(rowOf rs (k:Int)).gives st.aW st.cells
def oW(ord:wn)(k:Nat)(r:Rw):Prop:=∃ a,a∈ord.drop k/\((∃ b,b∈ord.drop k/\r=.op "mul" (dK ord k) a b)\/∃ n,0<=n/\n < 16/\r=.mv "take" (dK ord k) a n)
structure R3(ord:wn)(rs:List Rw)(m:Nat)(st:jl):Prop where
 len:rs.length=m+1
 zQ:∀ r∈rs,iE rs.length r
 pK:∀ k:Nat,k < m->oW ord k (rowOf rs (k:Int))
 nd:ord.Nodup
 rg:∀ x∈ord,0<=x/\x < 8
 ol:m<=ord.length
 ok:jo rs.length st
 p0:st.place=0
 kp:st.kept=none
theorem tf{k:Nat}(h:k < ord.length):ord.drop k=dK ord k::ord.drop (k+1):=by
 unfold dK;rw[acF h,aau,aas h];rfl
theorem vF{k:Nat}(h:k < ord.length):dK ord k∈ord:=by
 have:dK ord k∈ord.drop k:=by rw[tf h];exact aax
 exact abu this
theorem KP(nd:ord.Nodup)(h:j < n)(hn:j < ord.length):dK ord j ∉ ord.drop n:=by
 have h1:(ord.drop j).Nodup:=nd.sublist (List.drop_sublist _ _);rw[tf hn]at h1;intro z;refine(abD.mp h1).1 ?_;have:ord.drop n=(ord.drop (j+1)).drop (n - (j+1)):=by rw[List.drop_drop];congr 1;omega
 rw[this]at z;exact abu z
theorem Sf(ws:wn)(d v:Int):eB "spot" ws (some ("spot",d,v))=ws.set d.toNat v:=by unfold eB;exact aaN rfl
theorem Wx(ws:wn)(d v:Int):eB "cell" ws (some ("spot",d,v))=ws:=by unfold eB;exact aaD (by decide)
noncomputable def HM.Wy(h:HM):Ev->Option Str
 | .fin b pl t=>h.iA b pl t
 | .az _ n v=>h.ij n v
 | .down _ n c v=>h.oK n c v
 | .gO b k=>h.jy b k
theorem Oh{i x:Int}(hi:0<=i)(hx:0<=x)(h:x≠i):gI (xs.set i.toNat v) x=gI xs x:=by
 unfold gI;rw[aau,aau,adh (by omega)]
theorem FC(R:R3 ord rs m st)(h:n < m+1):rowOf rs (n:Int)∈rs:=by
 have hn:n < rs.length:=by rw[R.len];exact h
 unfold rowOf;rw[aau,aaB,aas hn];exact abA hn
theorem ki(R:R3 ord rs m st)(h:n < m){sp ce:wn}(hs:∀ x∈ord.drop n,gI sp x=gI st.aW x)(hc:ce=st.cells):(rowOf rs (n:Int)).wrote sp ce=some (("spot":Str),dK ord n,wK rs st n):=by
 obtain⟨a,ha,c⟩:=R.pK n h;unfold wK;rcases c with⟨b,hb,e⟩ | ⟨k,_,_,e⟩<;>rw[e]
 ·unfold Rw.wrote Rw.gives;dsimp only;rw[hs a ha,hs b hb]
 ·unfold Rw.wrote Rw.gives;dsimp only;rw[aaD (by decide),hs a ha,hc]
theorem ip(R:R3 ord rs m st):∀ n:Nat,n<=m->jo rs.length (stN rs st n)/\(stN rs st n).place=n/\(stN rs st n).kept=none/\(stN rs st n).cells=st.cells/\∀ x∈ord.drop n,gI (stN rs st n).aW x=gI st.aW x
 | 0,_=>⟨R.ok,R.p0,R.kp,rfl,fun _ _=>rfl⟩
 | n+1,h=>by
  obtain⟨k1,k2,k3,k4,k5⟩:=ip R n (by omega);have ew:=ki R (show n < m by omega) k5 k4;have hn:n < ord.length:=by have:=R.ol;omega
  have d0:=R.rg _ (vF hn);have hr:∀(sp:wn) (p:Int) (k:v0) ,hV sp p k (rowOf rs (n:Int))=p+1/\oB k (rowOf rs (n:Int))=k:=by
   intro sp p k;obtain⟨a,_,c⟩:=R.pK n (by omega);rcases c with⟨b,_,e⟩ | ⟨_,_,_,e⟩<;>rw[e]<;>exact⟨rfl,rfl⟩
  refine⟨zK k1 (by rw[k2,R.len];omega) (R.zQ _ (FC R (by omega))),?_,?_,?_,fun x hx=>?_⟩
  ·show hV _ _ _ _=_;rw[(hr _ _ _).1,k2];rfl
  ·show oB _ _=_;rw[(hr [] 0 _).2,k3]
  ·show eB "cell" _ _=_;rw[ew,<- k4,Wx]
  ·show gI (eB "spot" _ _) x=_;rw[ew];have e2:eB "spot" (stN rs st n).aW (some (("spot":Str),dK ord n,wK rs st n))=(stN rs st n).aW.set (dK ord n).toNat (wK rs st n):=Sf _ _ _;have Wj:x∈ord.drop n:=by rw[tf hn];exact aaw _ hx
   rw[e2,Oh d0.1 (R.rg x (abu hx)).1 (fun z=>KP R.nd (abI n) hn (z▸hx)),k5 x Wj]
theorem BN(R:R3 ord rs m st)(h:n < m):(stN rs st (n+1)).aW=(stN rs st n).aW.set (dK ord n).toNat (wK rs st n):=by
 obtain⟨k1,k2,k3,k4,k5⟩:=ip R n (by omega);show eB "spot" _ _=_;rw[ki R h k5 k4,Sf]
theorem lq:z∈cD ps ns↔∃ p,(p,z)∈ps.zip ns/\(p=("a":Str)\/p=("b":Str)):=by
 have:∀(l:List (Str×Int)) (acc:wn),z∈l.foldl (fun acc p=>if(p.1=("a":Str)\/p.1=("b":Str))/\p.2 ∉ acc then acc++[p.2]else acc) acc↔z∈acc\/∃ p,(p,z)∈l/\(p=("a":Str)\/p=("b":Str)):=by
  intro l;induction l with
  | nil=>intro acc;simp
  | cons x r ih =>
   intro acc;rw[List.foldl_cons,ih];obtain⟨p,y⟩:=x;dsimp only;constructor
   ·rintro(h | ⟨p',h1,h2⟩)
    ·split at h
     ·rename_i c;rcases aav.mp h with h | h
      ·exact .inl h
      ·exact .inr ⟨p,by rw[aaq.mp h];exact aax,c.1⟩
     ·exact .inl h
    ·exact .inr ⟨p',aaw _ h1,h2⟩
   ·rintro(h | ⟨p',h1,h2⟩)
    ·left;split
     ·exact aav.mpr (.inl h)
     ·exact h
    ·rcases aat.mp h1 with h1 | h1
     ·cases h1;left;split
      ·exact aav.mpr (.inr (aaq.mpr rfl))
      ·rename_i c;exact Classical.byContradiction fun q=>c ⟨h2,q⟩
     ·exact .inr ⟨p',h1,h2⟩
 have:=this (ps.zip ns) [];simpa [cD] using this
theorem Jg{r:Rw}(h:bM r z=true):z∈kW r:=by
 unfold bM at h;rcases acQ _ _▸h with h | h
 ·obtain⟨p,h1,_⟩:=lq.mp (aa2 h);exact(acM h1).2
 ·have h:=aa2 h;unfold dJ at h;cases q:((kX r).zip (kW r)).find? fun p=>decide (p.1=("d":Str)) with
  | none=>rw[q]at h;cases h
  | some y=>rw[q]at h;cases h;exact(acM (List.mem_of_find?_eq_some q)).2
theorem Oi{d:Int}(h:bM (.mv "take" d a k) z=true):z=d\/z=a:=by
 have e1:kX (.mv "take" d a k)=(["d", "a", "n"]:wv):=by show(bz.lookup ("take":Str)).getD []=_;decide +kernel
 unfold bM at h;rcases acQ _ _▸h with h | h
 ·obtain⟨p,h1,h2⟩:=lq.mp (aa2 h);rw[e1]at h1;have h1:(p,z)∈[(("d":Str),d),(("a":Str),a),(("n":Str),k)]:=h1;simp only[aat,abl,adl,Prod.mk.injEq]at h1;rcases h1 with⟨rfl,rfl⟩ | ⟨rfl,rfl⟩ | ⟨rfl,rfl⟩
  ·exact .inl rfl
  ·exact .inr rfl
  ·rcases h2 with q | q<;>exact absurd q (by decide)
 ·have h:=aa2 h;rw[e1]at h;have h:some z=(List.find? (fun p:Str×Int=>decide (p.1=("d":Str))) [(("d":Str),d),(("a":Str),a),(("n":Str),k)]).map (·.2):=h;rw[List.find?_cons_of_pos (by exact aaM rfl)]at h;cases h;exact .inl rfl
theorem Jh(R:R3 ord rs m st)(h:n < m)(hj:j < n):bM (rowOf rs (n:Int)) (dK ord j)=false:=by
 have Sg:j < ord.length:=by have:=R.ol;omega
 have hn:n < ord.length:=by have:=R.ol;omega
 have key:=KP R.nd hj Sg;have dn:dK ord n∈ord.drop n:=by rw[tf hn];exact aax
 obtain⟨a,ha,c⟩:=R.pK n h;refine Bool.eq_false_iff.mpr fun z=>?_;rcases c with⟨b,hb,e⟩ | ⟨k,_,_,e⟩<;>rw[e]at z
 ·have q:dK ord j∈[dK ord n,a,b]:=Jg z;simp only[aat,abl,adl]at q;rcases q with q | q | q<;>rw[q]at key<;>exact key (by assumption)
 ·rcases Oi z with q | q<;>rw[q]at key<;>exact key (by assumption)
inductive Ta (ord:wn) (rs:List Rw) (m:Nat) (st:jl) (lg:Int):List Ev->Nat->List GG->Int->Prop
 | nil:Ta ord rs m st lg [] 0 [] 0
 | fin {es:List Ev} {n:Nat} {ow:List GG} {b b':Int}:Ta ord rs m st lg es n ow b->b<=b'->n < m->(∀ o∈ow,b'<=o.2.2.2+lg)->Ta ord rs m st lg (es++[.fin b' n (some ("spot",dK ord n,none))]) (n+1) (ow++[((n:Int),dK ord n,wK rs st n,b')]) b'
 | az {es:List Ev} {n:Nat} {ow:List GG} {b b':Int} {j:Nat}:Ta ord rs m st lg es n ow b->b<=b'->(∀ o∈ow,b'<=o.2.2.2+lg)->(∃ o∈ow,o.1=(j:Int))->Ta ord rs m st lg (es++[.az b' j (wK rs st j)]) n (ow.filter fun o=>decide (o.1≠(j:Int))) b'
def iB(b:Int):Ev->Bool
 | .fin b' _ _=>decide (b'=b)
 | _=>false
def cnt(b:Int)(es:List Ev):Nat:=es.countP (iB b)
def fw:Ev->Bool
 | .fin _ _ _=>true
 | _=>false
def je(es:List Ev):Int:=es.foldl (fun x e=>if fw e=true then x+1 else x - 1) 0
theorem oX(es:List Ev)(e:Ev):je (es++[e])=if fw e=true then je es+1 else je es - 1:=by unfold je;rw[List.foldl_append];rfl
theorem i4(b:Int)(es:List Ev)(e:Ev):cnt b (es++[e])=cnt b es+(if iB b e=true then 1 else 0):=by unfold cnt;rw[adA,List.countP_cons,List.countP_nil,adz]
theorem tj(b:Int)(p r:List Ev):cnt b p<=cnt b (p++r):=by unfold cnt;rw[adA];omega
structure WA(ord:wn)(rs:List Rw)(st:jl)(lg:Int)(n:Nat)(b:Int)(ow:List GG):Prop where
 up:ow.Pairwise (fun x y=>x.1 < y.1)
 sh:∀ o∈ow,∃ j:Nat,j < n/\o=((j:Int),dK ord j,wK rs st j,o.2.2.2)
 du:∀ o∈ow,b<=o.2.2.2+lg
theorem lR(h0:0<=lg)(T:Ta ord rs m st lg es n ow b):WA ord rs st lg n b ow:=by
 induction T with
 | nil=>exact⟨.nil,fun o h=>(by cases h),fun o h=>(by cases h)⟩
 | @fin es n ow b b' T hb hn hd ih =>
  refine⟨acE.mpr ⟨ih.up,acp ..,fun x hx y hy=>?_⟩,fun o h=>?_,fun o h=>?_⟩
  ·obtain⟨j,hj,e⟩:=ih.sh x hx;rw[aaq.mp hy,e];show(j:Int) < n;omega
  ·rcases aav.mp h with c | c
   ·obtain⟨j,hj,e⟩:=ih.sh o c;exact⟨j,by omega,e⟩
   ·rw[aaq.mp c];exact⟨n,by omega,rfl⟩
  ·rcases aav.mp h with c | c
   ·exact hd o c
   ·rw[aaq.mp c];show b'<=b'+lg;omega
 | az T hb hd _ ih=>exact⟨ih.up.sublist acJ,fun o h=>ih.sh o (aa4.mp h).1,fun o h=>hd o (aa4.mp h).1⟩
theorem iq:∀{ow:List GG} {j:Int},ow.Pairwise (fun x y=>x.1 < y.1)->(∃ o∈ow,o.1=j)->(ow.filter fun o=>decide (o.1≠j)).length+1=ow.length/\∃ o,ow.filter (fun o=>decide (o.1=j))=[o]/\o∈ow/\o.1=j
 | [],_,_,⟨o,h,_⟩=>by cases h
 | x::r,j,hp,⟨o,h,e⟩=>by
  obtain⟨h1,h2⟩:=abG.mp hp
  by_cases ex:x.1=j
  ·have n1:r.filter (fun o=>decide (o.1≠j))=r:=List.filter_eq_self.mpr fun y hy=>aaM (by have:=h1 y hy;omega);have n2:r.filter (fun o=>decide (o.1=j))=[]:=List.filter_eq_nil_iff.mpr fun y hy z=>by have:=h1 y hy;have:=aa2 z;omega
   exact⟨by rw[acT (by simp[ex]),n1];rfl,x,by rw[acU (by simp[ex]),n2],aax,ex⟩
  ·have hr:∃ o∈r,o.1=j:=by
    rcases aat.mp h with c | c
    ·rw[c]at e;exact absurd e ex
    ·exact⟨o,c,e⟩
   obtain⟨k1,o',k2,k3,k4⟩:=iq h2 hr;exact⟨by rw[acU (by simp[ex]),aaV,aaV];omega,o',by rw[acT (by simp[ex]),k2],aaw _ k3,k4⟩
theorem oY(h0:0<=lg)(T:Ta ord rs m st lg es n ow b):(ow.length:Int)=je es/\n<=m:=by
 induction T with
 | nil=>exact⟨rfl,aaW _⟩
 | fin T _ hn _ ih=>rw[oX,aaN (show fw (.fin _ _ _)=true from rfl),aaP,<- ih.1];exact⟨rfl,hn⟩
 | az T _ _ he ih =>
  have:=(iq (lR h0 T).up he).1;rw[oX,aaD (by simp[fw]),<- ih.1];exact⟨by omega,ih.2⟩
theorem Ji(T:Ta ord rs m st lg es n ow b):(∀ e∈es,e.aF<=b)/\0<=b:=by
 induction T with
 | nil=>exact⟨fun e h=>(by cases h),acn _⟩
 | fin T hb _ _ ih=>exact⟨fun e h=>by
   rcases aav.mp h with c | c
   ·exact ac5 (ih.1 e c) hb
   ·rw[aaq.mp c];exact acn _,by omega⟩
 | az T hb _ _ ih=>exact⟨fun e h=>by
   rcases aav.mp h with c | c
   ·exact ac5 (ih.1 e c) hb
   ·rw[aaq.mp c];exact acn _,by omega⟩
theorem tq(T:Ta ord rs m st lg es n ow b):b=(es.getLast?.map Ev.aF).getD 0:=by
 cases T with
 | nil=>rfl
 | fin T _ _ _=>rw[aca];rfl
 | az T _ _ _=>rw[aca];rfl
theorem Jj(T:Ta ord rs m st lg es n ow b)(h:b < b'):cnt b' es=0:=by
 unfold cnt;rw[List.countP_eq_zero];intro e he;have:=(Ji T).1 e he;cases e with
 | fin b2 _ _=>show ¬ decide (b2=b')=true;have:b2<=b:=this;simp;omega
 | _=>exact fun z=>by cases z
structure H3(rs:List Rw)(st:jl)(wd rm lg:Int)(es:List Ev)(n:Nat)(ow:List GG)(b:Int)(h:HM):Prop where
 rows:h.rows=rs
 rings:h.rings=[]
 wi:h.width=wd
 rm:h.room=rm
 lg:h.longest=lg
 qu:1<=h.queue
 Oj:h.st=stN rs st n
 be:h.aF=b
 eo:h.jx=cnt b es
 ow:h.cq=ow
 la:h.laid=[]
 ca:h.cause=none
 en:h.ends=n
 ev:h.events=es.length
section
variable {wd:Int}
theorem FD(r:H3 rs st wd rm lg es n ow b h)(b:Int):h.bK b=false:=by
 unfold HM.bK HM.iX oJ ft;rw[r.rings];simp
theorem tD(T:Ta ord rs m st lg es n ow b)(r:H3 rs st wd rm lg es n ow b h)(hb:b<=b'):h.endsAt b'=cnt b' es:=by
 unfold HM.endsAt;rw[r.be,r.eo]
 by_cases e:b'=b
 ·rw[aaN e,e]
 ·rw[aaD e,Jj T (by omega)];rfl
theorem mM(r:H3 rs st wd rm lg es n ow b h){e:Ev}(hb:b<=e.aF)(hd:∀ o∈ow,e.aF<=o.2.2.2+lg):h.bH e=h.Wy e:=by
 unfold HM.bH;rw[aaD (by rw[r.be];omega),r.ow,r.lg,aaD]
 ·cases e<;>rfl
 intro z;obtain⟨o,ho,z⟩:=adf.mp z;have:=hd o ho;have:=aa2 z;omega
theorem Jk(r:H3 rs st wd rm lg es n ow b h){e:Ev}(hb:b<=e.aF)(hd:∃ o∈ow,o.2.2.2+lg < e.aF):h.bH e=some ("overdue":Str):=by
 unfold HM.bH;obtain⟨o,ho,z⟩:=hd;rw[aaD (by rw[r.be];omega),r.ow,r.lg,aaN (adf.mpr ⟨o,ho,aaM z⟩)]
theorem yh(h0:0<=lg)(R:R3 ord rs m st)(T:Ta ord rs m st lg es n ow b)(r:H3 rs st wd rm lg es n ow b h)(hb:b<=b')(hc:(cnt b' es:Int) < wd)(t:oH):h.iA b' n t=if ow.any (fun o=>bM (rowOf rs (n:Int)) o.2.1)=true then some ("ahead":Str)else h.hZ (rowOf rs (n:Int)) t:=by
 have hn:=(oY h0 T).2;obtain⟨k1,k2,k3,k4,k5⟩:=ip R n hn;unfold HM.iA HM.row;rw[FD r,r.Oj,k2,r.rows,r.wi,r.ow,tD T r hb,aaD (by rw[R.len];omega),aaD (by simp),aaD (by omega),aaD (by simp)]
theorem FE(h0:0<=lg)(R:R3 ord rs m st)(T:Ta ord rs m st lg es n ow b)(r:H3 rs st wd rm lg es n ow b h)(hb:b<=b')(hd:∀ o∈ow,b'<=o.2.2.2+lg)(hn:n < m)(hc:(cnt b' es:Int) < wd):h.bH (.fin b' n (some ("spot",dK ord n,none)))=if rm<=(ow.length:Int)then some ("room":Str) else(none:Option Str):=by
 obtain⟨k1,k2,k3,k4,k5⟩:=ip R n (by omega);have ew:=ki R hn k5 k4;rw[mM r (e:=.fin b' n _) hb hd];show h.iA b' n _=_;rw[yh h0 R T r hb hc,aaD]
 ·unfold HM.hZ;rw[r.Oj,ew,aaD (by simp)];dsimp only;have sl:vn (rowOf rs (n:Int))=true:=by
   obtain⟨a,_,c⟩:=R.pK n hn;rcases c with⟨b,_,e⟩ | ⟨_,_,_,e⟩<;>rw[e]<;>simp[vn]
  rw[aaD (by rw[sl];simp),r.rm,r.ow,aaD (c:=("spot":Str) = "cell"/\_) (fun z=>absurd z.1 (by decide))]
 ·intro z;obtain⟨o,ho,z⟩:=adf.mp z;obtain⟨j,hj,e⟩:=(lR h0 T).sh o ho;rw[e,Jh R hn hj]at z;cases z
theorem tE(r:H3 rs st wd rm lg es n ow b h)(hb:b<=b')(hd:∀ o∈ow,b'<=o.2.2.2+lg):h.bH (.az b' k v)=h.ij k v:=mM r (e:=.az b' k v) hb hd
theorem FF(R:R3 ord rs m st)(T:Ta ord rs m st lg es n ow b)(r:H3 rs st wd rm lg es n ow b h)(hb:b<=b')(hn:n < m):H3 rs st wd rm lg (es++[.fin b' n (some ("spot",dK ord n,none))]) (n+1) (ow++[((n:Int),dK ord n,wK rs st n,b')]) b' (h.cH (.fin b' n (some ("spot",dK ord n,none)))):=by
 obtain⟨k1,k2,k3,k4,k5⟩:=ip R n (by omega);have er:h.row=rowOf rs (n:Int):=by unfold HM.row;rw[r.rows,r.Oj,k2]
 have ew:h.row.wrote h.st.aW h.st.cells=some (("spot":Str),dK ord n,wK rs st n):=by rw[er,r.Oj,ki R hn k5 k4]
 have ee:=tD T r hb;have kx:fm h.row h.st=stN rs st (n+1):=by rw[er,r.Oj];rfl
 have c1:cnt b' (es++[.fin b' n (some ("spot",dK ord n,none))])=cnt b' es+1:=by rw[i4,aaN (show iB b' (.fin b' n _)=true from aaM rfl)]
 have eu:∃ pr,h.cH (.fin b' n (some ("spot",dK ord n,none)))={ h with bJ:=pr,jx:=h.endsAt b'+1,cq:=h.cq++[(h.ends,dK ord n,wK rs st n,b')],st:=fm h.row h.st,ends:=h.ends+1,aF:=b',events:=h.events+1 }:=by
  refine⟨if({ h with jx:=h.endsAt b' }:HM).bK b'=true then h.bJ+1 else 0,?_⟩;unfold HM.cH HM.oM;dsimp only[Ev.aF];have ew2:({ h with jx:=h.endsAt b' }:HM).row.wrote h.st.aW h.st.cells=some (("spot":Str),dK ord n,wK rs st n):=ew;rw[ew2]
  rfl
 obtain⟨pr,eu⟩:=eu;rw[eu];refine⟨r.rows,r.rings,r.wi,r.rm,r.lg,r.qu,kx,rfl,?_,?_,r.la,r.ca,?_,?_⟩
 ·show h.endsAt b'+1=_;rw[ee,c1];rfl
 ·show h.cq++[(h.ends,_,_,_)]=_;rw[r.ow,r.en]
 ·show h.ends+1=_;rw[r.en];rfl
 ·show h.events+1=_;rw[r.ev,aaP];rfl
theorem BO(T:Ta ord rs m st lg es n ow b)(r:H3 rs st wd rm lg es n ow b h)(hb:b<=b'):H3 rs st wd rm lg (es++[.az b' k v]) n (ow.filter fun o=>decide (o.1≠k)) b' (h.cH (.az b' k v)):=by
 refine⟨r.rows,r.rings,r.wi,r.rm,r.lg,r.qu,r.Oj,rfl,?_,?_,r.la,r.ca,r.en,?_⟩
 ·show h.endsAt b'=_;rw[tD T r hb,i4];rfl
 ·show h.cq.filter _=_;rw[r.ow]
 ·show h.events+1=_;rw[r.ev,aaP];rfl
def cA(es:List Ev)(rm:Int):Prop:=∀ p e r,es=p++e::r->fw e=true->je p < rm
theorem cA.pre{x:List Ev}(h:cA (p++x) rm):cA p rm:=fun p' e r e1 hl=>h p' e (r++x) (by rw[e1,abW];rfl) hl
theorem zX{h0:HM}(l0:0<=lg)(R:R3 ord rs m st)(Ol:H3 rs st wd rm lg [] 0 [] 0 h0)(T:Ta ord rs m st lg es n ow b):(∀ b,(cnt b es:Int)<=wd)->cA es rm->∃ h,kh h0 es=some h/\H3 rs st wd rm lg es n ow b h:=by
 induction T with
 | nil=>exact fun _ _=>⟨h0,rfl,Ol⟩
 | @fin es n ow b b' T hb hn hd ih =>
  intro hc hq;obtain⟨h,f,r⟩:=ih (fun b=>ac5 (by have:=tj b es [.fin b' n (some ("spot",dK ord n,none))];omega) (hc b)) hq.pre;have c1:cnt b' (es++[.fin b' n (some ("spot",dK ord n,none))])=cnt b' es+1:=by rw[i4,aaN (show iB b' (.fin b' n _)=true from aaM rfl)]
  have c2:=hc b';have br:h.bH (.fin b' n (some ("spot",dK ord n,none)))=none:=by
   rw[FE l0 R T r hb hd hn (by omega),aaD];have:=hq es _ [] rfl rfl;have:=(oY l0 T).1;omega
  exact⟨_,jd f br,FF R T r hb hn⟩
 | @az es n ow b b' j T hb hd he ih =>
  intro hc hq;obtain⟨h,f,r⟩:=ih (fun b=>ac5 (by have:=tj b es [.az b' j (wK rs st j)];omega) (hc b)) hq.pre;have br:h.bH (.az b' j (wK rs st j))=none:=by
   rw[tE r hb hd];unfold HM.ij;obtain⟨_,o,h1,h2,h3⟩:=iq (lR l0 T).up he;obtain⟨i,hi,e⟩:=(lR l0 T).sh o h2;rw[r.ow,h1];dsimp only;have ei:i=j:=by rw[e]at h3;have h3:(i:Int)=j:=h3;omega
   rw[e,ei];exact aaN rfl
  exact⟨_,jd f br,BO T r hb⟩
end
abbrev K3:=Int×Int×Int
variable {ks:List K3}
def qJ(x:K3):Int:=100 * x.1+10 * x.2.1+x.2.2
structure BL(m:Nat)(B:Nat->Int)(L:Nat->Int×Int):Prop where
 m8:m<=8
 b0:∀ k,k < m->0<=B k
 bm:∀ j k,j<=k->k < m->B j<=B k
 GH:∀ k,k < m->(L k).2=0\/(L k).2=2
 od:∀ k,k < m->B k < (L k).1\/(B k=(L k).1/\(L k).2=2)
def eK(B:Nat->Int)(k:Nat):K3:=(B k,1,(k:Int))
def lK(L:Nat->Int×Int)(k:Nat):K3:=((L k).1,(L k).2,(k:Int))
structure Ks(m:Nat)(B:Nat->Int)(L:Nat->Int×Int)(ks:List K3):Prop where
 mem:∀ x,x∈ks↔∃ k,k < m/\(x=eK B k\/x=lK L k)
 up:ks.Pairwise (fun x y=>qJ x < qJ y)
noncomputable def fM(ord:wn)(rs:List Rw)(st:jl)(x:K3):Ev:=if x.2.1=1 then .fin x.1 x.2.2 (some ("spot",dK ord x.2.2.toNat,none))else .az x.1 x.2.2 (wK rs st x.2.2.toNat)
theorem vG(up:ks.Pairwise (fun x y=>qJ x < qJ y)){i:Nat}{x y:K3}(hx:ks[i]?=some x)(hy:y∈ks):y∈ks.take i↔qJ y < qJ x:=by
 obtain⟨hi,rfl⟩:=aan.mp hx;obtain⟨j,hj,rfl⟩:=List.getElem_of_mem hy;have pw:=abo.mp up;constructor
 ·intro h;obtain⟨j',YY,e⟩:=List.getElem_of_mem h;rw[aa8]at YY;rw[adG]at e;rw[<- e];exact pw j' i _ hi (by omega)
 ·intro h;have:j < i:=by
   rcases acZ j i with c | c | c
   ·exact c
   ·subst c;omega
   ·have:=pw i j hi hj c;omega
  rw[show ks[j]=(ks.take i)[j]'(by rw[aa8];omega) by rw[adG]];exact abA _
structure Pr(m:Nat)(B:Nat->Int)(L:Nat->Int×Int)(p:List K3)(n:Nat)(ow:List GG)(b:Int):Prop where
 nm:n<=m
 en:∀ k,k < m->(eK B k∈p↔k < n)
 oi:∀ k:Nat,k < m->((∃ o∈ow,o.1=(k:Int))↔k < n/\lK L k ∉ p)
 ob:∀ o∈ow,∃ k:Nat,k < m/\o.1=(k:Int)/\o.2.2.2=B k
 be:b=(p.getLast?.map (·.1)).getD 0
def Due(m:Nat)(B:Nat->Int)(L:Nat->Int×Int)(lg b:Int):Prop:=∀ j,j < m->b<=(L j).1->b<=B j+lg
section
variable {L:Nat->Int×Int}
theorem FG(h:BL m B L){x y:K3}(hx:∃ k,k < m/\(x=eK B k\/x=lK L k))(hy:∃ k,k < m/\(y=eK B k\/y=lK L k))(hk:qJ x<=qJ y):x.1<=y.1:=by
 have m8:=h.m8;have q:∀ x:K3,(∃ k,k < m/\(x=eK B k\/x=lK L k))->0<=x.2.1/\x.2.1<=2/\0<=x.2.2/\x.2.2<=7:=by
  rintro x ⟨k,k1,rfl | rfl⟩
  ·refine⟨?_,?_,?_,?_⟩<;>dsimp only[eK]<;>omega
  ·have:=h.GH k k1;refine⟨?_,?_,?_,?_⟩<;>dsimp only[lK]<;>omega
 have q1:=q x hx;have q2:=q y hy;unfold qJ at hk;omega
theorem Sh(h:BL m B L){k:Nat}(hk:k < m):qJ (eK B k) < qJ (lK L k):=by
 have:=h.od k hk;have:=h.GH k hk;unfold qJ eK lK;dsimp only;omega
theorem tF(h:BL m B L)(K:Ks m B L ks):∀ i:Nat,i<=ks.length->(∀ x∈ks.take i,Due m B L lg x.1)->∃ n ow b,Ta ord rs m st lg ((ks.take i).map (fM ord rs st)) n ow b/\Pr m B L (ks.take i) n ow b
 | 0,_,_=>⟨0,[],0,.nil,aaW _,fun k _=>⟨fun z=>(by cases z),fun z=>(by omega)⟩,fun k _=>⟨fun⟨o,z,_⟩=>(by cases z),fun⟨z,_⟩=>(by omega)⟩,fun o z=>(by cases z),rfl⟩
 | i+1,hi,hd=>by
  have Bq:i < ks.length:=by omega
  have hx:ks[i]?=some ks[i]:=aas Bq;have et:ks.take (i+1)=ks.take i++[ks[i]]:=by rw[aaT,hx];rfl
  obtain⟨n,ow,b,T,P⟩:=tF h K i (by omega) fun x z=>hd x (by rw[et];exact aav.mpr (.inl z));have hdx:Due m B L lg ks[i].1:=hd _ (by rw[et];exact aav.mpr (.inr (aaq.mpr rfl)));have O4:ks[i]∈ks:=abA Bq;have tk:∀ y,y∈ks->(y∈ks.take i↔qJ y < qJ ks[i]):=fun y hy=>vG K.up hx hy;have em:∀ k,k < m->eK B k∈ks:=fun k hk=>(K.mem _).mpr ⟨k,hk,.inl rfl⟩;have lm:∀ k,k < m->lK L k∈ks:=fun k hk=>(K.mem _).mpr ⟨k,hk,.inr rfl⟩;rw[et,aaU];generalize hxe:ks[i]=x at *;have hb:b<=x.1:=by
   rw[P.be];cases q:(ks.take i).getLast? with
   | none =>
    obtain⟨k,hk,c⟩:=(K.mem _).mp O4;have:=h.b0 k hk;have:=h.od k hk;rcases c with rfl | rfl<;>(show(0:Int)<=_;dsimp only[eK,lK];omega)
   | some y =>
    have hy:=List.mem_of_getLast? q;have YZ:=acb hy;exact FG h ((K.mem _).mp YZ) ((K.mem _).mp O4) (Int.le_of_lt ((tk y YZ).mp hy))
  have du:∀ o∈ow,x.1<=o.2.2.2+lg:=by
   intro o ho;obtain⟨k,k1,k2,k3⟩:=P.ob o ho;rw[k3];refine hdx k k1 ?_;have:=((P.oi k k1).mp ⟨o,ho,k2⟩).2;have h2:¬ qJ (lK L k) < qJ x:=fun z=>this ((tk _ (lm k k1)).mpr z);exact FG h ((K.mem _).mp O4) ⟨k,k1,.inr rfl⟩ (by omega)
  obtain⟨k,k1,c⟩:=(K.mem _).mp O4;have le:((ks.take i++[x]).getLast?.map (·.1)).getD 0=x.1:=by rw[aca];rfl
  rcases c with rfl | rfl
  ·have nk:n=k:=by
    have h1:¬ k < n:=fun z=>by have:=(tk _ (em k k1)).mp ((P.en k k1).mpr z);omega
    have h2:∀ j,j < k->j < n:=fun j hj=>(P.en j (by omega)).mp ((tk _ (em j (by omega))).mpr (by
     have:=h.bm j k (by omega) k1;unfold qJ eK;dsimp only;omega))
    rcases acZ n k with z | z | z
    ·have:=h2 n z;omega
    ·exact z
    ·exact absurd z h1
   subst nk;have ee:fM ord rs st (eK B n)=.fin (B n) n (some ("spot",dK ord n,none)):=by unfold fM eK;rw[aaN rfl];rfl
   refine⟨n+1,ow++[((n:Int),dK ord n,wK rs st n,B n)],B n,?_,k1,fun j hj=>?_,fun j hj=>?_,fun o ho=>?_,le.symm⟩
   ·show Ta ord rs m st lg (_++[fM ord rs st (eK B n)]) _ _ _;rw[ee];exact .fin T hb k1 du
   ·rw[aav,aaq,P.en j hj];constructor
    ·rintro(z | z)
     ·omega
     ·have:(j:Int)=n:=abJ (fun x:K3=>x.2.2) z;omega
    ·intro z
     by_cases q:j=n
     ·exact .inr (by rw[q])
     ·exact .inl (by omega)
   ·have lx:lK L j≠eK B n:=fun z=>by
     have:(L j).2=1:=abJ (fun x:K3=>x.2.1) z;have:=h.GH j hj;omega
    rw[aav,aaq];constructor
    ·rintro⟨o,ho,e⟩;rcases aav.mp ho with z | z
     ·obtain⟨a1,a2⟩:=(P.oi j hj).mp ⟨o,z,e⟩;exact⟨by omega,fun q=>q.elim a2 lx⟩
     ·rw[aaq.mp z]at e;have e:(n:Int)=j:=e;have e:j=n:=by omega
      subst e;exact⟨by omega,fun q=>q.elim (fun q=>by have:=(tk _ (lm j hj)).mp q;have:=Sh h hj;omega) lx⟩
    ·rintro⟨a1,a2⟩
     by_cases q:j=n
     ·exact⟨_,aav.mpr (.inr (aaq.mpr rfl)),by rw[q]⟩
     ·obtain⟨o,ho,e⟩:=(P.oi j hj).mpr ⟨by omega,fun z=>a2 (.inl z)⟩;exact⟨o,aav.mpr (.inl ho),e⟩
   ·rcases aav.mp ho with z | z
    ·exact P.ob o z
    ·rw[aaq.mp z];exact⟨n,k1,rfl,rfl⟩
  ·have ht:=h.GH k k1;have ee:fM ord rs st (lK L k)=.az (L k).1 k (wK rs st k):=by unfold fM lK;rw[aaD (by dsimp only;omega)];rfl
   have kn:k < n:=(P.en k k1).mp ((tk _ (em k k1)).mpr (Sh h k1));have kl:lK L k ∉ ks.take i:=fun z=>by have:=(tk _ (lm k k1)).mp z;omega
   have ex:=(P.oi k k1).mpr ⟨kn,kl⟩;refine⟨n,ow.filter fun o=>decide (o.1≠(k:Int)),(L k).1,?_,P.nm,fun j hj=>?_,fun j hj=>?_,fun o ho=>P.ob o (aa4.mp ho).1,le.symm⟩
   ·show Ta ord rs m st lg (_++[fM ord rs st (lK L k)]) _ _ _;rw[ee];exact .az T hb du ex
   ·rw[aav,aaq,P.en j hj];refine⟨fun z=>z.elim id fun z=>?_,.inl⟩;have:(1:Int)=(L k).2:=abJ (fun x:K3=>x.2.1) z;omega
   ·rw[aav,aaq];constructor
    ·rintro⟨o,ho,e⟩;obtain⟨f1,f2⟩:=aa4.mp ho;have f2:=aa2 f2;obtain⟨a1,a2⟩:=(P.oi j hj).mp ⟨o,f1,e⟩;refine⟨a1,fun q=>q.elim a2 fun z=>f2 ?_⟩;have:(j:Int)=k:=abJ (fun x:K3=>x.2.2) z;omega
    ·rintro⟨a1,a2⟩;obtain⟨o,ho,e⟩:=(P.oi j hj).mpr ⟨a1,fun z=>a2 (.inl z)⟩;refine⟨o,aa4.mpr ⟨ho,aaM fun z=>a2 (.inr ?_)⟩,e⟩;have:j=k:=by omega
     rw[this]
end
theorem oZ{es p r:List α}{a e:α}(h:es++[a]=p++e::r):(r=[]/\e=a/\p=es)\/∃ r',r=r'++[a]/\es=p++e::r':=by
 rcases List.eq_nil_or_concat r with rfl | ⟨r',x,rfl⟩
 ·obtain⟨h1,h2⟩:=List.append_inj' h rfl;exact .inl ⟨rfl,by simpa using h2.symm,h1.symm⟩
 ·rw[ac6,<- adg,<- abW]at h;obtain⟨h1,h2⟩:=List.append_inj' h rfl;refine .inr ⟨r',?_,h1⟩;rw[ac6,<- h2]
theorem kj{e:Ev}(h:es[j]?=some e):es=es.take j++e::es.drop (j+1):=by
 obtain⟨h1,h2⟩:=aan.mp h;rw[<- h2,List.getElem_cons_drop,abQ]
theorem zY(T:Ta ord rs m st lg es n ow b):∀{p r:List Ev} {e:Ev},es=p++e::r->∃ n' BP b',Ta ord rs m st lg p n' BP b'/\b'<=e.aF/\(∀ o∈BP,e.aF<=o.2.2.2+lg)/\((n' < m/\∃ b2,e=.fin b2 n' (some ("spot",dK ord n',none)))\/∃(b2:Int) (j:Nat),(∃ o∈BP,o.1=(j:Int))/\e=.az b2 j (wK rs st j)):=by
 induction T with
 | nil=>intro p r e h;cases p<;>cases h
 | fin T hb hn hd ih =>
  intro p r e h;rcases oZ h with⟨rfl,rfl,rfl⟩ | ⟨r',rfl,h'⟩
  ·exact⟨_,_,_,T,hb,hd,.inl ⟨hn,_,rfl⟩⟩
  ·exact ih h'
 | az T hb hd he ih =>
  intro p r e h;rcases oZ h with⟨rfl,rfl,rfl⟩ | ⟨r',rfl,h'⟩
  ·exact⟨_,_,_,T,hb,hd,.inr ⟨_,_,he,rfl⟩⟩
  ·exact ih h'
theorem Om(T:Ta ord rs m st lg es n ow b){r:List Ev}(h:es=p++r):∃ n' BP b',Ta ord rs m st lg p n' BP b':=by
 cases r with
 | nil=>rw[ace]at h;subst h;exact⟨_,_,_,T⟩
 | cons e r=>obtain⟨n',BP,b',T',_⟩:=zY T h;exact⟨n',BP,b',T'⟩
theorem FH(T:Ta ord rs m st lg es n ow b):(∀ b k v,.az b k v∈es->k < (n:Int))/\∀ o∈ow,o.1 < (n:Int)/\(∃ b t,.fin b o.1 t∈es)/\∀ b v,Ev.az b o.1 v ∉ es:=by
 induction T with
 | nil=>exact⟨fun _ _ _ h=>(by cases h),fun o h=>(by cases h)⟩
 | @fin es n ow b b' T hb hn hd ih =>
  refine⟨fun b k v h=>?_,fun o h=>?_⟩
  ·rcases aav.mp h with c | c
   ·have:=ih.1 b k v c;omega
   ·cases aaq.mp c
  ·rcases aav.mp h with c | c
   ·obtain⟨h1,⟨b2,t,h2⟩,h3⟩:=ih.2 o c;exact⟨by omega,⟨b2,t,aav.mpr (.inl h2)⟩,fun b v z=>(aav.mp z).elim (h3 b v) fun z=>by cases aaq.mp z⟩
   ·rw[aaq.mp c];refine⟨by show(n:Int) < _;omega,⟨_,_,aav.mpr (.inr (aaq.mpr rfl))⟩,fun b v z=>?_⟩;rcases aav.mp z with z | z
    ·have:(n:Int) < n:=ih.1 b _ v z;omega
    ·cases aaq.mp z
 | @az es n ow b b' j T hb hd he ih =>
  obtain⟨o,ho,e⟩:=he;have hj:=(ih.2 o ho).1;rw[e]at hj;refine⟨fun b k v h=>?_,fun o h=>?_⟩
  ·rcases aav.mp h with c | c
   ·exact ih.1 b k v c
   ·cases aaq.mp c;exact hj
  ·obtain⟨f1,f2⟩:=aa4.mp h;have f2:=aa2 f2;obtain⟨h1,⟨b2,t,h2⟩,h3⟩:=ih.2 o f1;refine⟨h1,⟨b2,t,aav.mpr (.inl h2)⟩,fun b v z=>?_⟩;rcases aav.mp z with z | z
   ·exact h3 b v z
   ·injection aaq.mp z with _ e _;exact f2 e
noncomputable def PD(rs:List Rw)(st:jl)(rm lg:Int)(es:List Ev)(KQ:Option (Int×Str)):Prop:=∀(wd:Int) (h0:HM),H3 rs st wd rm lg [] 0 [] 0 h0->(∀ b,(cnt b es:Int)<=wd)->fv h0 es=KQ
theorem o4(l0:0<=lg)(R:R3 ord rs m st){r:List Ev}{e:Ev}(T:Ta ord rs m st lg p n ow b)(hq:cA p rm)(br:∀ wd h,H3 rs st wd rm lg p n ow b h->(∀ b,(cnt b (p++e::r):Int)<=wd)->h.bH e=some x):PD rs st rm lg (p++e::r) (some ((p.length:Nat),x)):=fun wd h0 Ol hw=>by
 obtain⟨h,f,r3⟩:=zX l0 R Ol T (fun b=>ac5 (by have:=tj b p (e::r);omega) (hw b)) hq;rw[(lp Ol.ca f).1,vE (br wd h r3 hw),r3.ev]
theorem yi{r:List Ev}{pl:Int}{t:oH}:cnt b p+1<=cnt b (p++.fin b pl t::r):=by
 unfold cnt;rw[adA,List.countP_cons_of_pos (by exact aaM rfl)];omega
theorem Jl(l0:0<=lg)(R:R3 ord rs m st){r:List Ev}{e:Ev}(T:Ta ord rs m st lg p n ow b)(hq:cA p rm)(hb:b<=e.aF)(ho:∃ o∈ow,o.2.2.2+lg < e.aF):PD rs st rm lg (p++e::r) (some ((p.length:Nat), "overdue")) :=
 o4 l0 R T hq fun wd h r3 _=>Jk r3 hb ho
def vH(p:List Ev)(k:Int):Prop:=(∀ b t,Ev.fin b k t ∉ p)\/∃ b v,Ev.az b k v∈p
theorem FI(l0:0<=lg)(R:R3 ord rs m st){r:List Ev}(T:Ta ord rs m st lg p n ow b)(hq:cA p rm)(hb:b'=(p.getLast?.map Ev.aF).getD 0)(hs:vH p k):PD rs st rm lg (p++.az b' k v::r) (some ((p.length:Nat), "stray")) :=
 o4 l0 R T hq fun wd h r3 _=>by
  rw[tE r3 (by rw[hb,<- tq T];exact acn _) (fun o ho=>by rw[hb,<- tq T];exact(lR l0 T).du o ho)];unfold HM.ij;rw[r3.ow,List.filter_eq_nil_iff.mpr];intro o ho z;have z:=aa2 z;obtain⟨_,⟨b2,t,h2⟩,h3⟩:=(FH T).2 o ho;rw[z]at h2 h3;rcases hs with hs | ⟨b2,v,hs⟩
  ·exact hs _ _ h2
  ·exact h3 _ _ hs
theorem FJ(l0:0<=lg)(R:R3 ord rs m st){r:List Ev}{j w:Int}(T:Ta ord rs m st lg es n ow b)(he:es=p++.az b' j w::r')(hq:cA p rm)(hv:v≠w):PD rs st rm lg (p++.az b' j v::r) (some ((p.length:Nat), "worth")):=by
 obtain⟨n',BP,b2,T',hb,hd,c⟩:=zY T he;rcases c with⟨_,_,z⟩ | ⟨b3,i,hi,z⟩
 ·cases z
 ·cases z;refine o4 l0 R T' hq fun wd h r3 _=>?_;rw[tE (b':=b') r3 hb hd];unfold HM.ij;obtain⟨_,o,h1,h2,h3⟩:=iq (lR l0 T').up hi;obtain⟨i',A5,e⟩:=(lR l0 T').sh o h2;rw[r3.ow,h1];dsimp only;have ei:i'=i:=by rw[e]at h3;have h3:(i':Int)=i:=h3;omega
  rw[e,ei];exact aaD (abi hv)
theorem Jm(l0:0<=lg)(R:R3 ord rs m st){r:List Ev}{e:Ev}(T:Ta ord rs m st lg es n ow b)(he:es=p++e::r')(hf:fw e=true)(hq:cA p rm)(hr:rm<=je p):PD rs st rm lg (p++e::r) (some ((p.length:Nat), "room")):=by
 obtain⟨n',BP,b2,T',hb,hd,c⟩:=zY T he;rcases c with⟨hn,b3,rfl⟩ | ⟨b3,i,hi,rfl⟩
 ·refine o4 l0 R T' hq fun wd h r3 hw=>?_;have:=hw b3;have:=yi (p:=p) (r:=r) (b:=b3) (pl:=n') (t:=some ("spot",dK ord n',none));rw[FE (b':=b3) l0 R T' r3 hb hd hn (by omega),aaN];have:=(oY l0 T').1;omega
 ·cases hf
theorem FK(l0:0<=lg)(R:R3 ord rs m st){r:List Ev}{t:oH}(T:Ta ord rs m st lg es n ow b)(hj:j+1=m)(he:es=p++.az b' j v::r')(hq:cA p rm)(ht:bM (rowOf rs (m:Int)) (dK ord j)=true):PD rs st rm lg (p++.fin b' m t::r) (some ((p.length:Nat), "ahead")):=by
 obtain⟨n',BP,b2,T',hb,hd,c⟩:=zY T he;rcases c with⟨_,_,z⟩ | ⟨b3,i,⟨o,ho,hi⟩,z⟩
 ·cases z
 ·injection z with z1 z2 z3
  have ei:i=j:=by omega
  subst ei;have hn:=(oY l0 T').2;obtain⟨i',A5,e⟩:=(lR l0 T').sh o ho;have ei:i'=i:=by rw[e]at hi;have hi:(i':Int)=i:=hi;omega
  subst ei;have en:n'=m:=by omega
  subst en;refine o4 l0 R T' hq fun wd h r3 hw=>?_;have:=hw b';have:=yi (p:=p) (r:=r) (b:=b') (pl:=n') (t:=t);rw[mM r3 (e:=.fin b' n' t) hb hd];show h.iA b' n' t=_;rw[yh (b':=b') l0 R T' r3 hb (by omega),aaN];refine adf.mpr ⟨o,ho,?_⟩;rw[e];exact ht
theorem Jn(l0:0<=lg)(R:R3 ord rs m st){t:oH}(T:Ta ord rs m st lg es m [] b)(hq:cA es rm)(hb:b<=b')(ht:(rowOf rs (m:Int)).wrote (stN rs st m).aW (stN rs st m).cells=t.bind fun x=>x.2.2.map fun v=>(x.1,x.2.1,v))(hs:∀ x,t=some x->x.2.2.isSome=true):PD rs st rm lg (es++[.fin b' m t]) none:=fun wd h0 Ol hw=>by
 obtain⟨h,f,r3⟩:=zX l0 R Ol T (fun b=>ac5 (by have:=tj b es [.fin b' m t];omega) (hw b)) hq;have:=hw b';have:=yi (p:=es) (r:=[]) (b:=b') (pl:=m) (t:=t);have br:h.bH (.fin b' m t)=none:=by
  rw[mM r3 (e:=.fin b' m t) hb (fun o ho=>by cases ho)];show h.iA b' m t=_;rw[yh l0 R T r3 hb (by omega),aaD (by simp)];unfold HM.hZ;rw[r3.Oj,ht];rcases t with _ | ⟨k,y,v⟩
  ·rw[aaD (by simp)]
  ·cases v with
   | none=>have:=hs _ rfl;cases this
   | some v =>
    rw[aaD (by simp)];dsimp only;rw[aaD (by simp),r3.la,aaD];intro z;have:=r3.qu;have:=z.2;simp at this;omega
 have f2:=jd f br;have:=(lp (r:=[]) Ol.ca f2).1;rw[ace]at this;exact this
abbrev yj:Stmt:=top 40
abbrev lr:Stmt:=top 41
abbrev o5:Stmt:=top 42
abbrev yk:Stmt:=top 52
theorem km:av ["bag", "many", "order", "rows", "k", "a", "b"] ["bag", "many", "order"] (defScope yj):=by ac_rfl
theorem jz:av ["rows", "spots", "cells", "found", "row"] ["rows", "spots", "cells"] (defScope lr):=by ac_rfl
theorem jf:av ["bag", "many", "spot", "spots", "other", "n", "kind"] ["bag", "many", "spot", "spots"] (defScope o5):=by ac_rfl
theorem tG:av ["bag", "many", "beats", "k"] ["bag", "many"] (defScope yk):=by ac_rfl
def FL:uH:=fun n ds R=>∃(m:Nat) (ord:wn),ds=[.int m,.list (ord.map .int)]/\m<=8/\ord.length=8/\n<=990000000/\∀(rs:List Rw) (n':Nat),rs.length=m->(∀(k:Nat) r,rs[k]?=some r->oW ord k r)->n'<=n+40->R (.nw (rs.map bX)) n'
def WB:Rw->Prop
 | .op x _ _ _=>x = "mul"
 | .mv x _ _ _=>x = "take"
 | _=>False
def qK:jj:=fun ds R _=>∃(rs:List Rw) (m:Int) (sp ce:wn),ds=[.list (rs.map bX),.list (sp.map .int),.list (ce.map .int)]/\rs.length<=100/\sp.length=8/\ce.length=16/\(∀ z∈sp,Wr z)/\(∀ r∈rs,iE m r/\WB r)/\R (.nw ((rs.map (Rw.gives sp ce)).map .int))
noncomputable def vI:uH:=fun n ds R=>∃(m:Nat) (dj:Int) (sp:wn),ds=[.int m,.int dj,.list (sp.map .int)]/\B8 dj/\sp.length=8/\n<=990000000/\∀(r:Rw) (t:sy) (n':Nat),iE (m+1:Nat) r->bM r dj=true->(∀ ce,r.wrote sp ce=t)->n'<=n+3->R (.im (.tuple [bX r,fL t])) n'
def FN:uH:=fun n ds R=>∃ m:Nat,ds=[.int m]/\1<=m/\m<=8/\n<=990000000/\∀(bs:wn) (n':Nat),bs.length=m->(∀ b∈bs,0<=b)->bs.Pairwise (·<=·)->n'<=n+20->R (.nw (bs.map .int)) n'
theorem zZ{k:Nat}{j:Int}(h0:0<=j)(h:(k:Int)+j < ord.length):gI ord ((k:Int)+j)∈ord.drop k:=by
 obtain⟨i,rfl⟩:=abb h0;unfold gI;have hi:k+i < ord.length:=by omega
 rw[show((k:Int)+(i:Nat)).toNat=k+i by omega,aau,aas hi];have:(ord.drop k)[i]?=some ord[k+i]:=by rw[List.getElem?_drop,aas hi]
 exact aa0 this
theorem gC(ord:wn)(k:Nat):gI ord (k:Int)=dK ord k:=by unfold gI dK;rw[aaB]
theorem FO{l:List α}{x y:α}{k:Nat}(h:(l++[x])[k]?=some y):(l[k]?=some y)\/(k=l.length/\y=x):=by
 by_cases hk:k < l.length
 ·rw[ab6 hk]at h;exact .inl h
 ·rw[abt (by omega)]at h;cases e:k - l.length with
  | zero=>rw[e]at h;cases h;exact .inr ⟨by omega,rfl⟩
  | succ i=>rw[e]at h;cases h
theorem Aa(l:List α)(x:α):gF (l++[x]) (-1)=some x:=by
 unfold gF yL;rw[aaD (by decide),aaN (by simp;omega),show(-1+((l++[x]).length:Int)).toNat=l.length by simp;omega];show(l++[x])[l.length]?=some x;rw[abt (aar _),ac4];rfl
theorem o6{r:Rw}(h:(∃ p,(p,z)∈(kX r).zip (kW r)/\(p=("a":Str)\/p=("b":Str)))\/some z=dJ (kX r) (kW r)):bM r z=true:=by
 unfold bM;rw[acQ];exact h.imp (fun h=>aaM (lq.mpr h)) fun h=>aaM h
theorem BQ:bz.lookup ("put":Str)=some (["d", "worth"]:wv):=by decide +kernel
theorem FP:bz.lookup ("go":Str)=some (["a", "p"]:wv):=by decide +kernel
theorem BR:bz.lookup ("lay":Str)=some (["b", "a", "n"]:wv):=by decide +kernel
theorem yl:bz.lookup ("less":Str)=some (["d", "a", "b"]:wv):=by decide +kernel
theorem Jo{d:Int}:bM (.put d v) d=true:=o6 (.inr (by
 show some d=dJ ((bz.lookup ("put":Str)).getD []) [d,v];rw[BQ];show some d=(List.find? (fun p:Str×Int=>decide (p.1=("d":Str))) [(("d":Str),d),(("worth":Str),v)]).map (·.2);rw[List.find?_cons_of_pos (by exact aaM rfl)];rfl))
theorem Oo{p:Int}:bM (.go a p) a=true:=o6 (.inl ⟨"a",by
 show _∈((bz.lookup ("go":Str)).getD []).zip [a,p]
 rw[FP];exact aax,.inl rfl⟩)
theorem Ab(h:z=b\/z=a):bM (.mv "lay" b a k) z=true:=by
 have e:(kX (.mv "lay" b a k)).zip (kW (.mv "lay" b a k))=[(("b":Str),b),(("a":Str),a),(("n":Str),k)]:=by
  show((bz.lookup ("lay":Str)).getD []).zip [b,a,k]=_;rw[BR];rfl
 rcases h with rfl | rfl
 ·exact o6 (.inl ⟨"b",by rw[e];simp,.inr rfl⟩)
 ·exact o6 (.inl ⟨"a",by rw[e];simp,.inl rfl⟩)
theorem FQ{d:Int}:bM (.op "less" d a b) b=true:=by
 have e:(kX (.op "less" d a b)).zip (kW (.op "less" d a b))=[(("d":Str),d),(("a":Str),a),(("b":Str),b)]:=by
  show((bz.lookup ("less":Str)).getD []).zip [d,a,b]=_;rw[yl];rfl
 exact o6 (.inl ⟨"b",by rw[e];simp,.inr rfl⟩)
section
variable {K:zn}
theorem FR(F:cL K "_law_slow_rows" "_law_slow_rows" yj f fd)(aj:Dn P w K mg base 1 "_law_draw" f1 d1 ["bag", "many"] (spT (cV Bg) iy))(bc:mg "range"=none):ba P w K mg base cU 2 f fd ["bag", "many", "order"] (spT (cV Bg) FL):=by
 exact_mod_cast F.Km km dY rfl (by rintro n ds R ⟨a,b,e,_⟩;rw[e];rfl);refine⟨_,(ae (aA 3 km.nd (cm ag))
  (ae (gn (cC bc (aa (ah 1) ag)) (aO 4 km.nd) (ae (aA 5 km.nd (ao (ah 2) (aT aV (ah 4) (ar aj hr (aa (ah 0) (aa (aT eU af (ah 4)) ag))))))
   (ae (aA 6 km.nd (ao (ah 2) (aT aV (ah 4) (ar aj hr (aa (ah 0) (aa (aT eU af (ah 4)) ag))))))
   (ai (cM (gS aaG aaQ aaR bQ (ah 3) (aa (ao (cm (aa (bg (aa aJ (aa (ao (ah 2) (ah 4)) (aa (ah 5) (aa (ah 6) ag))))) (aa (bg (aa aJ (aa (ao (ah 2) (ah 4)) (aa (ah 5) (aa (ar aj hr (aa (ah 0) (aa af ag))) ag))))) ag))) (ar aj hr (aa (ah 0) (aa af ag)))) ag)))))))
  (ai (ay (ah 3))))),?_⟩
 clear hu;symm;refine fun t g O=>⟨_,inferInstance,?_⟩;rintro n ds R ⟨m,ord,rfl,h8,hl,hn,q⟩;refine cR [_,_,_,none,none,none,none] rfl ?_;have wt:WT t g n t=some (.aE g n):=aq;generalize WT t g n=W at wt
 sizeOf_list_dec
 refine fX (aaW _) fun p W1 gp wp fp=>?_;have e0:t≠p:=fun z=>by rw[<- z,wt]at gp;cases gp
 replace wt:=fp.at e0 wt
 sizeOf_list_dec
 refine ax ?_
 sizeOf_list_dec
 refine i9 (fun i ρ W=>∃(rs:List Rw) (k:Nat) (u1 u2 u3:Option DV),ρ=[some (.pt t),some (.im (.int m)),some (.im (.list (ord.map .int))),some (.pt p),u1,u2,u3]/\rs.length=i/\(∀(k:Nat) r,rs[k]?=some r->oW ord k r)/\W p=some (.lst ((rs.map bX).map .im))/\W t=some (.aE g k)/\k<=n+4 * i) ⟨[],_,_,_,_,rfl,rfl,(fun k r h=>by cases h),wp,wt,by omega⟩ ?_ ?_
 ·rintro i ρ W hi ⟨rs,k,u1,u2,u3,rfl,Bw,KR,wp,wt,hk⟩;have WC:i < 8:=by omega
  rw[ab5]
  sizeOf_list_dec
  refine aZ wt (by omega) (by omega) (by omega) fun a0 W2 a1 a2 wt f2=>?_;replace wp:=f2.at (abi e0) wp
  sizeOf_list_dec
  refine bE (dA (xs:=ord) (by omega) (by omega)) ?_
  sizeOf_list_dec
  refine aZ wt (by omega) (by omega) (by omega) fun b0 W3 b1 b2 wt f3=>?_;replace wp:=f3.at (abi e0) wp
  sizeOf_list_dec
  refine bE (dA (xs:=ord) (by omega) (by omega)) ?_
  sizeOf_list_dec
  refine bE (dA (xs:=ord) (by omega) (by omega)) ?_
  sizeOf_list_dec
  refine aB (ds:=[.str "mul",.int (gI ord i),.int (gI ord (i+a0)),.int (gI ord (i+b0))]) (by show 4<=sizeLine;decide) ?_
  sizeOf_list_dec
  refine bE (dA (xs:=ord) (by omega) (by omega)) ?_
  sizeOf_list_dec
  refine aZ wt (by omega) (by omega) (by omega) fun c0 W4 c1 c2 wt f4=>?_;replace wp:=f4.at (abi e0) wp
  sizeOf_list_dec
  refine aB (ds:=[.str "take",.int (gI ord i),.int (gI ord (i+a0)),.int c0]) (by show 4<=sizeLine;decide) ?_
  sizeOf_list_dec
  refine cX (ds:=[bX (.op "mul" (gI ord i) (gI ord (i+a0)) (gI ord (i+b0))),bX (.mv "take" (gI ord i) (gI ord (i+a0)) c0)]) (by show 2<=sizeLine;decide) ?_
  sizeOf_list_dec
  refine aZ wt (by omega) (by omega) (by omega) fun d0 W5 d1 d2 wt f5=>?_;replace wp:=f5.at (abi e0) wp;have hd:∃ r,oW ord i r/\gF [bX (.op "mul" (gI ord i) (gI ord (i+a0)) (gI ord (i+b0))),bX (.mv "take" (gI ord i) (gI ord (i+a0)) c0)] d0=some (bX r):=by
   have ha:gI ord ((i:Int)+a0)∈ord.drop i:=zZ a1 (by omega);obtain rfl | rfl:d0=0\/d0=1:=by omega
   ·exact⟨_,⟨_,ha,.inl ⟨gI ord (i+b0),zZ b1 (by omega),by rw[gC]⟩⟩,rfl⟩
   ·exact⟨_,⟨_,ha,.inr ⟨c0,c1,c2,by rw[gC]⟩⟩,rfl⟩
  obtain⟨r,Si,HS⟩:=hd;refine bE HS ?_
  sizeOf_list_dec
  refine bU wp (by rw[aal,aal];exact cG (by omega)) fun W6 w6 f6=>?_
  sizeOf_list_dec
  refine⟨rs++[r],_,_,_,_,rfl,by rw[aaP,Bw];rfl,fun k r' h=>?_,by rw[w6];simp,f6.at e0 wt,by omega⟩;rcases FO h with h2 | ⟨h2,rfl⟩
  ·exact KR k r' h2
  ·rw[h2,Bw];exact Si
 ·rintro ρ W ⟨rs,k,u1,u2,u3,rfl,Bw,KR,wp,wt,hk⟩
  sizeOf_list_dec
  exact⟨_,wt,gZ wp (q rs _ (by omega) KR (by omega))⟩
theorem vJ(F:cL K "_law_worths_of" "_law_worths_of" lr f fd):ba P w K mg base cU 1 f fd ["rows", "spots", "cells"] (df qK):=by
 exact_mod_cast F.nT jz (by rintro ds R X ⟨a,b,c,d,e,_⟩;rw[e];rfl);refine⟨_,(ae (aA 3 jz.nd (cm ag))
  (ae (gn (dQ (ah 0)) (aO 4 jz.nd) (ai (bj (aG (aI hu) (ao (ah 4) af) aJ) (ai (cM (gS aaG aaQ aaR bQ (ah 3) (aa (aT eV (aT js (ao (ah 1) (ao (ah 4) af)) (ao (ah 1) (ao (ah 4) af))) af) ag)))) (ai (cM (gS aaG aaQ aaR bQ (ah 3) (aa (ao (ah 2) (aT eV (aT aV (ao (ah 1) (ao (ah 4) af)) (ao (ah 4) af)) af)) ag)))))))
  (ai (ay (ah 3))))),?_⟩
 push_cast;rintro ds R ⟨rs,m,sp,ce,rfl,hl,h8,WD,hw,hr,q⟩;refine cR [_,_,_,none,none] rfl ?_
 sizeOf_list_dec
 refine fX (aaW _) fun p W1 gp wp fp=>?_
 sizeOf_list_dec
 refine ax ?_
 sizeOf_list_dec
 refine jT (fun i ρ W=>∃ u,ρ=[some (.im (.list (rs.map bX))),some (.im (.list (sp.map .int))),some (.im (.list (ce.map .int))),some (.pt p),u]/\W p=some (.lst ((((rs.take i).map (Rw.gives sp ce)).map PyData.int).map .im))) ⟨_,rfl,wp⟩ ?_ ?_
 ·rintro i d ρ W hd ⟨u,rfl,wp⟩;rw[aap]at hd;obtain⟨r,Si,rfl⟩:=aaH.mp hd;have et:rs.take (i+1)=rs.take i++[r]:=by rw[aaT,Si];rfl
  have ok:=hr r (aa0 Si);rw[et,aaU,aaU,aaU];have Bq:(((rs.take i).map (Rw.gives sp ce)).map PyData.int).length < 100+1:=by simp;omega
  generalize ((rs.take i).map (Rw.gives sp ce)).map PyData.int=ys at *;clear et Si hd;cases r with
  | put d v=>exact ok.2.elim
  | go a p=>exact ok.2.elim
  | one x=>exact ok.2.elim
  | op x d a b =>
   obtain⟨⟨_,o1,o2,o3⟩,rfl⟩:=ok;dsimp only[bX]
   sizeOf_list_dec
   have a8:a < (sp.length:Int):=by have:=o2.2;omega
   have b8:b < (sp.length:Int):=by have:=o3.2;omega
   refine bE (dA (xs:=sp) o2.1 a8) ?_
   sizeOf_list_dec
   refine bE (dA (xs:=sp) o3.1 b8) ?_
   sizeOf_list_dec
   refine⟨_,_,rfl,rfl,.inl (by have:=zJ hw a;unfold Wr at this;omega),?_⟩
   sizeOf_list_dec
   refine bU wp (by rw[aal];exact cG (by omega)) fun W2 w2 f2=>?_;exact⟨_,rfl,w2⟩
  | mv x d a k =>
   obtain⟨⟨_,o1,o2,o3⟩,rfl⟩:=ok;dsimp only[bX]
   sizeOf_list_dec
   have a8:a < (sp.length:Int):=by have:=o2.2;omega
   refine bE (dA (xs:=sp) o2.1 a8) ?_
   sizeOf_list_dec
   refine bE (dA (xs:=ce) (abP _ (by decide)) (by have:=abv (gI sp a+k) (show(0:Int) < 16 by decide);omega)) ?_
   sizeOf_list_dec
   refine bU wp (by rw[aal];exact cG (by omega)) fun W2 w2 f2=>?_;exact⟨_,rfl,w2⟩
 ·rintro ρ W ⟨u,rfl,wp⟩
  sizeOf_list_dec
  rw[aal,abe]at wp;exact gZ wp q
theorem FT(F:cL K "_law_beats" "_law_beats" yk f fd)(aj:Dn P w K mg base 1 "_law_draw" f1 d1 ["bag", "many"] (spT (cV Bg) iy))(dm:Dn P w K mg base 2 "_law_far" f2 d2 ["bag"] (spT (cV Bg) Eu))(bc:mg "range"=none):ba P w K mg base cU 3 f fd ["bag", "many"] (spT (cV Bg) FN):=by
 exact_mod_cast F.Km tG dY rfl (by rintro n ds R ⟨a,e,_⟩;rw[e];rfl);refine⟨_,(ae (aA 2 tG.nd (cm (aa (ao (cm (aa af (aa (ar aj hr (aa (ah 0) (aa af ag))) (aa (ar dm hr (aa (ah 0) ag)) ag)))) (ar aj hr (aa (ah 0) (aa af ag)))) ag)))
  (ae (gn (cC bc (aa (aT eU (ah 1) af) ag)) (aO 3 tG.nd) (ai (cM (gS aaG aaQ aaR bQ (ah 2) (aa (aT aV (ao (ah 2) (Di mU af)) (ar aj hr (aa (ah 0) (aa af ag)))) ag)))))
  (ai (ay (ah 2))))),?_⟩
 clear hu;symm;refine fun t g O=>⟨_,inferInstance,?_⟩;rintro n ds R ⟨m,rfl,h1,h8,hn,q⟩;refine cR [_,_,none,none] rfl ?_;have wt:WT t g n t=some (.aE g n):=aq;generalize WT t g n=W at wt
 sizeOf_list_dec
 refine aZ wt (by omega) (by omega) (by omega) fun a0 W2 a1 a2 wt f2=>?_
 sizeOf_list_dec
 refine dP (ds:=[]) wt ⟨rfl,by omega,fun fr n3 WE Y0=>cQ ?_⟩;replace wt:aH W2 t (.aE g n3) t=some (.aE g n3):=aq;generalize aH W2 t (.aE g n3)=W3 at wt
 sizeOf_list_dec
 refine cX (ds:=[0,a0,fr].map PyData.int) (by show 3<=sizeLine;decide) ?_
 sizeOf_list_dec
 refine aZ wt (by omega) (by omega) (by omega) fun c0 W4 c1 c2 wt f4=>?_;refine el c1 (by simpa using c2) fun y hy=>?_;have y0:0<=y:=by simp at hy;omega
 sizeOf_list_dec
 refine fX (vs:=[.im (.int y)]) (by show 1<=sizeLine;decide) fun p W5 gp wp fp=>?_;have e0:t≠p:=fun z=>by rw[<- z,wt]at gp;cases gp
 replace wt:=fp.at e0 wt
 sizeOf_list_dec
 refine ax ?_
 sizeOf_list_dec
 refine i9 (fun i ρ W=>∃(bs:wn) (z:Int) (k:Nat) (u:Option DV),ρ=[some (.pt t),some (.im (.int m)),some (.pt p),u]/\(bs++[z]).length=i+1/\(∀ b∈bs++[z],0<=b)/\(bs++[z]).Pairwise (·<=·)/\(∀ b∈bs,b<=z)/\W p=some (.lst (((bs++[z]).map PyData.int).map .im))/\W t=some (.aE g k)/\k<=n+9+i) ⟨[],y,_,_,rfl,rfl,(fun b hb=>by rw[aaq.mp hb];exact y0),acp ..,(fun b hb=>by cases hb),wp,wt,by omega⟩ ?_ ?_
 ·rintro i ρ W hi ⟨bs,z,k,u,rfl,hl,Oq,O5,Y1,wp,wt,hk⟩;have WC:i < 8:=by omega
  sizeOf_list_dec
  refine fk (v:=.im (.int z)) wp (by rw[aaU,aaU];exact Aa _ _) ?_
  sizeOf_list_dec
  refine aZ wt (by omega) (by omega) (by omega) fun d0 W6 d1 d2 wt f6=>?_;replace wp:=f6.at (abi e0) wp
  sizeOf_list_dec
  refine bU wp (by rw[aal,aal,hl];exact cG (by omega)) fun W7 w7 f7=>?_;have hle:∀ b∈bs++[z],b<=z+d0:=fun b hb=>by
   rcases aav.mp hb with c | c
   ·have:=Y1 b c;omega
   ·rw[aaq.mp c];omega
  refine⟨bs++[z],z+d0,_,_,rfl,by rw[aaP,hl];rfl,fun b hb=>?_,acE.mpr ⟨O5,acp ..,fun x hx y hy=>by rw[aaq.mp hy];exact hle x hx⟩,hle,by rw[w7];simp,f7.at e0 wt,by omega⟩;rcases aav.mp hb with c | c
  ·exact Oq b c
  ·rw[aaq.mp c];have:=Oq z (aav.mpr (.inr (aaq.mpr rfl)));omega
 ·rintro ρ W ⟨bs,z,k,u,rfl,hl,Oq,O5,Y1,wp,wt,hk⟩
  sizeOf_list_dec
  exact⟨_,wt,gZ wp (q _ _ (by omega) Oq O5 (by omega))⟩
theorem ym(F:cL K "_law_row_more" "_law_row_more" o5 f fd)(aj:Dn P w K mg base 1 "_law_draw" f1 d1 ["bag", "many"] (spT (cV Bg) iy))(qA:mg "int"=none):ba P w K mg base cU 2 f fd ["bag", "many", "spot", "spots"] (spT (cV Bg) vI):=by
 exact_mod_cast F.Km jf dY rfl (by rintro n ds R ⟨a,b,c,e,_⟩;rw[e];rfl);refine⟨_,(ae (aA 4 jf.nd (ar aj hr (aa (ah 0) (aa af ag))))
  (ae (aA 5 jf.nd (ar aj hr (aa (ah 0) (aa af ag))))
  (ae (aA 6 jf.nd (ar aj hr (aa (ah 0) (aa af ag))))
  (ae (bj (aG (aI hu) (ah 6) af) (ai (ay (bg (aa (bg (aa aJ (aa (ah 2) (aa (ah 5) ag)))) (aa (bg (aa aJ (aa (ah 2) (aa (ah 5) ag)))) ag))))) aC)
  (ae (bj (aG (aI hu) (ah 6) af) (ai (ay (bg (aa (bg (aa aJ (aa (ah 2) (aa (aT aV (ah 1) af) ag)))) (aa fh ag))))) aC)
  (ae (bj (aG (aI hu) (ah 6) af) (ai (ay (bg (aa (bg (aa aJ (aa (ah 2) (aa (ah 4) (aa (ah 5) ag))))) (aa (bg (aa aJ (aa (aT eV (aT aV (ao (ah 3) (ah 4)) (ah 5)) af) (aa (ao (ah 3) (ah 2)) ag)))) ag))))) aC)
  (ae (bj (aG (aI hu) (ah 6) af) (ai (ay (bg (aa (bg (aa aJ (aa (ah 4) (aa (ah 2) (aa (ah 5) ag))))) (aa (bg (aa aJ (aa (aT eV (aT aV (ao (ah 3) (ah 2)) (ah 5)) af) (aa (ao (ah 3) (ah 4)) ag)))) ag))))) aC)
  (ai (ay (bg (aa (bg (aa aJ (aa (ah 4) (aa (ah 4) (aa (ah 2) ag))))) (aa (bg (aa aJ (aa (ah 4) (aa (gJ AX qA PyProof.Rows.boot_int (aa (jJ lE (ao (ah 3) (ah 4)) (ao (ah 3) (ah 2))) ag)) ag)))) ag)))))))))))),?_⟩
 clear hu;symm;refine fun t g O=>⟨_,inferInstance,?_⟩;rintro n ds R ⟨m,dj,sp,rfl,hs,h8,hn,q⟩;refine cR [_,_,_,_,none,none,none] rfl ?_;have wt:WT t g n t=some (.aE g n):=aq;generalize WT t g n=W at wt
 sizeOf_list_dec
 refine aZ wt (by omega) (by omega) (by omega) fun o W2 o1 o2 wt f2=>?_
 sizeOf_list_dec
 refine aZ wt (by omega) (by omega) (by omega) fun k W3 k1 k2 wt f3=>?_
 sizeOf_list_dec
 refine aZ wt (by omega) (by omega) (by omega) fun kd W4 kd1 kd2 wt f4=>?_;obtain⟨s0,s1⟩:=hs;have so:B8 dj:=⟨s0,s1⟩;have oo:B8 o:=⟨o1,o2⟩
 sizeOf_list_dec
 refine ax ?_
 sizeOf_list_dec
 refine gj (fun z=>?_) (fun z=>?_)
 ·sizeOf_list_dec
  refine aB (ds:=[.str "put",.int dj,.int k]) (by show 3<=sizeLine;decide) ?_
  sizeOf_list_dec
  refine aB (ds:=[.str "spot",.int dj,.int k]) (by show 3<=sizeLine;decide) ?_
  sizeOf_list_dec
  refine aB (ds:=[bX (.put dj k),fL (some ("spot",dj,k))]) (by show 2<=sizeLine;decide) ?_;exact⟨_,wt,q (.put dj k) (some ("spot",dj,k)) _ ⟨so,k1,by omega⟩ Jo (fun _=>rfl) (by omega)⟩
 sizeOf_list_dec
 refine ax ?_
 sizeOf_list_dec
 refine gj (fun z2=>?_) (fun z2=>?_)
 ·sizeOf_list_dec
  refine aB (ds:=[.str "go",.int dj,.int ((m:Int)+1)]) (by show 3<=sizeLine;decide) ?_
  sizeOf_list_dec
  refine aB (ds:=[bX (.go dj ((m:Int)+1)),fL none]) (by show 2<=sizeLine;decide) ?_;exact⟨_,wt,q (.go dj ((m:Int)+1)) none _ ⟨so,by omega,by omega⟩ Oo (fun _=>rfl) (by omega)⟩
 sizeOf_list_dec
 refine ax ?_
 sizeOf_list_dec
 have Y2:∀ z:Int,0<=z % 16/\z % 16 < 16:=fun z=>⟨abP _ (by decide),abv _ (by decide)⟩;have wl:∀(b a:Int) (ce:wn),(Rw.mv "lay" b a k).wrote sp ce=some (("cell":Str),(gI sp a+k) % 16,gI sp b):=fun b a ce=>by unfold Rw.wrote;exact aaN rfl
 refine gj (fun z3=>?_) (fun z3=>?_)
 ·sizeOf_list_dec
  refine aB (ds:=[.str "lay",.int dj,.int o,.int k]) (by show 4<=sizeLine;decide) ?_
  sizeOf_list_dec
  refine bE (dA (xs:=sp) o1 (by omega)) ?_
  sizeOf_list_dec
  refine bE (dA (xs:=sp) s0 (by omega)) ?_
  sizeOf_list_dec
  refine aB (ds:=[.str "cell",.int ((gI sp o+k) % 16),.int (gI sp dj)]) (by show 3<=sizeLine;decide) ?_
  sizeOf_list_dec
  refine aB (ds:=[bX (.mv "lay" dj o k),fL (some ("cell",(gI sp o+k) % 16,gI sp dj))]) (by show 2<=sizeLine;decide) ?_;exact⟨_,wt,q (.mv "lay" dj o k) _ _ ⟨.inr rfl,so,oo,k1,k2⟩ (Ab (.inl rfl)) (wl _ _) (by omega)⟩
 sizeOf_list_dec
 refine ax ?_
 sizeOf_list_dec
 refine gj (fun z4=>?_) (fun z4=>?_)
 ·sizeOf_list_dec
  refine aB (ds:=[.str "lay",.int o,.int dj,.int k]) (by show 4<=sizeLine;decide) ?_
  sizeOf_list_dec
  refine bE (dA (xs:=sp) s0 (by omega)) ?_
  sizeOf_list_dec
  refine bE (dA (xs:=sp) o1 (by omega)) ?_
  sizeOf_list_dec
  refine aB (ds:=[.str "cell",.int ((gI sp dj+k) % 16),.int (gI sp o)]) (by show 3<=sizeLine;decide) ?_
  sizeOf_list_dec
  refine aB (ds:=[bX (.mv "lay" o dj k),fL (some ("cell",(gI sp dj+k) % 16,gI sp o))]) (by show 2<=sizeLine;decide) ?_;exact⟨_,wt,q (.mv "lay" o dj k) _ _ ⟨.inr rfl,oo,so,k1,k2⟩ (Ab (.inr rfl)) (wl _ _) (by omega)⟩
 sizeOf_list_dec
 refine aB (ds:=[.str "less",.int o,.int o,.int dj]) (by show 4<=sizeLine;decide) ?_
 sizeOf_list_dec
 refine bE (dA (xs:=sp) o1 (by omega)) ?_
 sizeOf_list_dec
 refine bE (dA (xs:=sp) s0 (by omega)) ?_
 sizeOf_list_dec
 have wl2:∀ ce:List Int,(Rw.op "less" o o dj).wrote sp ce=some (("spot":Str),o,if gI sp o < gI sp dj then(1:Int)else 0):=fun ce=>by unfold Rw.wrote Rw.gives;dsimp only;rw[aaD (by decide),aaD (by decide)]
 refine aB (ds:=[.str "spot",.int o,.int (if decide (gI sp o < gI sp dj)=true then 1 else 0)]) (by show 3<=sizeLine;decide) ?_
 sizeOf_list_dec
 refine aB (ds:=[bX (.op "less" o o dj),fL (some ("spot",o,if decide (gI sp o < gI sp dj)=true then 1 else 0))]) (by show 2<=sizeLine;decide) ?_;exact⟨_,wt,q (.op "less" o o dj) _ _ ⟨.inr (.inr rfl),oo,oo,so⟩ FQ (fun ce=>by rw[wl2];congr 3;simp) (by omega)⟩
end
abbrev FU:Stmt:=top 43
theorem jA:av ["bag", "beats", "longest", "spoilt", "keys", "k", "wait", "tie"] ["bag", "beats", "longest", "spoilt"] (defScope FU):=by ac_rfl
def Lf(ls:tz)(k:Nat):Int×Int:=ls.getD k (0,0)
structure LsOk(B:Nat->Int)(lg az:Int)(ls:tz):Prop where
 GH:∀ k,k < ls.length->(Lf ls k).2=0\/(Lf ls k).2=2
 od:∀ k,k < ls.length->B k < (Lf ls k).1\/(B k=(Lf ls k).1/\(Lf ls k).2=2)
 Sj:∀ k:Nat,k < ls.length->(k:Int)≠az->(Lf ls k).1<=B k+lg
 out:∀ k:Nat,k < ls.length->(k:Int)=az->B k+lg < (Lf ls k).1
 al:∀ k,k < ls.length->(Lf ls k).1<=B k+lg+3
structure yn(B:Nat->Int)(ls:tz)(xs:List K3):Prop where
 mem:∀ x,x∈xs↔∃ k,k < ls.length/\(x=eK B k\/x=lK (Lf ls) k)
 nd:xs.Nodup
theorem FV{k:Nat}(h:k < ls.length):Lf (ls++[y]) k=Lf ls k:=by
 unfold Lf;rw[aau,aau,ab6 h]
theorem FW:Lf (ls++[y]) ls.length=y:=by
 unfold Lf;rw[aau,abt (aar _),ac4];rfl
theorem LsOk.snoc{az:Int}(h:LsOk B lg az ls)(h1:y.2=0\/y.2=2)(h2:B ls.length < y.1\/(B ls.length=y.1/\y.2=2))(h3:(ls.length:Int)≠az->y.1<=B ls.length+lg)(h4:(ls.length:Int)=az->B ls.length+lg < y.1)(h5:y.1<=B ls.length+lg+3):LsOk B lg az (ls++[y]):=by
 have key:∀{P:Nat->(Int×Int)->Prop},(∀ k,k < ls.length->P k (Lf ls k))->P ls.length y->∀ k,k < (ls++[y]).length->P k (Lf (ls++[y]) k):=by
  intro P p1 p2 k hk;rw[aaP,acv]at hk
  by_cases e:k < ls.length
  ·rw[FV e];exact p1 k e
  ·obtain rfl:k=ls.length:=by omega
   rw[FW];exact p2
 exact⟨key (P:=fun _ z=>z.2=0\/z.2=2) h.GH h1,key (P:=fun k z=>B k < z.1\/(B k=z.1/\z.2=2)) h.od h2,key (P:=fun k z=>(k:Int)≠az->z.1<=B k+lg) h.Sj h3,key (P:=fun k z=>(k:Int)=az->B k+lg < z.1) h.out h4,key (P:=fun k z=>z.1<=B k+lg+3) h.al h5⟩
theorem yn.snoc{xs:List K3}(h:yn B ls xs)(h1:y.2=0\/y.2=2):yn B (ls++[y]) (xs++[eK B ls.length]++[(y.1,y.2,(ls.length:Int))]):=by
 have ln:lK (Lf (ls++[y])) ls.length=(y.1,y.2,(ls.length:Int)):=by unfold lK;rw[FW]
 have lo:∀ k,k < ls.length->lK (Lf (ls++[y])) k=lK (Lf ls) k:=fun k hk=>by unfold lK;rw[FV hk]
 have h3:∀ x∈xs,x.2.2 < (ls.length:Int):=by
  intro x hx;obtain⟨k,hk,rfl | rfl⟩:=(h.mem x).mp hx<;>dsimp only[eK,lK]<;>omega
 refine⟨fun x=>?_,?_⟩
 ·rw[aav,aav,aaq,aaq,h.mem];constructor
  ·rintro((⟨k,hk,c⟩ | c) | c)
   ·exact⟨k,by simp;omega,by rw[lo k hk];exact c⟩
   ·exact⟨ls.length,by simp,.inl c⟩
   ·exact⟨ls.length,by simp,.inr (by rw[ln];exact c)⟩
  ·rintro⟨k,hk,c⟩;rw[aaP,acv]at hk
   by_cases e:k < ls.length
   ·rw[lo k e]at c;exact .inl (.inl ⟨k,e,c⟩)
   ·obtain rfl:k=ls.length:=by omega
    rw[ln]at c;exact c.elim (fun c=>.inl (.inr c)) .inr
 ·refine adI.mpr ⟨adI.mpr ⟨h.nd,abD.mpr ⟨abl,.nil⟩,fun a ha b hb e=>?_⟩,abD.mpr ⟨abl,.nil⟩,fun a ha b hb e=>?_⟩
  ·rw[aaq.mp hb]at e;have:=h3 a ha;rw[e]at this;exact absurd this (by dsimp only[eK];omega)
  ·rw[aaq.mp hb]at e;rcases aav.mp ha with c | c
   ·have:=h3 a c;rw[e]at this;exact absurd this (by dsimp only;omega)
   ·rw[aaq.mp c]at e;have:(1:Int)=y.2:=abJ (fun x:K3=>x.2.1) e;omega
theorem Ot{xs:List K3}(h:yn B ls xs)(h8:ls.length<=8)(ht:∀ k,k < ls.length->(Lf ls k).2=0\/(Lf ls k).2=2):∀ x∈xs,iU x:=by
 intro x hx;obtain⟨k,hk,rfl | rfl⟩:=(h.mem x).mp hx
 ·unfold iU eK;dsimp only;omega
 ·have:=ht k hk;unfold iU lK;dsimp only;omega
theorem Sk{xs:List K3}(h:yn B ls xs)(hk:∀ x∈xs,iU x)(hp:ks.Perm xs)(hw:ks.Pairwise (fun a b=>iD a<=iD b)):Ks ls.length B (Lf ls) ks:=by
 refine⟨fun x=>by rw[hp.mem_iff,h.mem],?_⟩;have nd:=hp.nodup_iff.mpr h.nd;have:=List.Pairwise.and_mem.mp (hw.and nd);refine this.imp fun{a b} ⟨ha,hb,h1,h2⟩=>?_;have oa:=hk a (hp.mem_iff.mp ha);have ob:=hk b (hp.mem_iff.mp hb);obtain⟨a1,a2,a3⟩:=a;obtain⟨b1,b2,b3⟩:=b;unfold iU at oa ob;unfold iD at h1;unfold qJ;dsimp only at *;rcases Int.lt_or_le (100 * a1+10 * a2+a3) (100 * b1+10 * b2+b3)with c | c
 ·exact c
 ·exfalso;apply h2;obtain rfl:a1=b1:=by omega
  obtain rfl:a2=b2:=by omega
  obtain rfl:a3=b3:=by omega
  rfl
def KS:uH:=fun n ds R=>∃(bs:wn) (lg az:Int),ds=[.list (bs.map .int),.int lg,.int az]/\1<=bs.length/\bs.length<=8/\0<=lg/\n<=990000000/\∀(ls:tz) (ks:List K3) (n':Nat),ls.length=bs.length->LsOk (dK bs) lg az ls->Ks bs.length (dK bs) (Lf ls) ks->ks.length=2 * bs.length->n'<=n+40->R (.nw (ks.map hU)) n'
section
variable {K:zn}
theorem Jp(F:cL K "_law_keys" "_law_keys" FU f fd)(aj:Dn P w K mg base 1 "_law_draw" f1 d1 ["bag", "many"] (spT (cV Bg) iy))(bc:mg "range"=none)(bu:mg "len"=none)(FX:mg "min"=none)(gP:mg "sorted"=none):ba P w K mg base cU 2 f fd ["bag", "beats", "longest", "spoilt"] (spT (cV Bg) KS):=by
 exact_mod_cast F.Km jA dY rfl (by rintro n ds R ⟨a,b,c,e,_⟩;rw[e];rfl);refine⟨_,(ae (aA 4 jA.nd (cm ag))
  (ae (gn (cC bc (aa (bD bq bu aa3 (aa (ah 1) ag)) ag)) (aO 5 jA.nd) (ae (cM (gS aaG aaQ aaR bQ (ah 4) (aa (bg (aa (ao (ah 1) (ah 5)) (aa af (aa (ah 5) ag)))) ag)))
   (ae (aA 6 jA.nd (ao (cm (aa (ah 2) (aa (ar aj hr (aa (ah 0) (aa (aT aV (bD (AW rfl) FX PyProof.Rows.boot_min (aa (ah 2) (aa af ag))) af) ag))) (aa (ah 2) ag)))) (ar aj hr (aa (ah 0) (aa af ag)))))
   (ae (aA 7 jA.nd (ao (cm (gH rfl)) (ar aj hr (aa (ah 0) (aa af ag)))))
   (ae (bj (aG (aI hu) (ah 6) af) (ai (aA 7 jA.nd af)) aC)
   (ae (bj (aG (aI hu) (ah 5) (ah 3)) (ai (aA 6 jA.nd (aT aV (aT aV (ah 2) af) (ar aj hr (aa (ah 0) (aa af ag)))))) aC)
   (ai (cM (gS aaG aaQ aaR bQ (ah 4) (aa (bg (aa (aT aV (ao (ah 1) (ah 5)) (ah 6)) (aa (ah 7) (aa (ah 5) ag)))) ag))))))))))
  (ai (ay (bD (sj rfl) gP adJ (aa (ah 4) ag)))))),?_⟩
 clear hu;symm;refine fun t g O=>⟨_,inferInstance,?_⟩;rintro n ds R ⟨bs,lg,az,rfl,h1,h8,l0,hn,q⟩;refine cR [_,_,_,_,none,none,none,none] rfl ?_;have wt:WT t g n t=some (.aE g n):=aq;generalize WT t g n=W at wt
 sizeOf_list_dec
 refine fX (aaW _) fun p W1 gp wp fp=>?_;have e0:t≠p:=fun z=>by rw[<- z,wt]at gp;cases gp
 replace wt:=fp.at e0 wt
 sizeOf_list_dec
 refine ax ?_
 sizeOf_list_dec
 rw[aal]
 sizeOf_list_dec
 refine i9 (fun i ρ W=>∃(ls:tz) (xs:List K3) (k:Nat) (u1 u2 u3:Option DV),ρ=[some (.pt t),some (.im (.list (bs.map .int))),some (.im (.int lg)),some (.im (.int az)),some (.pt p),u1,u2,u3]/\ls.length=i/\LsOk (dK bs) lg az ls/\yn (dK bs) ls xs/\xs.length=2 * i/\W p=some (.lst ((xs.map hU).map .im))/\W t=some (.aE g k)/\k<=n+4 * i) ⟨[],[],_,_,_,_,rfl,rfl,⟨fun _ h=>(by cases h),fun _ h=>(by cases h),fun _ h=>(by cases h),fun _ h=>(by cases h),fun _ h=>(by cases h)⟩,⟨fun x=>⟨fun h=>(by cases h),fun⟨_,h,_⟩=>(by cases h)⟩,.nil⟩,rfl,wp,wt,by omega⟩ ?_ ?_
 ·rintro i ρ W hi ⟨ls,xs,k,u1,u2,u3,rfl,yo,dB,TY,Y3,wp,wt,hk⟩;have WC:i < 8:=by omega
  rw[ab5]
  sizeOf_list_dec
  refine bE (dA (xs:=bs) (by omega) (by omega)) ?_
  sizeOf_list_dec
  refine aB (ds:=[.int (gI bs i),.int 1,.int i]) (by show 3<=sizeLine;decide) ?_
  sizeOf_list_dec
  refine bU wp (by rw[aal,aal];exact cG (by omega)) fun W2 w2 f2=>?_;replace wt:=f2.at e0 wt
  sizeOf_list_dec
  refine aZ wt (by omega) (by split<;>omega) (by split<;>omega) fun a0 W3 a1 a2 wt f3=>?_;replace w2:=f3.at (abi e0) w2
  sizeOf_list_dec
  refine cX (ds:=[lg,a0,lg].map PyData.int) (by show 3<=sizeLine;decide) ?_
  sizeOf_list_dec
  refine aZ wt (by omega) (by omega) (by omega) fun c0 W4 c1 c2 wt f4=>?_;replace w2:=f4.at (abi e0) w2;refine el c1 (by simpa using c2) fun wa Y4=>?_;have w0:0<=wa/\wa<=lg:=by simp at Y4;split at a2<;>omega
  sizeOf_list_dec
  refine cX (ds:=[0,2].map PyData.int) (by show 2<=sizeLine;decide) ?_
  sizeOf_list_dec
  refine aZ wt (by omega) (by omega) (by omega) fun d0 W5 d1 d2 wt f5=>?_;replace w2:=f5.at (abi e0) w2;refine el d1 (by simpa using d2) fun ti Y5=>?_;have t0:ti=0\/ti=2:=by simpa using Y5
  sizeOf_list_dec
  have fin:∀(y:Int×Int) (W:Wd) (k:Nat) (u2 u3:Option DV),(y.2=0\/y.2=2)->(dK bs ls.length < y.1\/(dK bs ls.length=y.1/\y.2=2))->((ls.length:Int)≠az->y.1<=dK bs ls.length+lg)->((ls.length:Int)=az->dK bs ls.length+lg < y.1)->y.1<=dK bs ls.length+lg+3->W p=some (.lst ((xs.map hU).map .im++[.im (.tuple [.int (gI bs i),.int 1,.int i])]++[.im (.tuple [.int y.1,.int y.2,.int i])]))->W t=some (.aE g k)->k<=n+4 * (i+1)->∃(ls:tz) (xs:List K3) (k:Nat) (u1' u2' u3':Option DV),[some (.pt t),some (.im (.list (bs.map .int))),some (.im (.int lg)),some (.im (.int az)),some (.pt p),some (.im (.int i)),u2,u3]=[some (.pt t),some (.im (.list (bs.map .int))),some (.im (.int lg)),some (.im (.int az)),some (.pt p),u1',u2',u3']/\ls.length=i+1/\LsOk (dK bs) lg az ls/\yn (dK bs) ls xs/\xs.length=2 * (i+1)/\W p=some (.lst ((xs.map hU).map .im))/\W t=some (.aE g k)/\k<=n+4 * (i+1):=fun y W k u2 u3 y1 y2 y3 y4 y5 w wt hk=>by
   refine⟨ls++[y],_,k,_,_,_,rfl,by simp[yo],dB.snoc y1 y2 y3 y4 y5,TY.snoc y1,by simp[Y3];omega,?_,wt,hk⟩;rw[w];simp[hU,eK,yo,gC]
  refine fV (fun ρ W=>∃ ti:Int,(ti=0\/ti=2)/\(wa=0->ti=2)/\W5=W/\ρ=[some (.pt t),some (.im (.list (bs.map .int))),some (.im (.int lg)),some (.im (.int az)),some (.pt p),some (.im (.int i)),some (.im (.int wa)),some (.im (.int ti))]) (fun kk jn=>?_) ?_
  ·sizeOf_list_dec
   refine gj (fun z=>?_) (fun z=>?_)
   ·sizeOf_list_dec
    exact jn _ _ ⟨2,.inr rfl,fun _=>rfl,rfl,rfl⟩
   ·sizeOf_list_dec
    exact jn _ _ ⟨ti,t0,fun c=>absurd c z,rfl,rfl⟩
  clear t0 Y5;rintro ρ _ ⟨ti,t0,t1,rfl,rfl⟩
  sizeOf_list_dec
  refine fV (fun ρ W=>∃(wa:Int) (k:Nat),0<=wa/\(wa=0->ti=2)/\((i:Int)≠az->wa<=lg)/\((i:Int)=az->lg < wa)/\wa<=lg+3/\W p=W5 p/\W t=some (.aE g k)/\k<=n+4 * i+4/\ρ=[some (.pt t),some (.im (.list (bs.map .int))),some (.im (.int lg)),some (.im (.int az)),some (.pt p),some (.im (.int i)),some (.im (.int wa)),some (.im (.int ti))]) (fun kk jn=>?_) ?_
  ·sizeOf_list_dec
   refine gj (fun z=>?_) (fun z=>?_)
   ·sizeOf_list_dec
    refine aZ wt (by omega) (by omega) (by omega) fun e1 W6 e2 e3 wt f6=>?_
    sizeOf_list_dec
    exact jn _ _ ⟨lg+1+e1,_,by omega,fun c=>by omega,fun c=>absurd z c,fun _=>by omega,by omega,f6 _ (abi e0),wt,by omega,rfl⟩
   ·sizeOf_list_dec
    exact jn _ _ ⟨wa,_,w0.1,t1,fun _=>w0.2,fun c=>absurd c z,by omega,rfl,wt,by omega,rfl⟩
  clear wt Y4 w0 t1;rintro ρ W6 ⟨wa,k6,wa0,t1,v1,v2,v3,w6,wt,hk6,rfl⟩;rw[<- w6]at w2
  sizeOf_list_dec
  refine bE (dA (xs:=bs) (by omega) (by omega)) ?_
  sizeOf_list_dec
  refine aB (ds:=[.int (gI bs i+wa),.int ti,.int i]) (by show 3<=sizeLine;decide) ?_
  sizeOf_list_dec
  refine bU w2 (by rw[aaP,aal,aal];exact cG (by simp;omega)) fun W7 w7 f7=>?_;refine fin (gI bs i+wa,ti) _ _ _ _ t0 ?_ ?_ ?_ (by rw[yo,gC];dsimp only;omega) (by rw[w7]) (f7.at e0 wt) (by omega)
  ·rw[yo,gC];dsimp only;omega
  ·rw[yo,gC];intro c;have:=v1 c;dsimp only;omega
  ·rw[yo,gC];intro c;have:=v2 c;dsimp only;omega
 ·rintro ρ W ⟨ls,xs,k,u1,u2,u3,rfl,yo,dB,TY,Y3,wp,wt,hk⟩;have Bq:ls.length=bs.length:=by omega
  sizeOf_list_dec
  have ok:=Ot TY (by omega) dB.GH;refine⟨_,xs,rfl,jS wp,ok,by omega,by omega,fun vZ tp tw=>jm fun p' W' Y6 w' f'=>?_⟩;have e1:t≠p':=fun z=>by rw[<- z,wt]at Y6;cases Y6
  have:=Sk TY ok tp tw;rw[Bq]at this;exact⟨_,f'.at e1 wt,gZ w' (q ls vZ _ Bq dB this (by rw[tp.length_eq];omega) (by omega))⟩
end
abbrev yq:Stmt:=top 48
theorem ko:av ["diary", "most", "event", "many"] ["diary"] (defScope yq):=by ac_rfl
noncomputable def FY:jj:=fun ds R _=>∃ es:List Ev,ds=[.list (es.map bI)]/\es.length<=200/\∀ m:Int,1<=m->(∀ b,(cnt b es:Int)<=m)->R (.im (.int m))
section
variable {K:zn}
theorem FZ(F:cL K "_law_width" "_law_width" yq f fd)(bu:mg "len"=none)(qL:mg "max"=none):ba P w K mg base cU 1 f fd ["diary"] (df FY):=by
 exact_mod_cast F.nT ko (by nofun);refine⟨_,(ae (aA 1 ko.nd af)
  (ae (gn (dQ (ah 0)) (aO 2 ko.nd) (ae (aA 3 ko.nd (bD bq bu aa3 (aa (fb (N':=["one", "event"]) (ix:=[none,some 2]) ⟨rfl,rfl,rfl,rfl,rfl,rfl⟩ (dQ (ah 0)) (fun _ _ _ _=>(aO 0 (show List.Nodup (["one", "event"]:wv) by decide +kernel))) (fun _ _ _ _=>(eZ (rH (w_and (aG (aI hu) (ao (ah 0) af) aJ) (w_and (aG (aI hu) (ao (ah 1) af) aJ) (dR (aG (aI hu) (ao (ah 0) af) (ao (ah 1) af)))))))) (fun _ _ _ _=>af)) ag)))
   (ai (aA 1 ko.nd (bD (AV rfl) qL PyProof.Rows.boot_max (aa (ah 1) (aa (ah 3) ag)))))))
  (ai (ay (ah 1))))),?_⟩
 push_cast;rintro ds R ⟨es,rfl,hl,q⟩;refine cR [_,none,none,none] rfl ?_
 sizeOf_list_dec
 refine ax ?_
 sizeOf_list_dec
 refine jT (fun i ρ W=>∃(m:Int) (u1 u2:Option DV),ρ=[some (.im (.list (es.map bI))),some (.im (.int m)),u1,u2]/\1<=m/\∀ e∈es.take i,∀ b,iB b e=true->(cnt b es:Int)<=m) ⟨_,_,_,rfl,by omega,fun e he=>by simp at he⟩ ?_ ?_
 ·rintro i d ρ W hd ⟨m,u1,u2,rfl,hm,hc⟩;rw[aap]at hd;obtain⟨e,he,rfl⟩:=aaH.mp hd;have et:es.take (i+1)=es.take i++[e]:=by rw[aaT,he];rfl
  rw[et];clear et hd
  sizeOf_list_dec
  refine jU (fun j ys W=>∃ k:Nat,ys=(List.replicate k (PyData.int 1)).map .im/\k<=j/\∀ b,iB b e=true->k=cnt b (es.take j)) (by rw[aal];exact aaJ (bb (by omega))) ⟨0,rfl,aar _,fun _ _=>rfl⟩ ?_ ?_
  ·rintro j d2 ys W2 hd2 _ ⟨k,rfl,Y7,hk⟩;rw[aap]at hd2;obtain⟨e2,Y8,rfl⟩:=aaH.mp hd2;have Y9:es.take (j+1)=es.take j++[e2]:=by rw[aaT,Y8];rfl
   rw[Y9];clear Y9 hd2 Y8 he;have fn:(∀ b,iB b e=true->iB b e2=false)->∃ k':Nat,(List.replicate k (PyData.int 1)).map DV.im=(List.replicate k' (PyData.int 1)).map DV.im/\k'<=j+1/\∀ b,iB b e=true->k'=cnt b (es.take j++[e2]):=fun z=>⟨k,rfl,by omega,fun b hb=>by rw[i4,z b hb];exact hk b hb⟩;have fy:(∀ b,iB b e=true->iB b e2=true)->∃ k':Nat,(List.replicate k (PyData.int 1)).map DV.im++[.im (.int 1)]=(List.replicate k' (PyData.int 1)).map DV.im/\k'<=j+1/\∀ b,iB b e=true->k'=cnt b (es.take j++[e2]):=fun z=>⟨k+1,by simp[List.replicate_succ'],by omega,fun b hb=>by rw[i4,z b hb,hk b hb];rfl⟩;cases e2 with
   | az b n v=>dsimp only[bI];sizeOf_list_dec;exact fn fun _ _=>rfl
   | down b m c v=>dsimp only[bI];sizeOf_list_dec;exact fn fun _ _=>rfl
   | gO b k=>dsimp only[bI];sizeOf_list_dec;exact fn fun _ _=>rfl
   | fin b2 pl2 t2 =>
    cases e with
    | az b n v=>dsimp only[bI];sizeOf_list_dec;exact fn fun _ h=>by cases h
    | down b m c v=>dsimp only[bI];sizeOf_list_dec;exact fn fun _ h=>by cases h
    | gO b k=>dsimp only[bI];sizeOf_list_dec;exact fn fun _ h=>by cases h
    | fin b pl t =>
     dsimp only[bI]
     sizeOf_list_dec
     refine gj (fun z=>?_) (fun z=>?_)
     ·sizeOf_list_dec
      exact fy fun b3 h=>by subst z;exact h
     ·exact fn fun b3 h=>by
       have h:b=b3:=aa2 h;exact aaF fun c=>z (c.trans h.symm)
  ·rintro ys W2 ⟨k,rfl,Y7,hk⟩;rw[aal]at hk Y7;rw[abe]at hk;refine cZ ?_
   sizeOf_list_dec
   refine⟨_,_,_,rfl,by rw[ac1];split<;>omega,fun e1 he1 b hb=>?_⟩;rw[ac1];rcases aav.mp he1 with c | c
   ·have:=hc e1 c b hb;split<;>omega
   ·rw[aaq.mp c]at hb;have:=hk b hb;split<;>omega
 ·rintro ρ W ⟨m,u1,u2,rfl,hm,hc⟩
  sizeOf_list_dec
  refine q m hm fun b=>?_;rw[aal,abe]at hc
  by_cases e0:cnt b es=0
  ·omega
  ·obtain⟨e,he,hf⟩:=List.countP_pos_iff.mp (Nat.pos_of_ne_zero e0);exact hc e he b hf
end
abbrev tH:Stmt:=top 44
abbrev yr:Stmt:=top 45
theorem i5:av ["keys", "rows", "worths", "diary", "beat", "tie", "k"] ["keys", "rows", "worths"] (defScope tH):=by ac_rfl
theorem jg:av ["diary", "found", "owed", "event"] ["diary"] (defScope yr):=by ac_rfl
noncomputable def Ou(D Wf:Nat->Int)(x:K3):Ev:=if x.2.1=1 then .fin x.1 x.2.2 (some ("spot",D x.2.2.toNat,none))else .az x.1 x.2.2 (Wf x.2.2.toNat)
noncomputable def Ac:jj:=fun ds R _=>∃(ks:List K3) (rs:List Rw) (ws:wn) (D Wf:Nat->Int),ds=[.list (ks.map hU),.list (rs.map bX),.list (ws.map .int)]/\ks.length<=100/\ws.length=rs.length/\(∀ x∈ks,0<=x.2.2/\x.2.2 < (rs.length:Int))/\(∀ k,k < rs.length->∃(x:Str) (r:wE),bX (rowOf rs (k:Int))=.tuple (.str x::.int (D k)::r)/\gI ws (k:Int)=Wf k)/\R (.nw ((ks.map (Ou D Wf)).map bI))
noncomputable def Ga:jj:=fun ds R _=>∃ es:List Ev,ds=[.list (es.map bI)]/\es.length<=100/\R (.nw (((List.range es.length).map fun i=>je (es.take i)).map .int))
section
variable {K:zn}
theorem BS(F:cL K "_law_events" "_law_events" tH f fd):ba P w K mg base cU 1 f fd ["keys", "rows", "worths"] (df Ac):=by
 exact_mod_cast F.nT i5 (by rintro ds R X ⟨a,b,c,d,g,e,_⟩;rw[e];rfl);refine⟨_,(ae (aA 3 i5.nd (cm ag))
  (ae (gn (dQ (ah 0)) (fY (n:=3) (bo (aO 4 i5.nd) (bo (aO 5 i5.nd) (bo (aO 6 i5.nd) fN)))) (ai (bj (aG (aI hu) (ah 5) af) (ai (cM (gS aaG aaQ aaR bQ (ah 3) (aa (bg (aa aJ (aa (ah 4) (aa (ah 6) (aa (bg (aa aJ (aa (ao (ao (ah 1) (ah 6)) af) (aa fh ag)))) ag))))) ag)))) (ai (cM (gS aaG aaQ aaR bQ (ah 3) (aa (bg (aa aJ (aa (ah 4) (aa (ah 6) (aa (ao (ah 2) (ah 6)) ag))))) ag)))))))
  (ai (ay (ah 3))))),?_⟩
 push_cast;rintro ds R ⟨ks,rs,ws,D,Wf,rfl,hl,JE,hk,hr,q⟩;refine cR [_,_,_,none,none,none,none] rfl ?_
 sizeOf_list_dec
 refine fX (aaW _) fun p W1 gp wp fp=>?_
 sizeOf_list_dec
 refine ax ?_
 sizeOf_list_dec
 refine jT (fun i ρ W=>∃ u1 u2 u3,ρ=[some (.im (.list (ks.map hU))),some (.im (.list (rs.map bX))),some (.im (.list (ws.map .int))),some (.pt p),u1,u2,u3]/\W p=some (.lst ((((ks.take i).map (Ou D Wf)).map bI).map .im))) ⟨_,_,_,rfl,wp⟩ ?_ ?_
 ·rintro i d ρ W hd ⟨u1,u2,u3,rfl,wp⟩;rw[aap]at hd;obtain⟨x,hx,rfl⟩:=aaH.mp hd;have et:ks.take (i+1)=ks.take i++[x]:=by rw[aaT,hx];rfl
  obtain⟨x0,x1⟩:=hk x (aa0 hx);rw[et,aaU,aaU,aaU];have Bq:(((ks.take i).map (Ou D Wf)).map bI).length < 100+1:=by simp;omega
  generalize ((ks.take i).map (Ou D Wf)).map bI=ys at *;clear et hx hd;obtain⟨b,ti,k⟩:=x;dsimp only at x0 x1;obtain⟨k,rfl⟩:=abb x0;obtain⟨sx,r,e1,e2⟩:=hr k (by omega);dsimp only[hU]
  sizeOf_list_dec
  refine gj (fun z=>?_) (fun z=>?_)
  ·sizeOf_list_dec
   refine bE (D:=bX (rowOf rs (k:Int))) (aX (by rw[aap];unfold rowOf;rw[aau,aaB,aas (show k < rs.length by omega)];rfl)) ?_;rw[e1]
   sizeOf_list_dec
   refine cn (show gF (PyData.str sx::PyData.int (D k)::r) ((1:Nat):Int)=some (.int (D k)) from aX rfl) ?_
   sizeOf_list_dec
   refine aB (ds:=[.str "spot",.int (D k),.none]) (by show 3<=sizeLine;decide) ?_
   sizeOf_list_dec
   refine aB (ds:=[.str "end",.int b,.int k,.tuple [.str "spot",.int (D k),.none]]) (by show 4<=sizeLine;decide) ?_
   sizeOf_list_dec
   refine bU wp (by rw[aal];exact cG (by omega)) fun W2 w2 f2=>?_;exact⟨_,_,_,rfl,by rw[w2];subst z;rfl⟩
  ·sizeOf_list_dec
   refine bE (dA (xs:=ws) (by omega) (by omega)) ?_;rw[e2]
   sizeOf_list_dec
   refine aB (ds:=[.str "late",.int b,.int k,.int (Wf k)]) (by show 4<=sizeLine;decide) ?_
   sizeOf_list_dec
   refine bU wp (by rw[aal];exact cG (by omega)) fun W2 w2 f2=>?_;have ee:Ou D Wf (b,ti,(k:Int))=.az b k (Wf k):=by unfold Ou;rw[aaD (by dsimp only;omega)];rfl
   exact⟨_,_,_,rfl,by rw[w2];show _=some (Cell.lst (_++[DV.im (bI (Ou D Wf (b,ti,(k:Int))))]));rw[ee];rfl⟩
 ·rintro ρ W ⟨u1,u2,u3,rfl,wp⟩
  sizeOf_list_dec
  rw[aal,abe]at wp;exact gZ wp q
theorem Gb(F:cL K "_law_owed_ahead" "_law_owed_ahead" yr f fd):ba P w K mg base cU 1 f fd ["diary"] (df Ga):=by
 exact_mod_cast F.nT jg (by rintro ds R X ⟨a,e,_⟩;rw[e];rfl);refine⟨_,(ae (aA 1 jg.nd (cm ag))
  (ae (aA 2 jg.nd af)
  (ae (gn (dQ (ah 0)) (aO 3 jg.nd) (ae (cM (gS aaG aaQ aaR bQ (ah 1) (aa (ah 2) ag)))
   (ai (bj (aG (aI hu) (ao (ah 3) af) aJ) (ai (aA 2 jg.nd (aT aV (ah 2) af))) (ai (aA 2 jg.nd (aT eU (ah 2) af)))))))
  (ai (ay (ah 1)))))),?_⟩
 push_cast;rintro ds R ⟨es,rfl,hl,q⟩;refine cR [_,none,none,none] rfl ?_
 sizeOf_list_dec
 refine fX (aaW _) fun p W1 gp wp fp=>?_
 sizeOf_list_dec
 refine ax ?_
 sizeOf_list_dec
 refine jT (fun i ρ W=>∃ u,ρ=[some (.im (.list (es.map bI))),some (.pt p),some (.im (.int (je (es.take i)))),u]/\W p=some (.lst ((((List.range i).map fun i=>je (es.take i)).map PyData.int).map .im))) ⟨_,rfl,wp⟩ ?_ ?_
 ·rintro i d ρ W hd ⟨u,rfl,wp⟩;rw[aap]at hd;obtain⟨e,he,rfl⟩:=aaH.mp hd;have Bq:i < es.length:=(aan.mp he).1;have et:es.take (i+1)=es.take i++[e]:=by rw[aaT,he];rfl
  rw[et,oX,List.range_succ,aaU,aaU,aaU];clear et he hd;generalize ho:je (es.take i)=o
  sizeOf_list_dec
  refine bU wp (by simp;exact cG (by omega)) fun W2 w2 f2=>?_;cases e with
  | fin b pl t=>dsimp only[bI];sizeOf_list_dec;exact⟨_,rfl,by rw[w2,<- ho];rfl⟩
  | az b n v=>dsimp only[bI];sizeOf_list_dec;exact⟨_,rfl,by rw[w2,<- ho];rfl⟩
  | down b m c v=>dsimp only[bI];sizeOf_list_dec;exact⟨_,rfl,by rw[w2,<- ho];rfl⟩
  | gO b k=>dsimp only[bI];sizeOf_list_dec;exact⟨_,rfl,by rw[w2,<- ho];rfl⟩
 ·rintro ρ W ⟨u,rfl,wp⟩
  sizeOf_list_dec
  rw[aal]at wp;exact gZ wp q
end
abbrev Gd:Stmt:=top 46
abbrev ly:Stmt:=top 47
abbrev tI:Stmt:=top 51
theorem o7:av ["bag", "diary", "spoil", "owed", "ends", "most", "room"] ["bag", "diary", "spoil"] (defScope Gd):=by ac_rfl
theorem bW:av ["bag", "diary", "many", "worths", "kind", "k", "first", "landed", "number", "at", "beat"] ["bag", "diary", "many", "worths"] (defScope ly):=by ac_rfl
theorem dM:av ["bag", "spoil", "diary", "worths", "more", "many", "at", "event", "places", "wrong", "told"] ["bag", "spoil", "diary", "worths", "more"] (defScope tI):=by ac_rfl
structure iF(c:Ev->Bool)(es:List Ev)(i:Nat)(ls:wn):Prop where
 a:∀ z∈ls,∃(j:Nat) (e:Ev),z=(j:Int)/\j < i/\es[j]?=some e/\c e=true
 b:∀(j:Nat) (e:Ev),j < i->es[j]?=some e->c e=true->(j:Int)∈ls
 c:ls.Pairwise (· < ·)
section
variable {c:Ev->Bool}{i:Nat}{ls:wn}{e:Ev}
theorem iF.nil:iF c es 0 []:=⟨fun _ h=>(by cases h),fun j e hj=>(by omega),.nil⟩
theorem iF.no(h:iF c es i ls)(he:es[i]?=some e)(z:c e=false):iF c es (i+1) ls :=
 ⟨fun x hx=>by obtain⟨j,e',h1,h2,h3⟩:=h.a x hx;exact⟨j,e',h1,by omega,h3⟩,fun j e' hj h1 h2=>by
  by_cases ej:j=i
  ·subst ej;rw[he]at h1;cases h1;rw[z]at h2;cases h2
  ·exact h.b j e' (by omega) h1 h2,h.c⟩
theorem iF.yes(h:iF c es i ls)(he:es[i]?=some e)(z:c e=true):iF c es (i+1) (ls++[(i:Int)]) :=
 ⟨fun x hx=>by
  rcases aav.mp hx with c | c
  ·obtain⟨j,e',h1,h2,h3⟩:=h.a x c;exact⟨j,e',h1,by omega,h3⟩
  ·exact⟨i,e,aaq.mp c,by omega,he,z⟩,fun j e' hj h1 h2=>by
  by_cases ej:j=i
  ·exact aav.mpr (.inr (by rw[ej];exact aaq.mpr rfl))
  ·exact aav.mpr (.inl (h.b j e' (by omega) h1 h2)),acE.mpr ⟨h.c,acp ..,fun x hx y hy=>by
   obtain⟨j,_,h1,h2,_⟩:=h.a x hx;rw[aaq.mp hy];omega⟩⟩
theorem iF.ne(h:iF c es es.length ls)(he:∃ e∈es,c e=true):ls≠[]:=fun z=>by
 obtain⟨e,he,hc⟩:=he;obtain⟨j,hj⟩:=abT he;have:=h.b j e (aan.mp hj).1 hj hc;rw[z]at this;cases this
theorem iF.hd(h:iF c es es.length ls)(he:∃ e∈es,c e=true):∃(j:Nat) (e:Ev),gF (ls.map PyData.int) 0=some (.int (j:Nat))/\es[j]?=some e/\c e=true/\∀(j':Nat) (e':Ev),j' < j->es[j']?=some e'->c e'=false:=by
 cases ls with
 | nil=>exact absurd rfl (h.ne he)
 | cons z r =>
  obtain⟨j,e,rfl,hj,h1,h2⟩:=h.a z aax;refine⟨j,e,(show gF _ ((0:Nat):Int)=_ from aX rfl),h1,h2,fun j' e' YY h3=>Bool.eq_false_iff.mpr fun q=>?_⟩;have:=h.b j' e' (aan.mp h3).1 h3 q;rcases aat.mp this with c | c
  ·omega
  ·have:=(abG.mp h.c).1 _ c;omega
end
def Ov:Ev->Bool
 | .az _ _ _=>true
 | _=>false
def Ge(k:Int):Ev->Bool
 | .fin _ pl _=>decide (pl=k)
 | _=>false
def qM(k:Int):Ev->Bool
 | .az _ n _=>decide (n=k)
 | _=>false
theorem o8(xs:List α){k:Nat}(h:k<=xs.length):cutD xs none (some (k:Int))=xs.take k:=by
 unfold cutD HT.dN;have:¬ ((k:Int) < 0):=by omega
 simp[this]
theorem o9(xs:List α){k:Nat}(h:k<=xs.length):cutD xs (some (k:Int)) none=xs.drop k:=by
 unfold cutD HT.dN;have:¬ ((k:Int) < 0):=by omega
 simp[this];rw[acS h,abp (by simp)]
theorem Ow:∀ es:List Ev,je es<=es.length:=by
 intro es;have:∀(es:List Ev) (x:Int),es.foldl (fun x e=>if fw e=true then x+1 else x - 1) x<=x+es.length:=by
  intro es;induction es with
  | nil=>intro x;simp
  | cons e r ih=>intro x;rw[List.foldl_cons,aaV];have:=ih (if fw e=true then x+1 else x - 1);have:(if fw e=true then x+1 else x - 1)<=x+1:=(by split<;>omega);omega
 have:=this es 0;unfold je;omega
noncomputable def KU:uH:=fun n ds R=>∃(es:List Ev) (aU:Str),ds=[.list (es.map bI),.str aU]/\es.length<=100/\(∃ e∈es,fw e=true)/\(∀ i:Nat,0<=je (es.take i))/\n<=990000000/\∀(room:Int) (ix:Nat) (n':Nat),(aU ≠ "room"->cA es room/\ix=0)->(aU = "room"->∃ e,es[ix]?=some e/\fw e=true/\room<=je (es.take ix)/\cA (es.take ix) room)->n'<=n+20->R (.im (.tuple [.int room,.int ix])) n'
theorem vK(h:∀(j:Nat) (e:Ev),es[j]?=some e->fw e=true->je (es.take j) < rm):cA es rm:=fun p e r e1 hf=>by
 have h1:es[p.length]?=some e:=by rw[e1,abt (aar _),ac4];rfl
 have h2:es.take p.length=p:=by rw[e1];simp
 have:=h _ _ h1 hf
 rwa [h2]at this
section
variable {K:zn}
theorem Jq(F:cL K "_law_room" "_law_room" Gd f fd)(aj:Dn P w K mg base 1 "_law_draw" f1 d1 ["bag", "many"] (spT (cV Bg) iy))(dm:Dn P w K mg base 2 "_law_far" f2 d2 ["bag"] (spT (cV Bg) Eu))(lz:Dn P w K mg base 1 "_law_owed_ahead" f3 d3 ["diary"] (df Ga))(bc:mg "range"=none)(bu:mg "len"=none)(qL:mg "max"=none):ba P w K mg base cU 3 f fd ["bag", "diary", "spoil"] (spT (cV Bg) KU):=by
 exact_mod_cast F.Km o7 dY rfl (by rintro n ds R ⟨a,b,e,_⟩;rw[e];rfl);refine⟨_,(ae (aA 3 o7.nd (ar lz hr (aa (ah 1) ag)))
  (ae (nM 4 (N':=["i", "diary"]) (ix:=[none,some 1]) ⟨rfl,rfl,rfl,rfl,rfl,rfl⟩ o7.nd (cC bc (aa (bD bq bu aa3 (aa (ah 1) ag)) ag)) (fun _ _ _ _=>(aO 0 (show List.Nodup (["i", "diary"]:wv) by decide +kernel))) (fun _ _ _ _=>(eZ (aG (aI hu) (ao (ao (ah 1) (ah 0)) af) aJ))) (fun _ _ _ _=>(ah 0)))
  (ae (aA 5 o7.nd (bD (Bn rfl) qL PyProof.Rows.boot_max (aa (fb (N':=["i", "owed"]) (ix:=[none,some 3]) ⟨rfl,rfl,rfl,rfl,rfl,rfl⟩ (dQ (ah 4)) (fun _ _ _ _=>(aO 0 (show List.Nodup (["i", "owed"]:wv) by decide +kernel))) (fun _ _ _ _=>nL) (fun _ _ _ _=>(ao (ah 1) (ah 0)))) ag)))
  (ae (bj (aG (fc hu) (ah 2) aJ) (ai (ay (bg (aa (aT aV (aT aV (ah 5) af) (ao (cm (aa af (aa (ar aj hr (aa (ah 0) (aa af ag))) (aa (ar dm hr (aa (ah 0) ag)) ag)))) (ar aj hr (aa (ah 0) (aa af ag))))) (aa af ag))))) aC)
  (ae (aA 6 o7.nd (ar aj hr (aa (ah 0) (aa (aT aV (ah 5) af) ag))))
  (ai (ay (bg (aa (ah 6) (aa (ao (fb (N':=["i", "room", "owed"]) (ix:=[none,some 6,some 3]) ⟨rfl,rfl,rfl,rfl,rfl,rfl⟩ (dQ (ah 4)) (fun _ _ _ _=>(aO 0 (show List.Nodup (["i", "room", "owed"]:wv) by decide +kernel))) (fun _ _ _ _=>(eZ (aG pS (ao (ah 2) (ah 0)) (ah 1)))) (fun _ _ _ _=>(ah 0))) af) ag)))))))))),?_⟩
 clear hu;symm;refine fun t g O=>⟨_,inferInstance,?_⟩;rintro n ds R ⟨es,aU,rfl,hl,hf,ho,hn,q⟩;refine cR [_,_,_,none,none,none,none] rfl ?_;have wt:WT t g n t=some (.aE g n):=aq;generalize WT t g n=W at wt
 sizeOf_list_dec
 refine aY (ds:=[.list (es.map bI)]) ⟨es,rfl,hl,jX ?_⟩
 sizeOf_list_dec
 rw[aal]
 sizeOf_list_dec
 refine gx (fun i ys W'=>∃ ls:List Int,ys=(ls.map PyData.int).map .im/\ls.length<=i/\iF fw es i ls/\W=W') (aaJ (bb (by omega))) ⟨[],rfl,aar _,.nil,rfl⟩ ?_ ?_
 ·rintro i ys _ hi _ ⟨ls,rfl,yo,dB,rfl⟩;have hj:es[i]?=some es[i]:=aas (by omega);generalize es[i]=e at hj;rw[ab5]
  sizeOf_list_dec
  refine bE (D:=bI e) (aX (by rw[aap,hj];rfl)) ?_;cases e with
  | fin b pl t=>dsimp only[bI];sizeOf_list_dec;exact⟨ls++[((i:Nat):Int)],by simp,by simp;omega,dB.yes hj rfl,rfl⟩
  | az b n v=>dsimp only[bI];sizeOf_list_dec;exact⟨ls,rfl,by omega,dB.no hj rfl,rfl⟩
  | down b m c v=>dsimp only[bI];sizeOf_list_dec;exact⟨ls,rfl,by omega,dB.no hj rfl,rfl⟩
  | gO b k=>dsimp only[bI];sizeOf_list_dec;exact⟨ls,rfl,by omega,dB.no hj rfl,rfl⟩
 rintro ys _ ⟨ls,rfl,kq,dB,rfl⟩;rw[aaB]at dB kq;refine cZ ?_;have mB:=dB.ne hf;have zO:∀(z:Int),z∈ls->∃ j:Nat,z=(j:Int)/\j < es.length/\gF (((List.range es.length).map fun i=>je (es.take i)).map PyData.int) z=some (.int (je (es.take z.toNat))):=fun z hz=>by
  obtain⟨j,e,rfl,hj,he,hl⟩:=dB.a z hz;exact⟨j,rfl,hj,aX (by rw[aap,aap,List.getElem?_range hj];simp)⟩
 sizeOf_list_dec
 refine jU (fun i ys W'=>ys=(((ls.take i).map fun z=>je (es.take z.toNat)).map PyData.int).map .im/\W=W') (by rw[aal];exact aaJ (bb (by omega))) ⟨rfl,rfl⟩ ?_ ?_
 ·rintro i d ys _ hd _ ⟨rfl,rfl⟩;rw[aap]at hd;obtain⟨z,hz,rfl⟩:=aaH.mp hd;obtain⟨j,_,_,ha⟩:=zO z (aa0 hz);have et:ls.take (i+1)=ls.take i++[z]:=by rw[aaT,hz];rfl
  sizeOf_list_dec
  refine bE ha ?_;exact⟨by rw[et];simp,rfl⟩
 rintro ys _ ⟨rfl,rfl⟩;rw[aal,abe];refine cZ ?_
 sizeOf_list_dec
 refine⟨_,ls.map fun z=>je (es.take z.toNat),rfl,by show some (((ls.map fun z=>je (es.take z.toNat)).map PyData.int).map DV.im)=_;rw[ach];rfl,by rw[aal];exact List.length_pos_iff.mpr mB,fun mx Za Ox=>?_⟩;have mx0:0<=mx/\mx<=100:=by
  obtain⟨z,_,rfl⟩:=abc.mp Za;have g1:=Ow (es.take z.toNat);have g2:=List.length_take_le' z.toNat es;have g3:=ho z.toNat;omega
 have Ox:∀(j:Nat) (e:Ev),es[j]?=some e->fw e=true->je (es.take j)<=mx:=fun j e h1 h2=>Ox _ (abc.mpr ⟨(j:Int),dB.b j e (aan.mp h1).1 h1 h2,by rw[aaB]⟩)
 sizeOf_list_dec
 refine ax ?_
 sizeOf_list_dec
 refine HA (fun z=>?_) (fun z=>?_)
 ·sizeOf_list_dec
  refine aZ wt (by omega) (by omega) (by omega) fun a0 W2 a1 a2 wt f2=>?_
  sizeOf_list_dec
  refine dP (ds:=[]) wt ⟨rfl,by omega,fun fr n3 WE Y0=>cQ ?_⟩;replace wt:aH W2 t (.aE g n3) t=some (.aE g n3):=aq;generalize aH W2 t (.aE g n3)=W3 at wt
  sizeOf_list_dec
  refine cX (ds:=[0,a0,fr].map PyData.int) (by show 3<=sizeLine;decide) ?_
  sizeOf_list_dec
  refine aZ wt (by omega) (by omega) (by omega) fun c0 W4 c1 c2 wt f4=>?_;refine el c1 (by simpa using c2) fun y hy=>?_;have y0:0<=y:=by simp at hy;omega
  sizeOf_list_dec
  refine aB (ds:=[.int (mx+1+y),.int ((0:Nat):Int)]) (by show 2<=sizeLine;decide) ?_;exact⟨_,wt,q (mx+1+y) 0 _ (fun _=>⟨vK fun j e h1 h2=>by have:=Ox j e h1 h2;omega,rfl⟩) (fun c=>absurd c z) (by omega)⟩
 sizeOf_list_dec
 refine aZ wt (by omega) (by omega) (by omega) fun rm W2 r1 r2 wt f2=>?_
 sizeOf_list_dec
 refine jU (fun i ys W'=>ys=(((ls.take i).filter fun z=>decide (rm<=je (es.take z.toNat))).map PyData.int).map .im/\W2=W') (by rw[aal];exact aaJ (bb (by omega))) ⟨rfl,rfl⟩ ?_ ?_
 ·rintro i d ys _ hd _ ⟨rfl,rfl⟩;rw[aap]at hd;obtain⟨z,hz,rfl⟩:=aaH.mp hd;obtain⟨j,_,_,ha⟩:=zO z (aa0 hz);have et:ls.take (i+1)=ls.take i++[z]:=by rw[aaT,hz];rfl
  rw[et,acr]
  sizeOf_list_dec
  refine bE ha ?_
  sizeOf_list_dec
  refine gj (fun z2=>?_) (fun z2=>?_)
  ·sizeOf_list_dec
   exact⟨by rw[acU (by exact aaM z2)];simp,rfl⟩
  ·exact⟨by rw[acT (by simpa using z2)];simp,rfl⟩
 rintro ys _ ⟨rfl,rfl⟩;rw[aal,abe];refine cZ ?_;obtain⟨ix,Zb⟩:∃ ix:Nat,gF ((ls.filter fun z=>decide (rm<=je (es.take z.toNat))).map PyData.int) 0=some (.int (ix:Nat))/\∃ e,es[ix]?=some e/\fw e=true/\rm<=je (es.take ix)/\cA (es.take ix) rm:=by
  obtain⟨z1,TL,e1⟩:=abc.mp Za;have B6:z1∈ls.filter fun z=>decide (rm<=je (es.take z.toNat)):=aa4.mpr ⟨TL,aaM (by omega)⟩;have O5:(ls.filter fun z=>decide (rm<=je (es.take z.toNat))).Pairwise (· < ·):=dB.c.sublist acJ;cases WG:ls.filter fun z=>decide (rm<=je (es.take z.toNat)) with
  | nil=>rw[WG]at B6;cases B6
  | cons z r =>
   have hz:z∈ls.filter fun z=>decide (rm<=je (es.take z.toNat)):=by rw[WG];exact aax
   obtain⟨Qg,TZ⟩:=aa4.mp hz;obtain⟨j,e,rfl,hj,he,hf⟩:=dB.a z Qg;have TZ:=aa2 TZ;rw[aaB]at TZ;refine⟨j,(show gF _ ((0:Nat):Int)=_ from aX rfl),e,he,hf,TZ,vK fun j' e' h1 h2=>?_⟩;have Sg:j' < j:=by have:=(aan.mp h1).1;rw[aa8]at this;omega
   have AZ:es[j']?=some e':=by rw[abR Sg]at h1;exact h1
   rw[List.take_take,acS (by omega)];rcases Int.lt_or_le (je (es.take j')) rm with c | c
   ·exact c
   ·have Iu:(j':Int)∈ls.filter fun z=>decide (rm<=je (es.take z.toNat)):=aa4.mpr ⟨dB.b j' e' (aan.mp AZ).1 AZ h2,aaM (by rw[aaB];exact c)⟩;rw[WG]at Iu O5;rcases aat.mp Iu with d | d
    ·omega
    ·have:=(abG.mp O5).1 _ d;omega
 sizeOf_list_dec
 refine bE Zb.1 ?_
 sizeOf_list_dec
 refine aB (ds:=[.int rm,.int (ix:Nat)]) (by show 2<=sizeLine;decide) ?_;exact⟨_,wt,q rm ix _ (fun c=>absurd z c) (fun _=>Zb.2) (by omega)⟩
end
noncomputable def qO:uH:=fun n ds R=>∃(es:List Ev) (m:Nat) (ws:wn),ds=[.list (es.map bI),.int m,.list (ws.map .int)]/\es.length<=100/\1<=m/\m<=8/\ws.length=m/\(∀ k:Nat,k < m->(∃ e∈es,Ge k e=true)/\∃ e∈es,qM k e=true)/\(∀ b k t,Ev.fin b k t∈es->0<=k/\k < (m:Int))/\n<=990000000/\∀(gd:Nat) (b num v:Int) (n':Nat),gd<=es.length->b=((es.take gd).getLast?.map Ev.aF).getD 0->vH (es.take gd) num->n'<=n+40->R (.im (.tuple [.int gd,bI (.az b num v)])) n'
theorem Gf(e:Ev):∃(x:Str) (r:wE),bI e=.tuple (.str x::.int e.aF::r):=by
 cases e<;>exact⟨_,_,rfl⟩
theorem BU{k:Nat}{e:Ev}(h:es[k]?=some e):((es.take (k+1)).getLast?.map Ev.aF).getD 0=e.aF:=by
 rw[aaT,h];show((es.take k++[e]).getLast?.map Ev.aF).getD 0=_;rw[aca];rfl
section
variable {K:zn}
theorem vL(F:cL K "_law_late_more" "_law_late_more" ly f fd)(aj:Dn P w K mg base 1 "_law_draw" f1 d1 ["bag", "many"] (spT (cV Bg) iy))(dm:Dn P w K mg base 2 "_law_far" f2 d2 ["bag"] (spT (cV Bg) Eu))(bc:mg "range"=none)(bu:mg "len"=none):ba P w K mg base cU 3 f fd ["bag", "diary", "many", "worths"] (spT (cV Bg) qO):=by
 exact_mod_cast F.Km bW dY rfl (by rintro n ds R ⟨a,b,c,e,_⟩;rw[e];rfl);refine⟨_,(ae (aA 4 bW.nd (ar aj hr (aa (ah 0) (aa af ag))))
  (ae (aA 5 bW.nd (ar aj hr (aa (ah 0) (aa (ah 2) ag))))
  (ae (aA 6 bW.nd (ao (fb (N':=["i", "k", "diary"]) (ix:=[none,some 5,some 1]) ⟨rfl,rfl,rfl,rfl,rfl,rfl⟩ (cC bc (aa (bD bq bu aa3 (aa (ah 1) ag)) ag)) (fun _ _ _ _=>(aO 0 (show List.Nodup (["i", "k", "diary"]:wv) by decide +kernel))) (fun _ _ _ _=>(eZ (rH (w_and (aG (aI hu) (ao (ao (ah 2) (ah 0)) af) aJ) (dR (aG (aI hu) (ao (ao (ah 2) (ah 0)) af) (ah 1))))))) (fun _ _ _ _=>(ah 0))) af))
  (ae (aA 7 bW.nd (ao (fb (N':=["i", "k", "diary"]) (ix:=[none,some 5,some 1]) ⟨rfl,rfl,rfl,rfl,rfl,rfl⟩ (cC bc (aa (bD bq bu aa3 (aa (ah 1) ag)) ag)) (fun _ _ _ _=>(aO 0 (show List.Nodup (["i", "k", "diary"]:wv) by decide +kernel))) (fun _ _ _ _=>(eZ (rH (w_and (aG (aI hu) (ao (ao (ah 2) (ah 0)) af) aJ) (dR (aG (aI hu) (ao (ao (ah 2) (ah 0)) af) (ah 1))))))) (fun _ _ _ _=>(ah 0))) af))
  (ae (aA 8 bW.nd (ah 5))
  (ae (aA 9 bW.nd (ar aj hr (aa (ah 0) (aa (aT aV (ah 6) af) ag))))
  (ae (bj (aG lE (ah 4) af) (ai (aA 9 bW.nd (aT aV (aT aV (ah 7) af) (ao (cm (aa af (aa (ar aj hr (aa (ah 0) (aa (aT eU (bD bq bu aa3 (aa (ah 1) ag)) (ah 7)) ag))) ag))) (ah 4))))) aC)
  (ae (bj (aG (aI hu) (ah 4) af) (ae (aA 8 bW.nd (ao (cm (aa (Di mU af) (aa (aT eU (Di mU af) (ar dm hr (aa (ah 0) ag))) (aa (ah 2) (aa (aT aV (aT aV (ah 2) af) (ar dm hr (aa (ah 0) ag))) ag))))) (ar aj hr (aa (ah 0) (aa af ag)))))
   (ai (aA 9 bW.nd (ar aj hr (aa (ah 0) (aa (aT aV (bD bq bu aa3 (aa (ah 1) ag)) af) ag)))))) aC)
  (ae (aA 10 bW.nd af)
  (ae (bj (aG yE (ah 9) af) (ai (aA 10 bW.nd (ao (ao (ah 1) (aT eU (ah 9) af)) af))) aC)
  (ai (ay (bg (aa (ah 9) (aa (bg (aa aJ (aa (ah 10) (aa (ah 8) (aa (ao (ah 3) (ah 5)) ag))))) ag))))))))))))))),?_⟩
 clear hu;symm;refine fun t g O=>⟨_,inferInstance,?_⟩;rintro n ds R ⟨es,m,ws,rfl,hl,m1,m8,JE,hk,hf,hn,q⟩;refine cR [_,_,_,_,none,none,none,none,none,none,none] rfl ?_;have wt:WT t g n t=some (.aE g n):=aq;generalize WT t g n=W at wt
 sizeOf_list_dec
 refine aZ wt (by omega) (by omega) (by omega) fun kd W1 kd0 kd1 wt _=>?_
 sizeOf_list_dec
 refine aZ wt (by omega) (by omega) (by omega) fun k0 W2 k1 k2 wt _=>?_;obtain⟨k,rfl⟩:=abb k1;obtain⟨Sl,Zc⟩:=hk k (by omega)
 sizeOf_list_dec
 rw[aal]
 sizeOf_list_dec
 refine gx (fun i ys W'=>∃ ls:List Int,ys=(ls.map PyData.int).map .im/\ls.length<=i/\iF (Ge k) es i ls/\W2=W') (aaJ (bb (by omega))) ⟨[],rfl,aar _,.nil,rfl⟩ ?_ ?_
 ·rintro i ys _ hi _ ⟨ls,rfl,yo,dB,rfl⟩;have hj:es[i]?=some es[i]:=aas (by omega);generalize es[i]=e at hj;rw[ab5]
  sizeOf_list_dec
  refine bE (D:=bI e) (aX (by rw[aap,hj];rfl)) ?_;cases e with
  | fin b pl t =>
   dsimp only[bI]
   sizeOf_list_dec
   refine bE (D:=bI (.fin b pl t)) (aX (by rw[aap,hj];rfl)) ?_;dsimp only[bI]
   sizeOf_list_dec
   refine gj (fun z=>?_) (fun z=>?_)
   ·sizeOf_list_dec
    exact⟨ls++[((i:Nat):Int)],by simp,by simp;omega,dB.yes hj (aaM z),rfl⟩
   ·exact⟨ls,rfl,by omega,dB.no hj (aaF z),rfl⟩
  | az b n v=>dsimp only[bI];sizeOf_list_dec;exact⟨ls,rfl,by omega,dB.no hj rfl,rfl⟩
  | down b m c v=>dsimp only[bI];sizeOf_list_dec;exact⟨ls,rfl,by omega,dB.no hj rfl,rfl⟩
  | gO b k=>dsimp only[bI];sizeOf_list_dec;exact⟨ls,rfl,by omega,dB.no hj rfl,rfl⟩
 rintro ys _ ⟨ls,rfl,kq,dB,rfl⟩;rw[aaB]at dB kq;refine cZ ?_;obtain⟨j1,e1,a1,a2,a3,a4⟩:=dB.hd Sl;have j1l:=(aan.mp a2).1
 sizeOf_list_dec
 refine bE a1 ?_;clear dB kq a1
 sizeOf_list_dec
 rw[aal]
 sizeOf_list_dec
 refine gx (fun i ys W'=>∃ ls:List Int,ys=(ls.map PyData.int).map .im/\ls.length<=i/\iF (qM k) es i ls/\W2=W') (aaJ (bb (by omega))) ⟨[],rfl,aar _,.nil,rfl⟩ ?_ ?_
 ·rintro i ys _ hi _ ⟨ls,rfl,yo,dB,rfl⟩;have hj:es[i]?=some es[i]:=aas (by omega);generalize es[i]=e at hj;rw[ab5]
  sizeOf_list_dec
  refine bE (D:=bI e) (aX (by rw[aap,hj];rfl)) ?_;cases e with
  | az b n v =>
   dsimp only[bI]
   sizeOf_list_dec
   refine bE (D:=bI (.az b n v)) (aX (by rw[aap,hj];rfl)) ?_;dsimp only[bI]
   sizeOf_list_dec
   refine gj (fun z=>?_) (fun z=>?_)
   ·sizeOf_list_dec
    exact⟨ls++[((i:Nat):Int)],by simp,by simp;omega,dB.yes hj (aaM z),rfl⟩
   ·exact⟨ls,rfl,by omega,dB.no hj (aaF z),rfl⟩
  | fin b n v=>dsimp only[bI];sizeOf_list_dec;exact⟨ls,rfl,by omega,dB.no hj rfl,rfl⟩
  | down b m c v=>dsimp only[bI];sizeOf_list_dec;exact⟨ls,rfl,by omega,dB.no hj rfl,rfl⟩
  | gO b k=>dsimp only[bI];sizeOf_list_dec;exact⟨ls,rfl,by omega,dB.no hj rfl,rfl⟩
 rintro ys _ ⟨ls,rfl,kq,dB,rfl⟩;rw[aaB]at dB kq;refine cZ ?_;obtain⟨j2,e2,b1,b2,b3,_⟩:=dB.hd Zc;have j2l:=(aan.mp b2).1
 sizeOf_list_dec
 refine bE b1 ?_;clear dB kq b1
 sizeOf_list_dec
 refine aZ wt (by omega) (by omega) (by omega) fun Zd W3 at2 at3 wt _=>?_;obtain⟨Zd,rfl⟩:=abb at2;have s1:∀ a:Nat,a<=j1->vH (es.take a) k:=fun a ha=>.inl fun b t z=>by
  obtain⟨i,hi⟩:=abT z;have Bq:=(aan.mp hi).1;rw[aa8]at Bq;rw[abR (by omega)]at hi;have:Ge k (.fin b k t)=false:=a4 i _ (by omega) hi;exact absurd ((aaM rfl).symm.trans this) (by decide)
 have s2:∀ a:Nat,j2 < a->vH (es.take a) k:=fun a ha=>by
  cases e2 with
  | az b n v =>
   have en:n=(k:Int):=aa2 b3;subst en;exact .inr ⟨b,v,aa0 (i:=j2) (by rw[abR ha];exact b2)⟩
  | _=>cases b3
 have s3:∀(a:Nat) (z:Int),(z < 0\/(m:Int)<=z)->vH (es.take a) z:=fun a z hz=>.inl fun b t y=>by
  have:=hf b z t (acb y);omega
 refine fV (fun ρ W=>∃(gd:Nat) (n':Nat),gd<=es.length/\vH (es.take gd) k/\W t=some (.aE g n')/\n'<=n+4/\ρ=[some (.pt t),some (.im (.list (es.map bI))),some (.im (.int m)),some (.im (.list (ws.map .int))),some (.im (.int kd)),some (.im (.int k)),some (.im (.int j1)),some (.im (.int j2)),some (.im (.int k)),some (.im (.int gd)),none]) (fun kk jn=>?_) ?_
 ·sizeOf_list_dec
  refine gj (fun z=>?_) (fun z=>?_)
  ·sizeOf_list_dec
   rw[aal]
   sizeOf_list_dec
   refine aZ wt (by omega) (by omega) (by omega) fun c0 W4 c1 c2 wt _=>?_
   sizeOf_list_dec
   refine cX (ds:=[0,c0].map PyData.int) (by show 2<=sizeLine;decide) ?_
   sizeOf_list_dec
   refine el kd0 (by simpa using z) fun y hy=>?_;have y0:0<=y/\y < (es.length:Int) - j2:=by simp at hy;omega
   obtain⟨y,rfl⟩:=abb y0.1
   sizeOf_list_dec
   exact jn _ _ ⟨j2+1+y,_,by omega,s2 _ (by omega),wt,by omega,rfl⟩
  ·sizeOf_list_dec
   exact jn _ _ ⟨Zd,_,by omega,s1 _ (by omega),wt,by omega,rfl⟩
 clear wt;rintro ρ W4 ⟨gd,n4,zO,hs,wt,hn4,rfl⟩;refine fV (fun ρ W=>∃(gd:Nat) (num:Int) (n':Nat),gd<=es.length/\vH (es.take gd) num/\W t=some (.aE g n')/\n'<=n+30/\ρ=[some (.pt t),some (.im (.list (es.map bI))),some (.im (.int m)),some (.im (.list (ws.map .int))),some (.im (.int kd)),some (.im (.int k)),some (.im (.int j1)),some (.im (.int j2)),some (.im (.int num)),some (.im (.int gd)),none]) (fun kk jn=>?_) ?_
 ·sizeOf_list_dec
  refine gj (fun z=>?_) (fun z=>?_)
  ·sizeOf_list_dec
   refine dP (ds:=[]) wt ⟨rfl,by omega,fun fr n5 WE hn5=>cQ ?_⟩;replace wt:aH W4 t (.aE g n5) t=some (.aE g n5):=aq;generalize aH W4 t (.aE g n5)=W5 at wt
   sizeOf_list_dec
   refine dP (ds:=[]) wt ⟨rfl,by omega,fun fs n6 fs0 hn6=>cQ ?_⟩;replace wt:aH W5 t (.aE g n6) t=some (.aE g n6):=aq;generalize aH W5 t (.aE g n6)=W6 at wt
   sizeOf_list_dec
   refine cX (ds:=[-1,-1 - fr,(m:Int),(m:Int)+1+fs].map PyData.int) (by show 4<=sizeLine;decide) ?_
   sizeOf_list_dec
   refine aZ wt (by omega) (by omega) (by omega) fun c0 W7 c1 c2 wt _=>?_;refine el c1 (by simpa using c2) fun y hy=>?_;have y0:y < 0\/(m:Int)<=y:=by simp at hy;omega
   sizeOf_list_dec
   rw[aal]
   sizeOf_list_dec
   refine aZ wt (by omega) (by omega) (by omega) fun a0 W8 a1 a2 wt _=>?_;obtain⟨a0,rfl⟩:=abb a1
   sizeOf_list_dec
   exact jn _ _ ⟨a0,y,_,by omega,s3 _ _ y0,wt,by omega,rfl⟩
  ·sizeOf_list_dec
   exact jn _ _ ⟨gd,k,_,zO,hs,wt,by omega,rfl⟩
 clear wt zO hs;rintro ρ W5 ⟨gd,num,n5,zO,hs,wt,hn5,rfl⟩
 sizeOf_list_dec
 refine fV (fun ρ W=>ρ=[some (.pt t),some (.im (.list (es.map bI))),some (.im (.int m)),some (.im (.list (ws.map .int))),some (.im (.int kd)),some (.im (.int k)),some (.im (.int j1)),some (.im (.int j2)),some (.im (.int num)),some (.im (.int gd)),some (.im (.int (((es.take gd).getLast?.map Ev.aF).getD 0)))]/\W5=W) (fun kk jn=>?_) ?_
 ·sizeOf_list_dec
  refine gj (fun z=>?_) (fun z=>?_)
  ·obtain⟨a,rfl⟩:∃ a,gd=a+1:=⟨gd - 1,by omega⟩;have hj:es[a]?=some es[a]:=aas (by omega);generalize es[a]=e at hj
   sizeOf_list_dec
   rw[show((a+1:Nat):Int) - 1=(a:Nat) by omega];refine bE (D:=bI e) (aX (by rw[aap,hj];rfl)) ?_;obtain⟨x,r,ex⟩:=Gf e;rw[ex]
   sizeOf_list_dec
   refine cn (show gF (PyData.str x::PyData.int e.aF::r) ((1:Nat):Int)=some (.int e.aF) from aX rfl) ?_
   sizeOf_list_dec
   exact jn _ _ ⟨by rw[BU hj];rfl,rfl⟩
  ·obtain rfl:gd=0:=by omega
   sizeOf_list_dec
   exact jn _ _ ⟨rfl,rfl⟩
 rintro ρ _ ⟨rfl,rfl⟩
 sizeOf_list_dec
 refine bE (dA (xs:=ws) (by omega) (by omega)) ?_
 sizeOf_list_dec
 refine aB (ds:=[.str "late",.int _,.int num,.int (gI ws k)]) (by show 4<=sizeLine;decide) ?_
 sizeOf_list_dec
 refine aB (ds:=[.int gd,bI (.az _ num (gI ws k))]) (by show 2<=sizeLine;decide) ?_;exact⟨_,wt,q gd _ num _ _ zO rfl hs (by omega)⟩
end
abbrev yt:Stmt:=top 50
theorem Ad:av ["mill", "state", "terms", "diary", "due", "handed"] ["mill", "state", "terms", "diary", "due"] (defScope yt):=by ac_rfl
def Sn(aU:Str)(m:Nat)(tm:oH)(es lD:List Ev)(gd:Nat):Prop :=
 (aU = "stray"/\∃ b num v,lD=es.take gd++.az b num v::es.drop gd/\gd<=es.length/\b=((es.take gd).getLast?.map Ev.aF).getD 0/\vH (es.take gd) num) \/
 (aU = "worth"/\∃ b j w v,es[gd]?=some (.az b j w)/\lD=es.take gd++.az b j v::es.drop (gd+1)/\v≠w) \/
 (aU = "ahead"/\∃ b v,es[gd]?=some (.az b ((m:Int) - 1) v)/\lD=es.take gd++.fin b m tm::es.drop gd)
noncomputable def Ae:NJ:=fun as W R=>∃(t g:Addr) (n:Nat) (aU:Str) (es:List Ev) (m:Nat) (ws:wn) (tm:oH),as=[.pt t,.im (.str aU),.im (.list (es.map bI)),.im (.list (ws.map .int)),.im (iW tm)]/\W t=some (.aE g n)/\(aU = "stray"\/aU = "worth"\/aU = "ahead")/\es.length<=100/\1<=m/\m<=8/\ws.length=m/\(∀ k:Nat,k < m->(∃ e∈es,Ge k e=true)/\∃ e∈es,qM k e=true)/\(∀ b k t,Ev.fin b k t∈es->0<=k/\k < (m:Int))/\n<=980000000/\∀(W':Wd) (p:Addr) (lD:List Ev) (gd:Nat) (n':Nat),W' t=some (.aE g n')->W' p=some (.lst ((lD.map bI).map .im))->Sn aU m tm es lD gd->lD.length<=es.length+1->n'<=n+50->R (.tp [.inr p,.inl (.int gd)]) W'
theorem pe{a b:wE}(hl:a.length+b.length<=sizeLine)(h:Q (.im (.list (a++b))) W):MI (.im (.list a)) (.im (.list b)) W Q:=zt (vs:=a.map .im) (us:=b.map .im) rfl rfl (by simpa using hl) (by rw[<- aaU];exact cZ h)
noncomputable def Gg:jj:=fun ds R _=>∃ rs st t es KQ,ds=[dS rs [],gb st,vC t,.list (es.map bI),pL KQ]/\eF (Fx rs [] st [] t)/\(∀ e∈es,l9 e)/\es.length<=4000/\R (.im (.bool (decide (fv (Fx rs [] st [] t) es=KQ))))
theorem Af{e:Ev}(h:qM k e=true):∃ b v,e=.az b k v:=by
 cases e with
 | az b n v=>exact⟨b,v,by rw[aa2 h]⟩
 | _=>cases h
section
variable {K:zn}
theorem BV(F:cL K "_law_spoilt" "_law_spoilt" tI f fd)(aj:Dn P w K mg base 1 "_law_draw" f1 d1 ["bag", "many"] (spT (cV Bg) iy))(ml:Dn P w K mg base 3 "_law_late_more" f2 d2 ["bag", "diary", "many", "worths"] (spT (cV Bg) qO))(bc:mg "range"=none)(bu:mg "len"=none):ba P w K mg base cU 4 f fd ["bag", "spoil", "diary", "worths", "more"] (OZ K (cV Bg) Ae):=by
 exact_mod_cast F.okV dM dY (by rintro aK W R ⟨a,b,c,d,g,h,i,j,e,_⟩;rw[e];rfl);refine⟨_,(ae (aA 5 dM.nd (bD bq bu aa3 (aa (ah 3) ag)))
  (ae (bj (aG (aI hu) (ah 1) aJ) (ae (nF (ar ml hr (aa (ah 0) (aa (ah 2) (aa (ah 5) (aa (ah 3) ag))))) (fY (n:=2) (bo (aO 6 dM.nd) (bo (aO 7 dM.nd) fN))))
   (ai (ay (bg (aa (aT jt (aT jt (nH gR (ah 2) fO (fQ (ah 6))) (cm (aa (ah 7) ag))) (nH gR (ah 2) (fQ (ah 6)) fO)) (aa (ah 6) ag)))))) aC)
  (ae (nM 8 (N':=["i", "diary"]) (ix:=[none,some 2]) ⟨rfl,rfl,rfl,rfl,rfl,rfl⟩ dM.nd (cC bc (aa (bD bq bu aa3 (aa (ah 2) ag)) ag)) (fun _ _ _ _=>(aO 0 (show List.Nodup (["i", "diary"]:wv) by decide +kernel))) (fun _ _ _ _=>(eZ (aG (aI hu) (ao (ao (ah 1) (ah 0)) af) aJ))) (fun _ _ _ _=>(ah 0)))
  (ae (aA 6 dM.nd (ao (ah 8) (ar aj hr (aa (ah 0) (aa (bD bq bu aa3 (aa (ah 8) ag)) ag)))))
  (ae (bj (aG (aI hu) (ah 1) aJ) (ae (aA 7 dM.nd (ao (ah 2) (ah 6)))
   (ae (aA 9 dM.nd (ao (cm (aa (aT aV (aT aV (ao (ah 7) af) af) (ar aj hr (aa (ah 0) (aa af ag)))) (aa (aT eU (Di mU af) (ao (ah 7) af)) (aa (aT aV (ao (ah 7) af) af) ag)))) (ar aj hr (aa (ah 0) (aa af ag)))))
   (ai (ay (bg (aa (aT jt (aT jt (nH gR (ah 2) fO (fQ (ah 6))) (cm (aa (bg (aa aJ (aa (ao (ah 7) af) (aa (ao (ah 7) af) (aa (ah 9) ag))))) ag))) (nH gR (ah 2) (fQ (aT aV (ah 6) af)) fO)) (aa (ah 6) ag))))))) aC)
  (ae (aA 6 dM.nd (ao (fb (N':=["i", "many", "diary"]) (ix:=[none,some 5,some 2]) ⟨rfl,rfl,rfl,rfl,rfl,rfl⟩ (cC bc (aa (bD bq bu aa3 (aa (ah 2) ag)) ag)) (fun _ _ _ _=>(aO 0 (show List.Nodup (["i", "many", "diary"]:wv) by decide +kernel))) (fun _ _ _ _=>(eZ (rH (w_and (aG (aI hu) (ao (ao (ah 2) (ah 0)) af) aJ) (dR (aG (aI hu) (ao (ao (ah 2) (ah 0)) af) (aT eU (ah 1) af))))))) (fun _ _ _ _=>(ah 0))) af))
  (ae (aA 10 dM.nd (bg (aa aJ (aa (ao (ao (ah 2) (ah 6)) af) (aa (ah 5) (aa (ah 4) ag))))))
  (ai (ay (bg (aa (aT jt (aT jt (nH gR (ah 2) fO (fQ (ah 6))) (cm (aa (ah 10) ag))) (nH gR (ah 2) (fQ (ah 6)) fO)) (aa (ah 6) ag)))))))))))),?_⟩
 clear hu;symm;refine fun O W=>⟨_,inferInstance,?_⟩;rintro aK R ⟨t,g,n,aU,es,m,ws,tm,rfl,wt,pB,hl,m1,m8,JE,hk,hf,hn,q⟩
 sizeOf_list_dec
 rw[aal,JE]
 sizeOf_list_dec
 refine ax ?_
 sizeOf_list_dec
 refine gj (fun z=>?_) (fun z=>?_)
 ·sizeOf_list_dec
  refine dP (ds:=[.list (es.map bI),.int m,.list (ws.map .int)]) wt ⟨es,m,ws,rfl,hl,m1,m8,JE,hk,hf,by omega,fun gd b num v n' zO hb hs Pg=>cQ ?_⟩;replace wt:aH W t (.aE g n') t=some (.aE g n'):=aq;generalize aH W t (.aE g n')=W1 at wt
  sizeOf_list_dec
  refine qm ?_;rw[o8 _ (by rw[aal];exact zO),<- ack];refine cZ ?_
  sizeOf_list_dec
  refine cX (ds:=[bI (.az b num v)]) (by show 1<=sizeLine;decide) ?_
  sizeOf_list_dec
  refine pe (aaJ (bb (by simp;omega))) ?_
  sizeOf_list_dec
  refine qm ?_;rw[o9 _ (by rw[aal];exact zO),<- acm];refine cZ ?_
  sizeOf_list_dec
  refine zt (vs:=_ ) (us:=_) rfl rfl (by simp;exact aaJ (bb (by omega))) (jm fun p W9 gp wp fp=>?_);have e1:(es.take gd).map bI++[bI (.az b num v)]++(es.drop gd).map bI=(es.take gd++.az b num v::es.drop gd).map bI:=by simp
  rw[<- aaU,e1]at wp;have e9:t≠p:=fun z=>by rw[<- z,wt]at gp;cases gp
  sizeOf_list_dec
  refine xu (ts:=[.inr p,.inl (.int (gd:Nat))]) (by show 2<=sizeLine;decide) ?_;exact q _ p _ gd _ (fp.at e9 wt) wp (.inl ⟨z,b,num,v,rfl,zO,hb,hs⟩) (by simp;omega) (by omega)
 sizeOf_list_dec
 rw[aal]
 sizeOf_list_dec
 refine gx (fun i ys W'=>∃ ls:List Int,ys=(ls.map PyData.int).map .im/\ls.length<=i/\iF Ov es i ls/\W=W') (aaJ (bb (by omega))) ⟨[],rfl,aar _,.nil,rfl⟩ ?_ ?_
 ·rintro i ys _ hi _ ⟨ls,rfl,yo,dB,rfl⟩;have hj:es[i]?=some es[i]:=aas (by omega);generalize es[i]=e at hj;rw[ab5]
  sizeOf_list_dec
  refine bE (D:=bI e) (aX (by rw[aap,hj];rfl)) ?_;cases e with
  | az b n v=>dsimp only[bI];sizeOf_list_dec;exact⟨ls++[((i:Nat):Int)],by simp,by simp;omega,dB.yes hj rfl,rfl⟩
  | fin b n v=>dsimp only[bI];sizeOf_list_dec;exact⟨ls,rfl,by omega,dB.no hj rfl,rfl⟩
  | down b m c v=>dsimp only[bI];sizeOf_list_dec;exact⟨ls,rfl,by omega,dB.no hj rfl,rfl⟩
  | gO b k=>dsimp only[bI];sizeOf_list_dec;exact⟨ls,rfl,by omega,dB.no hj rfl,rfl⟩
 rintro ys _ ⟨ls,rfl,kq,dB,rfl⟩;rw[aaB]at dB kq;refine cZ ?_;have mB:0 < ls.length:=List.length_pos_iff.mpr (dB.ne (by
  obtain⟨_,e,he,h2⟩:=hk 0 (by omega);obtain⟨b,v,rfl⟩:=Af h2;exact⟨_,he,rfl⟩))
 sizeOf_list_dec
 rw[aal]
 sizeOf_list_dec
 refine aZ wt (by omega) (by omega) (by omega) fun c0 W2 c1 c2 wt _=>?_;refine el c1 c2 fun y hy=>?_;obtain⟨j,e,rfl,hj,he,hc⟩:=dB.a y hy;clear dB kq mB
 sizeOf_list_dec
 refine ax ?_
 sizeOf_list_dec
 refine gj (fun z2=>?_) (fun z2=>?_)
 ·obtain⟨b,k,v,rfl⟩:∃ b k v,e=.az b k v:=by
   cases e with
   | az b n v=>exact⟨_,_,_,rfl⟩
   | _=>cases hc
  sizeOf_list_dec
  refine bE (D:=bI (.az b k v)) (aX (by rw[aap,he];rfl)) ?_;dsimp only[bI]
  sizeOf_list_dec
  refine aZ wt (by omega) (by omega) (by omega) fun d0 W3 d1 d2 wt _=>?_
  sizeOf_list_dec
  refine cX (ds:=[v+1+d0,-1 - v,v+4294967296].map PyData.int) (by show 3<=sizeLine;decide) ?_
  sizeOf_list_dec
  refine aZ wt (by omega) (by omega) (by omega) fun x0 W4 x1 x2 wt _=>?_;refine el x1 (by simpa using x2) fun u UP=>?_;have un:u≠v:=by simp at UP;omega
  sizeOf_list_dec
  refine qm ?_;rw[o8 _ (by rw[aal];omega),<- ack];refine cZ ?_
  sizeOf_list_dec
  refine aB (ds:=[.str "late",.int b,.int k,.int u]) (by show 4<=sizeLine;decide) ?_
  sizeOf_list_dec
  refine cX (ds:=[bI (.az b k u)]) (by show 1<=sizeLine;decide) ?_
  sizeOf_list_dec
  refine pe (aaJ (bb (by simp;omega))) ?_
  sizeOf_list_dec
  refine qm ?_;rw[show((j:Int)+1)=((j+1:Nat):Int) by omega,o9 _ (by rw[aal];omega),<- acm];refine cZ ?_
  sizeOf_list_dec
  refine zt (vs:=_ ) (us:=_) rfl rfl (by simp;exact aaJ (bb (by omega))) (jm fun p W9 gp wp fp=>?_);have e1:(es.take j).map bI++[bI (.az b k u)]++(es.drop (j+1)).map bI=(es.take j++.az b k u::es.drop (j+1)).map bI:=by simp
  rw[<- aaU,e1]at wp;have e9:t≠p:=fun z=>by rw[<- z,wt]at gp;cases gp
  sizeOf_list_dec
  refine xu (ts:=[.inr p,.inl (.int (j:Nat))]) (by show 2<=sizeLine;decide) ?_;exact q _ p _ j _ (fp.at e9 wt) wp (.inr (.inl ⟨z2,b,k,v,u,he,rfl,un⟩)) (by simp;omega) (by omega)
 clear hj he hc
 sizeOf_list_dec
 rw[aal]
 sizeOf_list_dec
 refine gx (fun i ys W'=>∃ ls:List Int,ys=(ls.map PyData.int).map .im/\ls.length<=i/\iF (qM ((m:Int) - 1)) es i ls/\W2=W') (aaJ (bb (by omega))) ⟨[],rfl,aar _,.nil,rfl⟩ ?_ ?_
 ·rintro i ys _ hi _ ⟨ls,rfl,yo,dB,rfl⟩;have hj:es[i]?=some es[i]:=aas (by omega);generalize es[i]=e at hj;rw[ab5]
  sizeOf_list_dec
  refine bE (D:=bI e) (aX (by rw[aap,hj];rfl)) ?_;cases e with
  | az b n v =>
   dsimp only[bI]
   sizeOf_list_dec
   refine bE (D:=bI (.az b n v)) (aX (by rw[aap,hj];rfl)) ?_;dsimp only[bI]
   sizeOf_list_dec
   refine gj (fun z=>?_) (fun z=>?_)
   ·sizeOf_list_dec
    exact⟨ls++[((i:Nat):Int)],by simp,by simp;omega,dB.yes hj (aaM z),rfl⟩
   ·exact⟨ls,rfl,by omega,dB.no hj (aaF z),rfl⟩
  | fin b n v=>dsimp only[bI];sizeOf_list_dec;exact⟨ls,rfl,by omega,dB.no hj rfl,rfl⟩
  | down b m c v=>dsimp only[bI];sizeOf_list_dec;exact⟨ls,rfl,by omega,dB.no hj rfl,rfl⟩
  | gO b k=>dsimp only[bI];sizeOf_list_dec;exact⟨ls,rfl,by omega,dB.no hj rfl,rfl⟩
 rintro ys _ ⟨ls,rfl,kq,dB,rfl⟩;rw[aaB]at dB kq;refine cZ ?_;obtain⟨j2,e2,b1,b2,b3,_⟩:=dB.hd (by
  have:=(hk (m - 1) (by omega)).2
  rwa [show((m - 1:Nat):Int)=(m:Int) - 1 by omega]at this)
 have j2l:=(aan.mp b2).1;obtain⟨b,v,rfl⟩:=Af b3
 sizeOf_list_dec
 refine bE b1 ?_
 sizeOf_list_dec
 refine bE (D:=bI (.az b ((m:Int) - 1) v)) (aX (by rw[aap,b2];rfl)) ?_;dsimp only[bI]
 sizeOf_list_dec
 refine aB (ds:=[.str "end",.int b,.int m,iW tm]) (by show 4<=sizeLine;decide) ?_
 sizeOf_list_dec
 refine qm ?_;rw[o8 _ (by rw[aal];omega),<- ack];refine cZ ?_
 sizeOf_list_dec
 refine cX (ds:=[bI (.fin b m tm)]) (by show 1<=sizeLine;decide) ?_
 sizeOf_list_dec
 refine pe (aaJ (bb (by simp;omega))) ?_
 sizeOf_list_dec
 refine qm ?_;rw[o9 _ (by rw[aal];omega),<- acm];refine cZ ?_
 sizeOf_list_dec
 refine zt (vs:=_ ) (us:=_) rfl rfl (by simp;exact aaJ (bb (by omega))) (jm fun p W9 gp wp fp=>?_);have e1:(es.take j2).map bI++[bI (.fin b m tm)]++(es.drop j2).map bI=(es.take j2++.fin b m tm::es.drop j2).map bI:=by simp
 rw[<- aaU,e1]at wp;have e9:t≠p:=fun z=>by rw[<- z,wt]at gp;cases gp
 sizeOf_list_dec
 refine xu (ts:=[.inr p,.inl (.int (j2:Nat))]) (by show 2<=sizeLine;decide) ?_;exact q _ p _ j2 _ (fp.at e9 wt) wp (.inr (.inr ⟨(pB.resolve_left z).resolve_left z2,b,v,b2,rfl⟩)) (by simp;omega) (by omega)
theorem Gh(F:cL K "_law_asked" "_law_asked" yt f fd)(Gi:Dn P w K mg base 9 "parting" f1 d1 ["mill", "state", "rings", "terms", "diary"] (df oV))(vM:Dn P w K mg base 1 "_law_right" f2 d2 ["found", "due"] (df Ex))(i0:mg "list"=none):ba P w K mg base cU 10 f fd ["mill", "state", "terms", "diary", "due"] (df Gg):=by
 exact_mod_cast F.nT Ad (by rintro ds R X ⟨a,b,c,d,g,e,_⟩;rw[e];rfl);refine⟨_,(ae (aA 5 Ad.nd (gJ nN i0 PyProof.Rows.boot_list (aa (ah 3) ag)))
  (ae (bj (nG (tS (ar vM hr (aa (ar Gi hr (aa (ah 0) (aa (ah 1) (aa (cm ag) (aa (ah 2) (aa (ah 5) ag)))))) (aa (ah 4) ag))))) (ai (ay AS)) aC)
  (ai (ay (jJ (aI hu) (ah 5) (ah 3)))))),?_⟩
 push_cast;rintro ds R ⟨rs,st,t,es,KQ,rfl,ok,hE,hl,q⟩;refine cR [_,_,_,_,_,none] rfl ?_
 sizeOf_list_dec
 refine zr (cZ ?_)
 sizeOf_list_dec
 refine ax ?_
 sizeOf_list_dec
 refine cX (ds:=[]) (aaW _) ?_
 sizeOf_list_dec
 refine aY (ds:=[dS rs [],gb st,.list [],vC t,.list (es.map bI)]) ⟨rs,[],st,[],t,es,rfl,ok,hE,hl,cQ ?_⟩
 sizeOf_list_dec
 refine aY (ds:=[pL (fv (Fx rs [] st [] t) es),pL KQ]) ⟨_,KQ,rfl,cQ ?_⟩;cases hd:decide (fv (Fx rs [] st [] t) es=KQ) with
 | false =>
  rw[hd]at q
  sizeOf_list_dec
  exact q
 | true =>
  rw[hd]at q
  sizeOf_list_dec
  refine Ro (d1:=.list (es.map bI)) cv cv (zW hE).1 (zW hE).2 ?_;exact q
end
def wm(K:zn)(C:Addr)(x q:Str)(st:Stmt):Prop:=∃ f fd,cL K x q st f fd/\Meth K C x f
theorem gf{K:zn}{q:Str}{st:Stmt}{oc:Value}{od an:wS}{wJ:Array wP}{kV doc pm bC ct:Value}(a:autoParam (PySem.W.findIn K (.ref C) x=some (some (.ref f))) ra6)(l:autoParam (K.lookup f=some ⟨oc,od,.func (PySem.W.fnOf x q (defArgs st) (defBody st) (defScope st) .none kV doc pm an bC ct),wJ⟩) ra6)(c:autoParam (PySem.W.codeIn K bC q=true) ra6)(k:autoParam (PySem.W.keepIn K (.ref f)=true) ra6)(n:PySem.W.isFn K (.ref f)=true:=by first | k_is | kernel_rfl):wm K C x q st:=⟨_,_,kE l c k,a,n,k⟩
def Ze(K:zn)(C:Addr)(q:Str)(st:Stmt):Prop:=∃ f fd,cL K "__init__" q st f fd/\Mk K C f
theorem Oy{K:zn}{q:Str}{st:Stmt}{oc:Value}{od an:wS}{wJ:Array wP}{kV doc pm bC ct:Value}(m:PySem.W.makesIn K C=true)(a:PySem.W.findIn K (.ref C) "__init__"=some (some (.ref f)))(l:K.lookup f=some ⟨oc,od,.func (PySem.W.fnOf "__init__" q (defArgs st) (defBody st) (defScope st) .none kV doc pm an bC ct),wJ⟩)(c:PySem.W.codeIn K bC q=true)(k:PySem.W.keepIn K (.ref f)=true)(n:PySem.W.isFn K (.ref f)=true)(kc:PySem.W.keepIn K (.ref C)=true):Ze K C q st:=⟨_,_,kE l c k,m,a,n,kc⟩
def Gj(K:zn)(C:Addr):wv->Prop
 | []=>True
 | f::r=>cu K C f/\Gj K C r
theorem Gj.mem{K:zn}{C:Addr}:∀{ns:wv},Gj K C ns->∀ f∈ns,cu K C f
 | _::_,h,f,hf=>by
  rcases aat.mp hf with z | z
  ·rw[z];exact h.1
  ·exact Gj.mem h.2 f z
theorem Jr{K:zn}{ns:wv}(pg:PySem.W.plainGet K C Str.empty=true)(hd:PySem.W.hasDictIn K C=true)(po:PySem.W.plainOver K C=true)(sa:PySem.W.findIn K (.ref C) "__setattr__"=some (some (.builtin "object.__setattr__")))(na:Gj K C ns):fe K C ns:=⟨⟨pg,hd,po,sa⟩,fun f hf=>na.mem f hf⟩
structure tJ(K:zn)(C:Addr):Prop where
 cls:fe K C bL
 TM:Ze K C "Holder.__init__" yf
 m1:wm K C "tell" "Holder.tell" Fv
 m2:wm K C "first_broken" "Holder.first_broken" sW
 m3:wm K C "broken_by_end" "Holder.broken_by_end" ya
 m4:wm K C "broken_by_wrote" "Holder.broken_by_wrote" oQ
 m5:wm K C "broken_by_late" "Holder.broken_by_late" sR
 m6:wm K C "broken_by_down" "Holder.broken_by_down" sS
 m7:wm K C "broken_by_bell" "Holder.broken_by_bell" sT
 m8:wm K C "row_now" "Holder.row_now" Fi
 m9:wm K C "waiting_by" "Holder.waiting_by" sL
 WH:wm K C "is_pressed" "Holder.is_pressed" oN
 WI:wm K C "ends_at" "Holder.ends_at" sM
 WJ:wm K C "take_up" "Holder.take_up" sZ
 WK:wm K C "take_end" "Holder.take_end" oU
 WL:wm K C "take_bell" "Holder.take_bell" lh
 WM:wm K C "parted" "Holder.parted" sN
section
variable {K:zn}
theorem MP{us:List α}(h:us.length=1):∃ a,us=[a]:=match us,h with | [a],_=>⟨a,rfl⟩
theorem wb{us:List α}(h:us.length=2):∃ a b,us=[a,b]:=match us,h with | [a,b],_=>⟨a,b,rfl⟩
theorem Zf{us:List α}(h:us.length=3):∃ a b c,us=[a,b,c]:=match us,h with | [a,b,c],_=>⟨a,b,c,rfl⟩
theorem us5{us:List α}(h:us.length=5):∃ a b c d e,us=[a,b,c,d,e]:=match us,h with | [a,b,c,d,e],_=>⟨a,b,c,d,e,rfl⟩
theorem Js{aN g1 g2 g3 g4 g5 g6 g7 g8:Addr}{e1 e2 e3 e4 e5 e6 e7 e8:wT}(F:cL K "parting" "parting" ke f fd)(h:tJ K kH)(pf:mg "Holder"=some (.ref kH))(KW:Dn P w K mg base 4 "step" g1 e1 ["mill", "state"] (jv (df (SStep aR))))(So:Dn P w K mg base 2 "bell" g2 e2 ["mill", "state", "k"] (jv (df (ET aN aS))))(Oz:Dn P w K mg base 1 "thing_of" g3 e3 ["wrote"] (df xW))(Sq:Dn P w K mg base 1 "is_slow" g4 e4 ["row"] (df E5))(Sr:Dn P w K mg base 2 "bells_waiting" g5 e5 ["rings", "taken", "beat"] (df E3))(OA:Dn P w K mg base 1 "rests" g6 e6 ["mill", "state"] (df sC))(OB:Dn P w K mg base 1 "spots_read" g7 e7 ["row"] (df xV))(Ss:Dn P w K mg base 1 "spot_written" g8 e8 ["row"] (df zL))(bu:mg "len"=none)(lQ:mg "any"=none)(i0:mg "list"=none):ba P w K mg base cU 9 f fd ["mill", "state", "rings", "terms", "diary"] (df oV):=by
 obtain⟨f1,d1,F1,M1⟩:=h.m1;obtain⟨f2,d2,F2,M2⟩:=h.m2;obtain⟨f3,d3,F3,M3⟩:=h.m3;obtain⟨f4,d4,F4,M4⟩:=h.m4;obtain⟨f5,d5,F5,M5⟩:=h.m5;obtain⟨f6,d6,F6,M6⟩:=h.m6;obtain⟨f7,d7,F7,M7⟩:=h.m7;obtain⟨f8,d8,F8,M8⟩:=h.m8;obtain⟨f9,d9,F9,M9⟩:=h.m9;obtain⟨WN,WQ,T4,M10⟩:=h.WH;obtain⟨WR,WS,T5,M11⟩:=h.WI;obtain⟨WU,WV,T6,M12⟩:=h.WJ;obtain⟨WW,WX,T7,M13⟩:=h.WK;obtain⟨WY,WZ,T8,M14⟩:=h.WL;obtain⟨Xa,Xb,T9,M15⟩:=h.WM;obtain⟨f0,d0,F0,M0⟩:=h.TM;have c:=h.cls.c;have cN:=h.cls;have N8:iR P w K mg base 1 kH "row_now" f8 d8 ["self"] (eC K (Fh kH)):=⟨c,M8,IW F8 cN,F8.binds fun _ _ _ _ _ _ us hl=>by obtain⟨_,rfl⟩:=MP hl;rfl⟩;have N9:iR P w K mg base 3 kH "waiting_by" f9 d9 ["self", "beat"] (eC K (mJ kH)):=⟨c,M9,Bz F9 cN Sr,F9.binds fun _ _ _ _ _ _ us hl=>by obtain⟨_,_,rfl⟩:=wb hl;rfl⟩;have Zg:iR P w K mg base 4 kH "is_pressed" WN WQ ["self", "beat"] (eC K (ka kH)):=⟨c,M10,x5 T4 cN N9 bu,T4.binds fun _ _ _ _ _ _ us hl=>by obtain⟨_,_,rfl⟩:=wb hl;rfl⟩;have Zh:iR P w K mg base 1 kH "ends_at" WR WS ["self", "beat"] (eC K (mK kH)):=⟨c,M11,BA T5 cN,T5.binds fun _ _ _ _ _ _ us hl=>by obtain⟨_,_,rfl⟩:=wb hl;rfl⟩;have N15:iR P w K mg base 1 kH "parted" Xa Xb ["self"] (eC K (sJ kH)):=⟨c,M15,BB T9 cN,T9.binds fun _ _ _ _ _ _ us hl=>by obtain⟨_,rfl⟩:=MP hl;rfl⟩;have N4:iR P w K mg base 5 kH "broken_by_wrote" f4 d4 ["self", "row", "wrote"] (eC K (oP kH)):=⟨c,M4,x8 F4 cN KW Oz Sq bu,F4.binds fun _ _ _ _ _ _ us hl=>by obtain⟨_,_,_,rfl⟩:=Zf hl;rfl⟩;have N5:iR P w K mg base 1 kH "broken_by_late" f5 d5 ["self", "event"] (eC K (sO kH)):=⟨c,M5,BC F5 cN bu,F5.binds fun _ _ _ _ _ _ us hl=>by obtain⟨_,_,rfl⟩:=wb hl;rfl⟩;have N6:iR P w K mg base 1 kH "broken_by_down" f6 d6 ["self", "event"] (eC K (sP kH)):=⟨c,M6,BD F6 cN bu,F6.binds fun _ _ _ _ _ _ us hl=>by obtain⟨_,_,rfl⟩:=wb hl;rfl⟩;have N7:iR P w K mg base 4 kH "broken_by_bell" f7 d7 ["self", "event"] (eC K (sQ kH)):=⟨c,M7,BE F7 cN N9,F7.binds fun _ _ _ _ _ _ us hl=>by obtain⟨_,_,rfl⟩:=wb hl;rfl⟩;have N3:iR P w K mg base 6 kH "broken_by_end" f3 d3 ["self", "event"] (eC K (x9 kH)):=⟨c,M3,Fq F3 cN OA Zh Zg N8 OB Ss N4 lQ,F3.binds fun _ _ _ _ _ _ us hl=>by obtain⟨_,_,rfl⟩:=wb hl;rfl⟩;have N2:iR P w K mg base 7 kH "first_broken" f2 d2 ["self", "event"] (eC K (sU kH)):=⟨c,M2,BF F2 cN N3 N5 N6 N7 lQ,F2.binds fun _ _ _ _ _ _ us hl=>by obtain⟨_,_,rfl⟩:=wb hl;rfl⟩;have N13:iR P w K mg base 5 kH "take_end" WW WX ["self", "beat", "wrote"] (eC K (oT kH)):=⟨c,M13,yc T7 cN Zg KW,T7.binds fun _ _ _ _ _ _ us hl=>by obtain⟨_,_,_,rfl⟩:=Zf hl;rfl⟩;have N14:iR P w K mg base 3 kH "take_bell" WY WZ ["self", "k"] (eC K (lb kH)):=⟨c,M14,vA T8 cN So,T8.binds fun _ _ _ _ _ _ us hl=>by obtain⟨_,_,rfl⟩:=wb hl;rfl⟩;have N12:iR P w K mg base 6 kH "take_up" WU WV ["self", "event"] (eC K (sY kH)):=⟨c,M12,BH T6 cN Zh N13 N14,T6.binds fun _ _ _ _ _ _ us hl=>by obtain⟨_,_,rfl⟩:=wb hl;rfl⟩;have N1:iR P w K mg base 8 kH "tell" f1 d1 ["self", "event"] (eC K (Ft kH)):=⟨c,M1,Jc F1 cN N2 N12,F1.binds fun _ _ _ _ _ _ us hl=>by obtain⟨_,_,rfl⟩:=wb hl;rfl⟩;have C0:VP P w K mg base 1 kH "Holder" f0 d0 ["self", "mill", "state", "rings", "terms"] (eC K (ye kH)):=⟨M0,Fy F0 cN i0,F0.binds fun _ _ _ _ _ _ us hl=>by obtain⟨_,_,_,_,_,rfl⟩:=us5 hl;rfl,pf⟩;exact yg F cN C0 N1 N15
end
theorem KY(r:Rw):Im (bX r)=true:=by cases r<;>rfl
theorem Gk:∀ rs:List Rw,gK (rs.map bX)=true
 | []=>rfl
 | r::rs=>by show(Im (bX r)&&gK (rs.map bX))=true;rw[KY,Gk rs];rfl
theorem KZ:∀ ns:List Int,gK (ns.map .int)=true
 | []=>rfl
 | n::ns=>by show(Im (.int n)&&gK (ns.map .int))=true;rw[KZ ns];rfl
theorem OC:∀ x:sy,Im (fL x)=true
 | none=>rfl
 | some (_,_,_)=>rfl
structure ph(ord:wn)(i:Nat):Prop where
 len:ord.length=i
 nd:ord.Nodup
 rg:∀ x∈ord,0<=x/\x < (i:Int)
theorem ph.ins{ord:wn}{i:Nat}(h:ph ord i)(a:Nat):ph (ord.take a++(i:Int)::ord.drop a) (i+1):=by
 have pm:(ord.take a++(i:Int)::ord.drop a).Perm ((i:Int)::ord):=by
  have:=List.perm_middle (a:=(i:Int)) (l₁:=ord.take a) (l₂:=ord.drop a)
  rwa [abQ]at this
 refine⟨by rw[pm.length_eq,aaV,h.len],pm.nodup_iff.mpr (abD.mpr ⟨fun z=>?_,h.nd⟩),fun x hx=>?_⟩
 ·have:=(h.rg _ z).2;omega
 ·rcases aat.mp (pm.mem_iff.mp hx)with c | c
  ·omega
  ·have:=h.rg x c;omega
def lB:List Str:=["none", "overdue", "stray", "worth", "room", "ahead"]
structure J1(aU:Str)(m:Nat)(az lg:Int)(ord:wn):Prop where
 sp:aU∈lB
 m1:1<=m
 m8:m<=8
 ov:aU = "overdue"->0<=az/\az < (m:Int)
 no:aU ≠ "overdue"->az=(m:Int)
 l0:0<=lg
 od:ph ord 8
theorem tL{y:List Rw}(h:n < rs.length):rowOf (rs++y) (n:Int)=rowOf rs (n:Int):=by
 unfold rowOf;rw[aau,aau,aaB,ab6 h]
theorem vN{r:Rw}:rowOf (rs++[r]) (rs.length:Int)=r:=by
 unfold rowOf;rw[aau,aaB,abt (aar _),ac4];rfl
theorem tM{rs y:List Rw}{st:jl}:∀ n:Nat,n<=rs.length->stN (rs++y) st n=stN rs st n
 | 0,_=>rfl
 | n+1,h=>by
  show fm (rowOf (rs++y) (n:Int)) (stN (rs++y) st n)=fm (rowOf rs (n:Int)) (stN rs st n);rw[tL (by omega),tM n (by omega)]
theorem Gm{y:List Rw}(h:n < rs.length):wK (rs++y) st n=wK rs st n:=by unfold wK;rw[tL h]
theorem Ag{k:Nat}{r:Rw}(ho:ph ord 8)(hk:k < 8)(h:oW ord k r)(n:Int):iE n r/\WB r:=by
 have sp:∀ x∈ord.drop k,B8 x:=fun x hx=>ho.rg x (abu hx);have dk:B8 (dK ord k):=ho.rg _ (vF (by rw[ho.len];exact hk));obtain⟨a,ha,⟨b,hb,rfl⟩ | ⟨j,j0,j1,rfl⟩⟩:=h
 ·exact⟨⟨.inr (.inl rfl),dk,sp a ha,sp b hb⟩,rfl⟩
 ·exact⟨⟨.inl rfl,dk,sp a ha,j0,j1⟩,rfl⟩
theorem Ah{k:Nat}(h:k < rs.length):rs[k]?=some (rowOf rs (k:Int)):=by
 unfold rowOf;rw[aau,aaB,aas h];rfl
theorem Su{r:Rw}(hl:rs.length=m)(hs:∀(k:Nat) r,rs[k]?=some r->oW ord k r)(ho:ph ord 8)(hm:m<=8)(zQ:iE (m+1:Nat) r)(ok:jo (m+1) st)(p0:st.place=0)(kp:st.kept=none):R3 ord (rs++[r]) m st:=by
 have B7:(rs++[r]).length=m+1:=by simp[hl]
 refine⟨B7,fun x hx=>?_,fun k hk=>?_,ho.nd,fun x hx=>ho.rg x hx,by rw[ho.len];exact hm,by rw[B7];exact ok,p0,kp⟩
 ·rcases aav.mp hx with c | c
  ·obtain⟨k,hk⟩:=abT c;have:=(aan.mp hk).1;exact(Ag ho (by omega) (hs k x hk) _).1
  ·rw[aaq.mp c,B7];exact zQ
 ·rw[tL (by omega)];exact hs k _ (Ah (by omega))
structure J2(m:Nat)(ord:wn)(rs:List Rw)(r:Rw)(tm:sy)(bs sp ce:wn)(sb:Bool):Prop where
 rl:rs.length=m
 sl:∀(k:Nat) r,rs[k]?=some r->oW ord k r
 R:R3 ord (rs++[r]) m ⟨0,sp,ce,sb,none⟩
 bl:bs.length=m
 b0:∀ b∈bs,0<=b
 bp:bs.Pairwise (·<=·)
 to:bM r (dK ord (m - 1))=true
 wr:(rowOf (rs++[r]) (m:Int)).wrote (stN (rs++[r]) ⟨0,sp,ce,sb,none⟩ m).aW (stN (rs++[r]) ⟨0,sp,ce,sb,none⟩ m).cells=tm
theorem OD{p:Addr}{Kc:Wd->Prop}(w:W p=some (KL (xs.map .int)))(h0:0<=k)(h1:k < xs.length)(h:∀ W',W' p=some (KL ((xs.set k.toNat v).map .int))->Fr p W W'->Kc W'):ze (.pt p) (.im (.int k)) (.im (.int v)) W Kc :=
 Np (vs:=(xs.map PyData.int).map .im) w (j:=k.toNat) (xt h0 (by rw[aal,aal];exact h1)) fun W' w' f'=>h W' (by rw[w'];unfold KL;rw[ad1,ad1]) f'
theorem K0{p:Addr}(w:W p=some (KL (xs.map .int)))(h0:0<=k)(h1:k < xs.length)(h:Q (.im (.int (gI xs k))) W):MH (.pt p) (.im (.int k)) W Q:=fk (vs:=(xs.map PyData.int).map .im) w (rZ (dA h0 h1)) h
structure J3(aU:Str)(rs:List Rw)(st:jl)(m:Nat)(tm:oH)(lg rm:Int)(ix:Nat)(es:List Ev):Prop where
 pd:∀ b',(es.getLast?.map Ev.aF).getD 0<=b'->PD rs st rm lg (es++[.fin b' m tm]) (if aU = "none" then none else some ((ix:Int),aU))
 ok:∀ e∈es,l9 e
 ne:es≠[]
 ln:es.length<=101
structure Dy(ord:wn)(rs:List Rw)(m:Nat)(st:jl)(lg az:Int)(B:Nat->Int)(L:Nat->Int×Int)(ks:List K3):Prop where
 R:R3 ord rs m st
 m1:1<=m
 l0:0<=lg
 bl:BL m B L
 K:Ks m B L ks
 kl:ks.length<=16
 Sj:∀ k:Nat,k < m->(k:Int)≠az->(L k).1<=B k+lg
 out:∀ k:Nat,k < m->(k:Int)=az->B k+lg < (L k).1
 al:∀ k,k < m->(L k).1<=B k+lg+3
section
variable {az:Int}{L:Nat->Int×Int}{aU:Str}{tm:oH}{ix:Nat}
theorem Dy.Ai(h:Dy ord rs m st lg az B L ks){k:Nat}(hk:k < m):Ev.fin (B k) k (some ("spot",dK ord k,none))∈ks.map (fM ord rs st) :=
 abc.mpr ⟨eK B k,(h.K.mem _).mpr ⟨k,hk,.inl rfl⟩,by unfold fM eK;rw[aaN rfl];rfl⟩
theorem Dy.K1(h:Dy ord rs m st lg az B L ks){k:Nat}(hk:k < m):Ev.az (L k).1 k (wK rs st k)∈ks.map (fM ord rs st) :=
 abc.mpr ⟨lK L k,(h.K.mem _).mpr ⟨k,hk,.inr rfl⟩,by unfold fM lK;rw[aaD (by have:=h.bl.GH k hk;dsimp only;omega)];rfl⟩
theorem Dy.shape(h:Dy ord rs m st lg az B L ks):∀ e∈ks.map (fM ord rs st),∃ k:Nat,k < m/\(e=.fin (B k) k (some ("spot",dK ord k,none))\/e=.az (L k).1 k (wK rs st k)):=fun e he=>by
 obtain⟨x,hx,rfl⟩:=abc.mp he;obtain⟨k,hk,rfl | rfl⟩:=(h.K.mem x).mp hx
 ·exact⟨k,hk,.inl (by unfold fM eK;rw[aaN rfl];rfl)⟩
 ·exact⟨k,hk,.inr (by unfold fM lK;rw[aaD (by have:=h.bl.GH k hk;dsimp only;omega)];rfl)⟩
theorem Dy.ok(h:Dy ord rs m st lg az B L ks):∀ e∈ks.map (fM ord rs st),l9 e:=fun e he=>by
 obtain⟨k,_,rfl | rfl⟩:=h.shape e he
 ·exact fun k x e=>by cases e;exact .inl rfl
 ·exact trivial
theorem Dy.nums(h:Dy ord rs m st lg az B L ks):∀ b k t,Ev.fin b k t∈ks.map (fM ord rs st)->0<=k/\k < (m:Int):=fun b k t he=>by
 obtain⟨j,hj,e | e⟩:=h.shape _ he
 ·cases e;omega
 ·cases e
theorem Dy.both(h:Dy ord rs m st lg az B L ks):∀ k:Nat,k < m->(∃ e∈ks.map (fM ord rs st),Ge k e=true)/\∃ e∈ks.map (fM ord rs st),qM k e=true:=fun k hk =>
 ⟨⟨_,h.Ai hk,aaM rfl⟩,_,h.K1 hk,aaM rfl⟩
theorem Dy.Sv(h:Dy ord rs m st lg az B L ks):∀ i:Nat,0<=je ((ks.map (fM ord rs st)).take i):=fun i=>by
 have:∀ i,i<=ks.length->0<=je ((ks.map (fM ord rs st)).take i):=fun i hi=>by
  obtain⟨n,ow,b,T,P⟩:=tF (ord:=ord) (rs:=rs) (st:=st) (lg:=lg+3) h.bl h.K i hi (fun x _ j hj hx=>by have:=h.al j hj;omega);rw[<- ack,<- (oY (by have:=h.l0;omega) T).1];omega
 by_cases hi:i<=ks.length
 ·exact this i hi
 ·rw[abp (by simp;omega)];have:=this ks.length (aar _)
  rwa [abp (by simp)]at this
theorem Dy.full(h:Dy ord rs m st lg az B L ks)(hn:az=(m:Int)):∃ b,Ta ord rs m st lg (ks.map (fM ord rs st)) m [] b:=by
 obtain⟨n,ow,b,T,P⟩:=tF (ord:=ord) (rs:=rs) (st:=st) (lg:=lg) h.bl h.K ks.length (aar _) (fun x _ j hj hx=>by have:=h.Sj j hj (by omega);omega);rw[abe]at T P;have h1:=h.m1;have en:n=m:=by
  have:=(P.en (m - 1) (by omega)).mp ((h.K.mem _).mpr ⟨m - 1,by omega,.inl rfl⟩);have:=P.nm;omega
 subst en;have eo:ow=[]:=by
  cases ow with
  | nil=>rfl
  | cons o r =>
   obtain⟨k,k1,k2,_⟩:=P.ob o aax;exact absurd ((h.K.mem _).mpr ⟨k,k1,.inr rfl⟩) ((P.oi k k1).mp ⟨o,aax,k2⟩).2
 subst eo;exact⟨b,T⟩
theorem Dy.ne(h:Dy ord rs m st lg az B L ks):ks.map (fM ord rs st)≠[]:=fun z=>by
 have:=h.Ai (k:=0) h.m1;rw[z]at this;cases this
theorem Dy.ln(h:Dy ord rs m st lg az B L ks):(ks.map (fM ord rs st)).length<=16:=by rw[aal];exact h.kl
theorem J3.none(h:Dy ord rs m st lg az B L ks)(hn:az=(m:Int)){t:sy}(ht:(rowOf rs (m:Int)).wrote (stN rs st m).aW (stN rs st m).cells=t)(hb:cA (ks.map (fM ord rs st)) rm):J3 "none" rs st m t.told lg rm ix (ks.map (fM ord rs st)):=by
 obtain⟨b,T⟩:=h.full hn;refine⟨fun b' RS=>?_,h.ok,h.ne,by have:=h.ln;omega⟩;rw[aaN rfl];rw[<- tq T]at RS;refine Jn h.l0 h.R T hb RS ?_ ?_
 ·rw[ht];rcases t with _ | ⟨a,c,v⟩<;>rfl
 ·intro x hx;rcases t with _ | ⟨a,c,v⟩<;>cases hx;rfl
theorem J3.room(h:Dy ord rs m st lg az B L ks)(hn:az=(m:Int)){e:Ev}(he:(ks.map (fM ord rs st))[ix]?=some e)(hf:fw e=true)(hr:rm<=je ((ks.map (fM ord rs st)).take ix))(hb:cA ((ks.map (fM ord rs st)).take ix) rm):J3 "room" rs st m tm lg rm ix (ks.map (fM ord rs st)):=by
 obtain⟨b,T⟩:=h.full hn;have es:=kj he;have hl:=(aan.mp he).1;refine⟨fun b' _=>?_,h.ok,h.ne,by have:=h.ln;omega⟩;rw[aaD (by decide)];have:=Jm (r:=(ks.map (fM ord rs st)).drop (ix+1)++[.fin b' m tm]) h.l0 h.R T es hf hb hr;rw[<- adg,<- abW,<- es,aa8,acS (by omega)]at this;exact this
theorem J3.spo(h:Dy ord rs m st lg az B L ks)(hn:az=(m:Int))(hb:cA (ks.map (fM ord rs st)) rm)(Sw:bM (rowOf rs (m:Int)) (dK ord (m - 1))=true)(O6:l9 (.fin 0 0 tm)){lD:List Ev}(hs:Sn aU m tm (ks.map (fM ord rs st)) lD ix)(NP:lD.length<=(ks.map (fM ord rs st)).length+1):J3 aU rs st m tm lg rm ix lD:=by
 obtain⟨b,T⟩:=h.full hn;have ln:=h.ln;have ck:=h.ok;have m1:=h.m1;generalize ks.map (fM ord rs st)=es at *;have pre:∀ a:Nat,cA (es.take a) rm:=fun a=>cA.pre (x:=es.drop a) (by rw[abQ];exact hb);have mk:∀(p r:List Ev) (e:Ev),lD=p++e::r->(∀ x∈p,x∈es)->(∀ x∈r,x∈es)->l9 e->aU ≠ "none"->p.length=ix->(∀ r',PD rs st rm lg (p++e::r') (some ((p.length:Nat),aU)))->J3 aU rs st m tm lg rm ix lD:=fun p r e e1 h1 h2 h3 h4 h5 h6=>by
  refine⟨fun b' _=>?_,fun x hx=>?_,by rw[e1];simp,by omega⟩
  ·rw[aaD h4,e1,abW,adg,<- h5];exact h6 _
  ·rw[e1]at hx;rcases aav.mp hx with c | c
   ·exact ck x (h1 x c)
   ·rcases aat.mp c with c | c
    ·rw[c];exact h3
    ·exact ck x (h2 x c)
 rcases hs with⟨rfl,b2,num,v,e1,zO,hbt,hs⟩ | ⟨rfl,b2,j,w,v,e1,e2,hv⟩ | ⟨rfl,b2,v,e1,e2⟩
 ·obtain⟨n',BP,b',T'⟩:=Om T (p:=es.take ix) (r:=es.drop ix) (abQ ..).symm;exact mk _ _ _ e1 (fun x hx=>acb hx) (fun x hx=>abu hx) trivial (by decide) (by simp;omega) fun r'=>FI h.l0 h.R T' (pre ix) hbt hs
 ·have hl:=(aan.mp e1).1;exact mk _ _ _ e2 (fun x hx=>acb hx) (fun x hx=>abu hx) trivial (by decide) (by simp;omega) fun r'=>FJ h.l0 h.R T (kj e1) (pre ix) hv
 ·have hl:=(aan.mp e1).1;rw[show(m:Int) - 1=((m - 1:Nat):Int) by omega]at e1;exact mk _ _ _ e2 (fun x hx=>acb hx) (fun x hx=>abu hx) O6 (by decide) (by simp;omega) fun r'=>FK h.l0 h.R T (by omega) (kj e1) (pre ix) Sw
theorem J3.over(h:Dy ord rs m st lg az B L ks){k:Nat}(hk:k < m)(hn:(k:Int)=az){e:Ev}(he:(ks.map (fM ord rs st))[ix]?=some e)(hb:B k+lg < e.aF)(hf:∀(j:Nat) (e':Ev),j < ix->(ks.map (fM ord rs st))[j]?=some e'->e'.aF<=B k+lg)(hr:cA (ks.map (fM ord rs st)) rm):J3 "overdue" rs st m tm lg rm ix (ks.map (fM ord rs st)):=by
 have hl:=(aan.mp he).1;have Zc:ix < ks.length:=by rwa [aal]at hl
 have be:∀ x:K3,(fM ord rs st x).aF=x.1:=fun x=>by unfold fM;split<;>rfl
 have Sl:∀ x∈ks.take ix,x.1<=B k+lg:=fun x hx=>by
  obtain⟨j,hj⟩:=abT hx;have Sg:=(aan.mp hj).1;rw[aa8]at Sg;rw[abR (by omega)]at hj;have:=hf j _ (by omega) (by rw[aap,hj];rfl)
  rwa [be]at this
 obtain⟨n,ow,b,T,P⟩:=tF (ord:=ord) (rs:=rs) (st:=st) (lg:=lg) h.bl h.K ix (by omega) (fun x hx j hj Yv=>by
  by_cases ej:(j:Int)=az
  ·obtain rfl:j=k:=by omega
   exact Sl x hx
  ·have:=h.Sj j hj ej;omega)
 rw[ack]at T;have es:=kj he;obtain⟨x,hx,rfl⟩:∃ x,ks[ix]?=some x/\fM ord rs st x=e:=by
  rw[aap]at he;exact aaH.mp he
 rw[be]at hb;have O4:=aa0 hx;have BP:∃ o∈ow,o.1=(k:Int):=(P.oi k hk).mpr ⟨(P.en k hk).mp ((vG h.K.up hx ((h.K.mem _).mpr ⟨k,hk,.inl rfl⟩)).mpr (by
   rcases Int.lt_or_le (qJ (eK B k)) (qJ x)with c | c
   ·exact c
   ·have:x.1<=(eK B k).1:=FG h.bl ((h.K.mem _).mp O4) ⟨k,hk,.inl rfl⟩ c;have:x.1<=B k:=this;have:=h.l0;omega)),fun z=>by
   have:(L k).1<=B k+lg:=Sl _ z;have:=h.out k hk hn;omega⟩
 obtain⟨o,ho,eo⟩:=BP;have hot:o.2.2.2=B k:=by
  obtain⟨j,_,j2,j3⟩:=P.ob o ho;obtain rfl:j=k:=by omega
  exact j3
 have hbx:b<=x.1:=by
  have Oq:=(h.bl.b0 k hk);have h0:=h.l0;rw[P.be];cases q:(ks.take ix).getLast? with
  | none=>show(0:Int)<=x.1;omega
  | some y=>have:=Sl y (List.mem_of_getLast? q);dsimp only[Option.map_some,Option.getD_some];omega
 refine⟨fun b' _=>?_,h.ok,h.ne,by have:=h.ln;omega⟩;rw[aaD (by decide)];have:=Jl (r:=(ks.map (fM ord rs st)).drop (ix+1)++[.fin b' m tm]) h.l0 h.R T (cA.pre (x:=(ks.map (fM ord rs st)).drop ix) (by rw[abQ];exact hr)) (e:=fM ord rs st x) (by rw[be];exact hbx) ⟨o,ho,by rw[hot,be];exact hb⟩;rw[<- adg,<- abW,<- es,aa8,acS (by omega)]at this;exact this
end
abbrev tN:Stmt:=top 53
theorem cE:av ["script", "bag", "spoil", "many", "late", "longest", "order", "k", "rows", "beats", "spots", "cells", "state", "worths", "row", "more", "diary", "mill", "index", "room", "full", "width", "terms"] ["script"] (defScope tN):=by ac_rfl
section
variable {a b c d e g h i j:jQ}{ρ:bS}{nx bk ct:bS->Wd->Prop}{rt:DV->Wd->Prop}
theorem Sx(N:bS->Wd->Prop)(h1:∀ k:bS->Wd->Prop,(∀ ρ W,N ρ W->k ρ W)->dD a (dD b (dD c (dD d (dD e g)))) ⟨k,rt,bk,ct⟩ ρ W)(h2:∀ ρ W,N ρ W->h ⟨nx,rt,bk,ct⟩ ρ W):dD a (dD b (dD c (dD d (dD e (dD g h))))) ⟨nx,rt,bk,ct⟩ ρ W:=h1 _ h2
theorem K2(N:bS->Wd->Prop)(h1:∀ k:bS->Wd->Prop,(∀ ρ W,N ρ W->k ρ W)->dD a (dD b (dD c (dD d (dD e (dD g (dD h i)))))) ⟨k,rt,bk,ct⟩ ρ W)(h2:∀ ρ W,N ρ W->j ⟨nx,rt,bk,ct⟩ ρ W):dD a (dD b (dD c (dD d (dD e (dD g (dD h (dD i j))))))) ⟨nx,rt,bk,ct⟩ ρ W:=h1 _ h2
end
section
variable {K:zn}
theorem OE{f4 f5 f6 f7 f8 f9 g1 g2 g3 g4 g5:Addr}{d5 d6 d7 d8 d9 e1 e2 e3 e4 e5:wT}(F:cL K "law" "law" tN f fd)(BW:Dn P w K mg base 1 "_law_bag" f1 d1 ["script"] (HX K (cV Bg)))(aj:Dn P w K mg base 1 "_law_draw" f2 d2 ["bag", "many"] (spT (cV Bg) iy))(dm:Dn P w K mg base 2 "_law_far" f3 d3 ["bag"] (spT (cV Bg) Eu))(lT:Dn P w K mg base 2 "_law_worth" f4 d4 ["bag"] (spT (cV Bg) Ew))(mm:Dn P w K mg base 2 "_law_slow_rows" f5 d5 ["bag", "many", "order"] (spT (cV Bg) FL))(vO:Dn P w K mg base 3 "_law_beats" f6 d6 ["bag", "many"] (spT (cV Bg) FN))(mn:Dn P w K mg base 1 "_law_worths_of" f7 d7 ["rows", "spots", "cells"] (df qK))(pj:Dn P w K mg base 2 "_law_row_more" f8 d8 ["bag", "many", "spot", "spots"] (spT (cV Bg) vI))(yu:Dn P w K mg base 2 "_law_keys" f9 d9 ["bag", "beats", "longest", "spoilt"] (spT (cV Bg) KS))(tO:Dn P w K mg base 1 "_law_events" g1 e1 ["keys", "rows", "worths"] (df Ac))(yv:Dn P w K mg base 3 "_law_room" g2 e2 ["bag", "diary", "spoil"] (spT (cV Bg) KU))(tP:Dn P w K mg base 4 "_law_spoilt" g3 e3 ["bag", "spoil", "diary", "worths", "more"] (OZ K (cV Bg) Ae))(vP:Dn P w K mg base 1 "_law_width" g4 e4 ["diary"] (df FY))(lU:Dn P w K mg base 10 "_law_asked" g5 e5 ["mill", "state", "terms", "diary", "due"] (df Gg))(bc:mg "range"=none)(gy:mg "tuple"=none)(bu:mg "len"=none):ba P w K mg base cU 11 f fd ["script"] (zD K):=by
 exact_mod_cast F.QZ cE (dY (Iv:=Bg));refine⟨_,(ae (aA 1 cE.nd (ar BW hr (aa (ah 0) ag)))
  (ae (aA 2 cE.nd (ao (cm (gH rfl)) (ar aj hr (aa (ah 1) (aa af ag)))))
  (ae (aA 3 cE.nd (aT aV af (ar aj hr (aa (ah 1) (aa af ag)))))
  (ae (aA 4 cE.nd (ah 3))
  (ae (bj (aG (aI hu) (ah 2) aJ) (ai (aA 4 cE.nd (ar aj hr (aa (ah 1) (aa (ah 3) ag))))) aC)
  (ae (aA 5 cE.nd (ao (cm (aa (ar aj hr (aa (ah 1) (aa af ag))) (aa af (aa (ar aj hr (aa (ah 1) (aa af ag))) (aa (ar dm hr (aa (ah 1) ag)) ag))))) (ar aj hr (aa (ah 1) (aa af ag)))))
  (ae (aA 6 cE.nd (cm ag))
  (ae (gn (cC bc (aa af ag)) (aO 7 cE.nd) (ai (cM (gS aaG PySem.F.slot_list_insert PySem.F.type_list_insert xE (ah 6) (aa (ar aj hr (aa (ah 1) (aa (aT aV (ah 7) af) ag))) (aa (ah 7) ag))))))
  (ae (aA 8 cE.nd (ar mm hr (aa (ah 1) (aa (ah 3) (aa (ah 6) ag)))))
  (ae (aA 9 cE.nd (ar vO hr (aa (ah 1) (aa (ah 3) ag))))
  (ae (nM 10 (N':=["k", "bag"]) (ix:=[none,some 1]) ⟨rfl,rfl,rfl,rfl,rfl,rfl⟩ cE.nd (cC bc (aa af ag)) (fun _ _ _ _=>(aO 0 (show List.Nodup (["k", "bag"]:wv) by decide +kernel))) (fun _ _ _ _=>nL) (fun _ _ _ _=>(ar lT hr (aa (ah 1) ag))))
  (ae (nM 11 (N':=["k", "bag"]) (ix:=[none,some 1]) ⟨rfl,rfl,rfl,rfl,rfl,rfl⟩ cE.nd (cC bc (aa af ag)) (fun _ _ _ _=>(aO 0 (show List.Nodup (["k", "bag"]:wv) by decide +kernel))) (fun _ _ _ _=>nL) (fun _ _ _ _=>(ar lT hr (aa (ah 1) ag))))
  (ae (aA 12 cE.nd (bg (aa af (aa (gJ kL gy aco (aa (ah 10) ag)) (aa (gJ kL gy aco (aa (ah 11) ag)) (aa (jJ (aI hu) (ar aj hr (aa (ah 1) (aa af ag))) af) (aa fh ag)))))))
  (ae (aA 13 cE.nd (ar mn hr (aa (ah 8) (aa (ah 10) (aa (ah 11) ag)))))
  (ae (gn (cC bc (aa (ah 3) ag)) (aO 7 cE.nd) (ai (nF (ao (ah 13) (ah 7)) (Dh (ah 10) (ao (ah 6) (ah 7)) set_list))))
  (ae (nF (ar pj hr (aa (ah 1) (aa (ah 3) (aa (ao (ah 6) (aT eU (ah 3) af)) (aa (ah 10) ag))))) (fY (n:=2) (bo (aO 14 cE.nd) (bo (aO 15 cE.nd) fN))))
  (ae (aA 16 cE.nd (ar tO hr (aa (ar yu hr (aa (ah 1) (aa (ah 9) (aa (ah 5) (aa (ah 4) ag))))) (aa (ah 8) (aa (ah 13) ag)))))
  (ae (aA 17 cE.nd (bg (aa (gJ kL gy aco (aa (aT jt (ah 8) (cm (aa (ah 14) ag))) ag)) (aa (bg ag) ag))))
  (ae (aA 18 cE.nd af)
  (ae (bj (aG (aI hu) (ah 2) aJ) (ai (aA 18 cE.nd (ao (fb (N':=["i", "longest", "diary", "beats", "late"]) (ix:=[none,some 5,some 16,some 9,some 4]) ⟨rfl,rfl,rfl,rfl,rfl,rfl⟩ (cC bc (aa (bD bq bu aa3 (aa (ah 16) ag)) ag)) (fun _ _ _ _=>(aO 0 (show List.Nodup (["i", "longest", "diary", "beats", "late"]:wv) by decide +kernel))) (fun _ _ _ _=>(eZ (aG yE (ao (ao (ah 2) (ah 0)) af) (aT aV (ao (ah 3) (ah 4)) (ah 1))))) (fun _ _ _ _=>(ah 0))) af))) aC)
  (ae (nF (ar yv hr (aa (ah 1) (aa (ah 16) (aa (ah 2) ag)))) (fY (n:=2) (bo (aO 19 cE.nd) (bo (aO 20 cE.nd) fN))))
  (ae (bj (aG (aI hu) (ah 2) aJ) (ai (aA 18 cE.nd (ah 20))) (ai (bj (Dj (nS hu) (ah 2) (bg (gH rfl))) (ai (nF (ar tP hr (aa (ah 1) (aa (ah 2) (aa (ah 16) (aa (ah 13) (aa (ah 15) ag)))))) (fY (n:=2) (bo (aO 16 cE.nd) (bo (aO 18 cE.nd) fN))))) aC)))
  (ae (cM (gS aaG aaQ aaR bQ (ah 16) (aa (bg (aa aJ (aa (aT aV (ao (ao (ah 16) (Di mU af)) af) (ar aj hr (aa (ah 1) (aa af ag)))) (aa (ah 3) (aa (ah 15) ag))))) ag)))
  (ae (aA 21 cE.nd (aT aV (ar vP hr (aa (ah 16) ag)) (ao (cm (aa af (aa (ar aj hr (aa (ah 1) (aa af ag))) (aa (ar dm hr (aa (ah 1) ag)) ag)))) (ar aj hr (aa (ah 1) (aa af ag))))))
  (ae (aA 22 cE.nd (bg (aa (ah 21) (aa (ah 19) (aa (aT aV af (ar aj hr (aa (ah 1) (aa af ag)))) (aa (ar aj hr (aa (ah 1) (aa af ag))) (aa (ah 5) ag)))))))
  (ae (bj (aG (aI hu) (ah 2) aJ) (ai (ay (ar lU hr (aa (ah 17) (aa (ah 12) (aa (ah 22) (aa (ah 16) (aa fh ag)))))))) aC)
  (ai (ay (ar lU hr (aa (ah 17) (aa (ah 12) (aa (ah 22) (aa (ah 16) (aa (bg (aa (ah 18) (aa (ah 2) ag))) ag)))))))))))))))))))))))))))))))))),?_⟩
 clear hu;symm;refine⟨_,inferInstance,fun ns HU=>?_⟩;refine cR [_,none,none,none,none,none,none,none,none,none,none,none,none,none,none,none,none,none,none,none,none,none,none] rfl ?_;refine K2 (fun ρ W=>∃(t g po:Addr) (k:Nat) (aU:Str) (m:Nat) (az lg:Int) (ord:wn) (u:Option DV),J1 aU m az lg ord/\W t=some (.aE g k)/\k<=60/\W po=some (.lst ((ord.map PyData.int).map .im))/\t≠po/\ρ=[some (.jh ns),some (.pt t),some (.im (.str aU)),some (.im (.int m)),some (.im (.int az)),some (.im (.int lg)),some (.pt po),u,none,none,none,none,none,none,none,none,none,none,none,none,none,none,none]) (fun kk jn=>?_) ?_
 ·sizeOf_list_dec
  refine⟨ns,rfl,HU,fun a z=>z,fun t g ht hg gt=>?_⟩;have wt:aH (aH W0 g .part) t (.aE g 0) t=some (.aE g 0):=aq;generalize aH (aH W0 g .part) t (.aE g 0)=W1 at wt
  sizeOf_list_dec
  refine cX (ds:=lB.map .str) (by show 6<=sizeLine;decide) ?_
  sizeOf_list_dec
  refine aZ wt (by omega) (by decide) (by decide) fun OF W2 s0 s1 wt _=>?_;obtain⟨aU,hs,hsc⟩:∃ x:Str,gF (lB.map PyData.str) OF=some (.str x)/\x∈lB:=by
   obtain rfl | rfl | rfl | rfl | rfl | rfl:OF=0\/OF=1\/OF=2\/OF=3\/OF=4\/OF=5:=by omega
   all_goals exact⟨_,rfl,by simp[lB]⟩
  refine bE hs ?_
  sizeOf_list_dec
  refine aZ wt (by omega) (by decide) (by decide) fun m0 W3 m1 m2 wt _=>?_;obtain⟨m0,rfl⟩:=abb m1;obtain⟨m,em⟩:∃ m:Nat,(1:Int)+(m0:Nat)=(m:Int):=⟨m0+1,by omega⟩
  sizeOf_list_dec
  rw[em]
  sizeOf_list_dec
  refine fV (fun ρ W=>∃(az:Int) (k:Nat),(aU = "overdue"->0<=az/\az < (m:Int))/\(aU ≠ "overdue"->az=(m:Int))/\W t=some (.aE g k)/\k<=3/\ρ=[some (.jh ns),some (.pt t),some (.im (.str aU)),some (.im (.int m)),some (.im (.int az)),none,none,none,none,none,none,none,none,none,none,none,none,none,none,none,none,none,none]) (fun k2 Zi=>?_) ?_
  ·sizeOf_list_dec
   refine gj (fun z=>?_) (fun z=>?_)
   ·sizeOf_list_dec
    refine aZ wt (by omega) (by omega) (by omega) fun l0 W4 l1 l2 wt _=>?_
    sizeOf_list_dec
    exact Zi _ _ ⟨l0,_,fun _=>⟨l1,l2⟩,fun c=>absurd z c,wt,by omega,rfl⟩
   ·sizeOf_list_dec
    exact Zi _ _ ⟨m,_,fun c=>absurd c z,fun _=>rfl,wt,by omega,rfl⟩
  clear wt;rintro ρ W4 ⟨az,k4,ov,no,wt,hk4,rfl⟩
  sizeOf_list_dec
  refine aZ wt (by omega) (by omega) (by omega) fun a0 W5 a1 a2 wt _=>?_
  sizeOf_list_dec
  refine aZ wt (by omega) (by omega) (by omega) fun b0 W6 b1 b2 wt _=>?_
  sizeOf_list_dec
  refine dP (ds:=[]) wt ⟨rfl,by omega,fun fr n7 WE hn7=>cQ ?_⟩;replace wt:aH W6 t (.aE g n7) t=some (.aE g n7):=aq;generalize aH W6 t (.aE g n7)=W7 at wt
  sizeOf_list_dec
  refine cX (ds:=[a0,0,b0,fr].map PyData.int) (by show 4<=sizeLine;decide) ?_
  sizeOf_list_dec
  refine aZ wt (by omega) (by omega) (by omega) fun c0 W8 c1 c2 wt _=>?_;refine el c1 (by simpa using c2) fun lg hlg=>?_;have l0:0<=lg:=by simp at hlg;omega
  sizeOf_list_dec
  refine fX (aaW _) fun po W9 gp wp fp=>?_;have e0:t≠po:=fun z=>by rw[<- z,wt]at gp;cases gp
  replace wt:=fp.at e0 wt
  sizeOf_list_dec
  refine i9 (fun i ρ W=>∃(ord:wn) (k:Nat) (u:Option DV),ph ord i/\W t=some (.aE g k)/\k<=30+i/\W po=some (.lst ((ord.map PyData.int).map .im))/\ρ=[some (.jh ns),some (.pt t),some (.im (.str aU)),some (.im (.int m)),some (.im (.int az)),some (.im (.int lg)),some (.pt po),u,none,none,none,none,none,none,none,none,none,none,none,none,none,none,none]) ⟨[],_,_,⟨rfl,.nil,fun _ h=>by cases h⟩,wt,by omega,wp,rfl⟩ ?_ ?_
  ·rintro i ρ W hi ⟨ord,k,u,ho,wt,hk,wp,rfl⟩;rw[ab5];have WC:i < 8:=by have:(8:Int).toNat=8:=rfl;omega
   have OR:=ho.len
   sizeOf_list_dec
   refine aZ wt (by omega) (by omega) (by omega) fun a0 W2 a1 a2 wt f2=>?_;replace wp:=f2.at (abi e0) wp;obtain⟨a,rfl⟩:=abb a1
   sizeOf_list_dec
   refine⟨po,_,_,a,rfl,rfl,by rw[aal,aal];omega,wp,by rw[aal,aal];exact cG (by omega),?_⟩;exact⟨_,_,_,ho.ins a,(aw e0).trans wt,by omega,by rw[aq];simp[ack,acm],rfl⟩
  ·rintro ρ W ⟨ord,k,u,ho,wt,hk,wp,rfl⟩;exact jn _ _ ⟨t,g,po,k,aU,m,az,lg,ord,u,⟨hsc,by omega,by omega,ov,no,l0,ho⟩,wt,by have:(8:Int).toNat=8:=rfl;omega,wp,e0,rfl⟩
 clear HU;rintro ρ W ⟨t,g,po,k,aU,m,az,lg,ord,u,J,wt,hk,wo,e0,rfl⟩;have B6:=J.m1;have O7:=J.m8;have OR:=J.od.len;refine K2 (fun ρ W=>∃(k:Nat) (rs:List Rw) (r:Rw) (tm:sy) (bs sp ce:wn) (sb:Bool) (u1 u2 u3 u4 u5:Option DV),J2 m ord rs r tm bs sp ce sb/\W t=some (.aE g k)/\k<=500/\ρ=[some (.jh ns),some (.pt t),some (.im (.str aU)),some (.im (.int m)),some (.im (.int az)),some (.im (.int lg)),u1,u2,some (.im (.list (rs.map bX))),some (.im (.list (bs.map .int))),u3,u4,some (.im (gb ⟨0,sp,ce,sb,none⟩)),some (.im (.list ((rs.map (Rw.gives sp ce)).map .int))),some (.im (bX r)),some (.im (fL tm)),none,none,none,none,none,none,none]) (fun kk jn=>?_) ?_
 ·sizeOf_list_dec
  refine r6 (ds:=[.int m,.list (ord.map .int)]) wt (cj cv (cj (gY wo) rfl)) ⟨m,ord,rfl,O7,OR,by omega,fun rs n1 Bw KR TR=>⟨Gk rs,jX ?_⟩⟩;replace wo:aH W t (.aE g n1) po=_:=(aw (abi e0)).trans wo;replace wt:aH W t (.aE g n1) t=some (.aE g n1):=aq;generalize aH W t (.aE g n1)=W1 at wt wo
  sizeOf_list_dec
  refine dP (ds:=[.int m]) wt ⟨m,rfl,B6,O7,by omega,fun bs n2 Xc Oq hbp Gx=>jX ?_⟩;replace wo:aH W1 t (.aE g n2) po=_:=(aw (abi e0)).trans wo;replace wt:aH W1 t (.aE g n2) t=some (.aE g n2):=aq;generalize aH W1 t (.aE g n2)=W2 at wt wo
  sizeOf_list_dec
  refine gx (fun i ys W=>∃(sp:wn) (k:Nat),ys=(sp.map PyData.int).map .im/\sp.length=i/\(∀ z∈sp,Wr z)/\W t=some (.aE g k)/\k<=160+3 * i/\W po=W2 po) (aaJ (bb (by omega))) ⟨[],_,rfl,rfl,(fun b hb=>by cases hb),wt,by omega,rfl⟩ ?_ ?_
  ·rintro i ys W hi _ ⟨sp,k,rfl,hl,hb,wt,hk,wo⟩
   sizeOf_list_dec
   refine dP (ds:=[]) wt ⟨rfl,by have:(8:Int).toNat=8:=rfl;omega,fun wr n' OG Pg=>cQ ?_⟩;refine⟨sp++[wr],_,by simp,by simp[hl],fun b m'=>?_,aq,by omega,(aw (abi e0)).trans wo⟩;rcases aav.mp m' with c | c
   ·exact hb b c
   ·rw[aaq.mp c];exact OG
  clear wt;rintro ys W5 ⟨sp,k5,rfl,Hv,OV,wt,hk5,wo5⟩;rw[<- wo5]at wo;refine jm fun ps W6 gs ws fs=>?_;have e1:t≠ps:=fun z=>by rw[<- z,wt]at gs;cases gs
  have e2:po≠ps:=fun z=>by rw[<- z,wo]at gs;cases gs
  replace wt:=fs.at e1 wt;replace wo:=fs.at e2 wo
  sizeOf_list_dec
  refine gx (fun i ys W=>∃(sp:wn) (k:Nat),ys=(sp.map PyData.int).map .im/\sp.length=i/\(∀ z∈sp,Wr z)/\W t=some (.aE g k)/\k<=190+3 * i/\W po=W6 po/\W ps=W6 ps) (aaJ (bb (by omega))) ⟨[],_,rfl,rfl,(fun b hb=>by cases hb),wt,by have:(8:Int).toNat=8:=rfl;omega,rfl,rfl⟩ ?_ ?_
  ·rintro i ys W hi _ ⟨sp,k,rfl,hl,hb,wt,hk,wo,ws⟩
   sizeOf_list_dec
   refine dP (ds:=[]) wt ⟨rfl,by have:(16:Int).toNat=16:=rfl;omega,fun wr n' OG Pg=>cQ ?_⟩;refine⟨sp++[wr],_,by simp,by simp[hl],fun b m'=>?_,aq,by omega,(aw (abi e0)).trans wo,(aw (abi e1)).trans ws⟩;rcases aav.mp m' with c | c
   ·exact hb b c
   ·rw[aaq.mp c];exact OG
  clear wt;rintro ys W7 ⟨ce,k7,rfl,UT,hcw,wt,hk7,wo7,ws7⟩;rw[<- wo7]at wo;rw[<- ws7]at ws;have h8:sp.length=8:=Hv;have WD:ce.length=16:=UT;refine cZ ?_
  sizeOf_list_dec
  refine⟨_,rfl,.inl ⟨_,sp.map .int,_,jS ws,fF (fun _ _=>rfl) _,?_⟩⟩
  sizeOf_list_dec
  refine⟨_,rfl,.inl ⟨_,ce.map .int,_,rfl,fF (fun _ _=>rfl) _,?_⟩⟩
  sizeOf_list_dec
  refine aZ wt (by have:(16:Int).toNat=16:=rfl;omega) (by omega) (by omega) fun z W8 _ _ wt f8=>?_;replace wo:=f8.at (abi e0) wo;replace ws:=f8.at (abi e1) ws
  sizeOf_list_dec
  refine aB (ds:=[.int 0,.tuple (sp.map .int),.tuple (ce.map .int),.bool (decide (z=1)),.none]) (by show 5<=sizeLine;decide) ?_
  sizeOf_list_dec
  generalize hsb:decide (z=1)=sb;have hro:∀ r∈rs,iE 9 r/\WB r:=fun r hr=>by
   obtain⟨k,hk⟩:=abT hr;have:=(aan.mp hk).1;exact Ag J.od (by omega) (KR k r hk) 9
  refine jV (ds:=[.list (rs.map bX),.list (sp.map .int),.list (ce.map .int)]) (cj cv (cj (gY ws) (cj cv rfl))) ⟨rs,9,sp,ce,rfl,by omega,h8,WD,OV,hro,⟨KZ _,jX ?_⟩⟩
  sizeOf_list_dec
  have Zj:jo (m+1) ⟨0,sp,ce,sb,none⟩:=⟨acn _,by show(0:Int)<=((m+1:Nat):Int);omega,h8,OV,WD,hcw,fun _ e=>by cases e⟩;have R0:=Su (r:=.one "shut") Bw KR J.od O7 (.inl rfl) Zj rfl rfl;have Xd:∀ k:Nat,k < m->gI (rs.map (Rw.gives sp ce)) (k:Int)=wK (rs++[.one "shut"]) ⟨0,sp,ce,sb,none⟩ k:=fun k hk=>by
   rw[Gm (by omega)];unfold gI wK rowOf;rw[aau,aau,aaB,aap,aas (show k < rs.length by omega)];rfl
  refine ax ?_
  sizeOf_list_dec
  refine i9 (fun i ρ W=>∃(k:Nat) (u:Option DV),W t=some (.aE g k)/\k<=300/\W po=some (.lst ((ord.map PyData.int).map .im))/\W ps=some (KL ((stN (rs++[.one "shut"]) ⟨0,sp,ce,sb,none⟩ i).aW.map .int))/\ρ=[some (.jh ns),some (.pt t),some (.im (.str aU)),some (.im (.int m)),some (.im (.int az)),some (.im (.int lg)),some (.pt po),u,some (.im (.list (rs.map bX))),some (.im (.list (bs.map .int))),some (.pt ps),some (.im (.list (ce.map .int))),some (.im (gb ⟨0,sp,ce,sb,none⟩)),some (.im (.list ((rs.map (Rw.gives sp ce)).map .int))),none,none,none,none,none,none,none,none,none]) ⟨_,_,wt,by have:(16:Int).toNat=16:=rfl;omega,wo,ws,rfl⟩ ?_ ?_
  ·rintro i ρ W hi ⟨k,u,wt,hk,wo,ws,rfl⟩;have Zk:i < m:=by omega
   have il:i < ord.length:=by omega
   obtain⟨k1,_,_,_,_⟩:=ip R0 i (by omega);have rg:=J.od.rg _ (vF il);have s8:=k1.s8;rw[ab5]
   sizeOf_list_dec
   refine bE (dA (xs:=rs.map (Rw.gives sp ce)) (by omega) (by rw[aal];omega)) ?_;rw[Xd i Zk]
   sizeOf_list_dec
   refine K0 (xs:=ord) wo (by omega) (by omega) ?_;rw[gC]
   sizeOf_list_dec
   refine OD ws rg.1 (by omega) fun W2 w2 f2=>?_;rw[<- BN R0 Zk]at w2;have e3:t≠ps:=e1;exact⟨_,_,f2.at e1 wt,hk,f2.at e2 wo,w2,rfl⟩
  rintro ρ W ⟨k9,u9,wt,hk9,wo,ws,rfl⟩;rw[show((m:Nat):Int).toNat=m by omega]at ws;obtain⟨q1,_,_,q4,_⟩:=ip R0 m (aar _);have s8:=q1.s8;have il:m - 1 < ord.length:=by omega
  sizeOf_list_dec
  rw[show(m:Int) - 1=((m - 1:Nat):Int) by omega];refine K0 (xs:=ord) wo (by omega) (by omega) ?_;rw[gC]
  sizeOf_list_dec
  refine r6 (ds:=[.int m,.int (dK ord (m - 1)),.list ((stN (rs++[Rw.one "shut"]) ⟨0,sp,ce,sb,none⟩ m).aW.map .int)]) wt (cj cv (cj cv (cj (gY (ds:=(stN (rs++[Rw.one "shut"]) ⟨0,sp,ce,sb,none⟩ m).aW.map .int) ws) rfl))) ⟨m,dK ord (m - 1),_,rfl,J.od.rg _ (vF il),s8,by omega,fun r tm n' zQ Sw O6 Pg=>⟨by show(Im (bX r)&&(Im (fL tm)&&true))=true;rw[KY,OC];rfl,cQ ?_⟩⟩
  sizeOf_list_dec
  have R:=Su (r:=r) Bw KR J.od O7 zQ Zj rfl rfl;refine jn _ _ ⟨n',rs,r,tm,bs,sp,ce,sb,_,_,_,_,none,⟨Bw,KR,R,Xc,Oq,hbp,Sw,?_⟩,aq,by omega,rfl⟩;rw[show((m:Nat):Int)=(rs.length:Int) by omega,vN,tM m (by omega),<- tM (y:=[.one "shut"]) m (by omega)];exact O6 _
 clear wt wo;rintro ρ W ⟨k,rs,r,tm,bs,sp,ce,sb,u1,u2,u3,u4,u5,Q2,wt,hk,rfl⟩;generalize ud:(⟨0,sp,ce,sb,none⟩:jl)=st;have hR:=Q2.R;have OG:=Q2.wr;rw[ud]at hR OG;have Bw:=Q2.rl;have Xc:=Q2.bl;have Xd:∀ k:Nat,k < m->gI (rs.map (Rw.gives sp ce)) (k:Int)=wK (rs++[r]) st k:=fun k hk=>by
  rw[Gm (by omega),<- ud];unfold gI wK rowOf;rw[aau,aau,aaB,aap,aas (show k < rs.length by omega)];rfl
 have Sw:bM (rowOf (rs++[r]) (m:Int)) (dK ord (m - 1))=true:=by rw[<- Bw,vN,Bw];exact Q2.to
 have O6:l9 (.fin 0 0 tm.told):=fun k x e=>by
  have wo:=j8 (hR.zQ _ (FC hR (abI m))) (ip hR m (aar _)).1.sw (ip hR m (aar _)).1.cw;rw[OG]at wo;rcases tm with _ | ⟨a,c,v⟩
  ·cases e
  ·cases e;exact wo.1.imp (·.1) (·.1)
 refine Sx (fun ρ W=>∃(pd:Addr) (k ix:Nat) (es:List Ev) (rm:Int) (u1 u2 u3 u4 u5 u6 u7 u8 u9:Option DV),J3 aU (rs++[r]) st m tm.told lg rm ix es/\W t=some (.aE g k)/\k<=1000/\W pd=some (.lst ((es.map bI).map .im))/\t≠pd/\ρ=[some (.jh ns),some (.pt t),some (.im (.str aU)),some (.im (.int m)),u1,some (.im (.int lg)),u2,u3,u4,u5,u6,u7,some (.im (gb st)),u8,some (.im (bX r)),some (.im (fL tm)),some (.pt pd),some (.im (dS (rs++[r]) [])),some (.im (.int ix)),some (.im (.int rm)),u9,none,none]) (fun kk jn=>?_) ?_
 ·sizeOf_list_dec
  refine dP (ds:=[.list (bs.map .int),.int lg,.int az]) wt ⟨bs,lg,az,rfl,by omega,by omega,J.l0,by omega,fun ls ks n1 yo dB Xe Xf TR=>jX ?_⟩;replace wt:aH W t (.aE g n1) t=some (.aE g n1):=aq;generalize aH W t (.aE g n1)=W1 at wt;rw[Xc]at Xe yo Xf;have BX:Dy ord (rs++[r]) m st lg az (dK bs) (Lf ls) ks:=by
   refine⟨hR,B6,J.l0,⟨O7,fun k hk=>Q2.b0 _ (vF (by omega)),fun j k hjk hk=>?_,fun k hk=>dB.GH k (by omega),fun k hk=>dB.od k (by omega)⟩,Xe,by omega,fun k hk=>dB.Sj k (by omega),fun k hk=>dB.out k (by omega),fun k hk=>dB.al k (by omega)⟩;rcases Nat.lt_or_ge j k with c | c
   ·have:=abo.mp Q2.bp j k (by omega) (by omega) c;unfold dK;rw[aau,aau,aas (show j < bs.length by omega),aas (show k < bs.length by omega)];exact this
   ·obtain rfl:j=k:=by omega
    exact acn _
  have B7:=BX.ln;have Sy:∀ x∈ks,0<=x.2.2/\x.2.2 < (rs.length:Int):=fun x hx=>by
   obtain⟨k,hk,rfl | rfl⟩:=(Xe.mem x).mp hx<;>dsimp only[eK,lK]<;>omega
  have UD:∀ k,k < rs.length->∃(x:Str) (rr:wE),bX (rowOf rs (k:Int))=.tuple (.str x::.int (dK ord k)::rr)/\gI (rs.map (Rw.gives sp ce)) (k:Int)=wK (rs++[r]) st k:=fun k hk=>by
   obtain⟨a,_,⟨b,_,e⟩ | ⟨_,_,_,e⟩⟩:=Q2.sl k _ (Ah hk)<;>rw[e]<;>exact⟨_,_,rfl,Xd k (by omega)⟩
  sizeOf_list_dec
  by_cases pB:aU = "stray"\/aU = "worth"\/aU = "ahead"
  ·refine aY (ds:=[.list (ks.map hU),.list (rs.map bX),.list ((rs.map (Rw.gives sp ce)).map .int)]) ⟨ks,rs,_,dK ord,wK (rs++[r]) st,rfl,by omega,by rw[aal],Sy,UD,jX ?_⟩;change Vi _ (.im (.list ((ks.map (fM ord (rs++[r]) st)).map bI))) _ _ _;generalize pP:ks.map (fM ord (rs++[r]) st)=es at B7
   sizeOf_list_dec
   refine cX (ds:=[bX r]) (by show 1<=sizeLine;decide) ?_
   sizeOf_list_dec
   refine pe (aaJ (bb (by simp;omega))) ?_;rw[show rs.map bX++[bX r]=(rs++[r]).map bX by simp]
   sizeOf_list_dec
   refine⟨_,rfl,.inl ⟨_,(rs++[r]).map bX,_,rfl,fF (fun _ _=>rfl) _,?_⟩⟩
   sizeOf_list_dec
   refine aB (ds:=[]) (aaW _) ?_
   sizeOf_list_dec
   refine aB (ds:=[.tuple ((rs++[r]).map bX),.tuple []]) (by show 2<=sizeLine;decide) ?_
   sizeOf_list_dec
   refine ax ?_
   sizeOf_list_dec
   have Ua:aU ≠ "overdue":=by rcases pB with h | h | h<;>rw[h]<;>decide
   have Zl:aU ≠ "room":=by rcases pB with h | h | h<;>rw[h]<;>decide
   refine jM Ua ?_
   sizeOf_list_dec
   refine dP (ds:=[.list (es.map bI),.str aU]) wt ⟨es,aU,rfl,by omega,⟨_,by rw[<- pP];exact BX.Ai (k:=0) B6,rfl⟩,by rw[<- pP];exact BX.Sv,by omega,fun rm ix n2 h1 _ Gx=>cQ ?_⟩;replace wt:aH W1 t (.aE g n2) t=some (.aE g n2):=aq;generalize aH W1 t (.aE g n2)=W2 at wt;obtain⟨BZ,rfl⟩:=h1 Zl
   sizeOf_list_dec
   refine jM Zl ?_
   sizeOf_list_dec
   refine aB (ds:=([("stray":Str), "worth", "ahead"]).map .str) (by show 3<=sizeLine;decide) ?_;refine j6 (xs:=[("stray":Str), "worth", "ahead"]) rfl ?_;refine⟨_,rfl,?_⟩;rw[aaD aaC];refine pH (by simpa using pB) ?_
   sizeOf_list_dec
   rw[sH];refine Iy ⟨t,g,n2,aU,es,m,_,tm.told,rfl,wt,pB,by omega,B6,O7,by rw[aal];exact Bw,by rw[<- pP];exact BX.both,by rw[<- pP];exact BX.nums,by omega,fun W3 pd lD gd n3 Xg wp hs NP Y0=>?_⟩;have e5:t≠pd:=fun z=>by rw[z,wp]at Xg;cases Xg
   refine⟨[.pt pd,.im (.int gd)],rfl,rfl,?_⟩
   sizeOf_list_dec
   rw[<- sH];exact jn _ _ ⟨pd,n3,gd,lD,rm,_,_,_,_,_,_,_,_,_,J3.spo BX (J.no Ua) (by rw[pP];exact BZ) Sw O6 (by rw[pP];exact hs) (by rw[pP];exact NP),Xg,by omega,wp,e5,rfl⟩
  ·refine aY (ds:=[.list (ks.map hU),.list (rs.map bX),.list ((rs.map (Rw.gives sp ce)).map .int)]) ⟨ks,rs,_,dK ord,wK (rs++[r]) st,rfl,by omega,by rw[aal],Sy,UD,RG fun pd W2 gp wp fp=>?_⟩;change W2 pd=some (.lst (((ks.map (fM ord (rs++[r]) st)).map bI).map .im))at wp;have e5:t≠pd:=fun z=>by rw[<- z,wt]at gp;cases gp
   replace wt:=fp.at e5 wt;generalize pP:ks.map (fM ord (rs++[r]) st)=es at B7 wp
   sizeOf_list_dec
   refine cX (ds:=[bX r]) (by show 1<=sizeLine;decide) ?_
   sizeOf_list_dec
   refine pe (aaJ (bb (by simp;omega))) ?_;rw[show rs.map bX++[bX r]=(rs++[r]).map bX by simp]
   sizeOf_list_dec
   refine⟨_,rfl,.inl ⟨_,(rs++[r]).map bX,_,rfl,fF (fun _ _=>rfl) _,?_⟩⟩
   sizeOf_list_dec
   refine aB (ds:=[]) (aaW _) ?_
   sizeOf_list_dec
   refine aB (ds:=[.tuple ((rs++[r]).map bX),.tuple []]) (by show 2<=sizeLine;decide) ?_
   sizeOf_list_dec
   refine fV (fun ρ W=>∃ ix:Nat,(aU = "overdue"->∃(k:Nat) (e:Ev),k < m/\(k:Int)=az/\es[ix]?=some e/\dK bs k+lg < e.aF/\∀(j:Nat) (e':Ev),j < ix->es[j]?=some e'->e'.aF<=dK bs k+lg)/\W2=W/\ρ=[some (.jh ns),some (.pt t),some (.im (.str aU)),some (.im (.int m)),some (.im (.int az)),some (.im (.int lg)),u1,u2,some (.im (.list (rs.map bX))),some (.im (.list (bs.map .int))),u3,u4,some (.im (gb st)),some (.im (.list ((rs.map (Rw.gives sp ce)).map .int))),some (.im (bX r)),some (.im (fL tm)),some (.pt pd),some (.im (dS (rs++[r]) [])),some (.im (.int ix)),none,none,none,none]) (fun k3 Zm=>?_) ?_
   ·sizeOf_list_dec
    refine gj (fun z=>?_) (fun z=>?_)
    ·obtain⟨l1,l2⟩:=J.ov z;obtain⟨k,rfl⟩:=abb l1;have Xh:k < m:=by omega
     sizeOf_list_dec
     rw[aal,aal]
     sizeOf_list_dec
     refine gx (fun i ys W'=>∃ ls:List Int,ys=(ls.map PyData.int).map .im/\ls.length<=i/\iF (fun e=>decide (dK bs k+lg < e.aF)) es i ls/\W2=W') (aaJ (bb (by omega))) ⟨[],rfl,aar _,.nil,rfl⟩ ?_ ?_
     ·rintro i ys _ hi _ ⟨ls,rfl,yo,dB,rfl⟩;have hj:es[i]?=some es[i]:=aas (by omega);generalize es[i]=e at hj;obtain⟨x,rr,ex⟩:=Gf e;rw[ab5]
      sizeOf_list_dec
      refine fk (v:=.im (bI e)) wp (aX (by rw[aap,aap,hj];rfl)) ?_;rw[ex]
      sizeOf_list_dec
      refine cn (show gF (PyData.str x::PyData.int e.aF::rr) ((1:Nat):Int)=some (.int e.aF) from aX rfl) ?_
      sizeOf_list_dec
      refine bE (dA (xs:=bs) (by omega) (by omega)) ?_;rw[gC]
      sizeOf_list_dec
      refine gj (fun z=>?_) (fun z=>?_)
      ·sizeOf_list_dec
       exact⟨ls++[((i:Nat):Int)],by simp,by simp;omega,dB.yes hj (aaM z),rfl⟩
      ·exact⟨ls,rfl,by omega,dB.no hj (aaF z),rfl⟩
     rintro ys _ ⟨ls,rfl,kq,dB,rfl⟩;rw[aaB]at dB kq;refine cZ ?_;have Zn:=BX.K1 Xh;rw[pP]at Zn;obtain⟨j1,e1,a1,a2,a3,a4⟩:=dB.hd ⟨_,Zn,aaM (BX.out k Xh rfl)⟩
     sizeOf_list_dec
     refine bE a1 ?_
     sizeOf_list_dec
     exact Zm _ _ ⟨j1,fun _=>⟨k,e1,Xh,rfl,a2,aa2 a3,fun j e' hj h=>by have:=of_decide_eq_false (a4 j e' hj h);omega⟩,rfl,rfl⟩
    ·sizeOf_list_dec
     exact Zm _ _ ⟨0,fun c=>absurd c z,rfl,rfl⟩
   rintro ρ _ ⟨ix,hov,rfl,rfl⟩;have h3:aU = "none"\/aU = "overdue"\/aU = "room":=by
    have:=J.sp;simp only[lB,aat,abl,adl]at this;rcases this with c | c | c | c | c | c
    ·exact .inl c
    ·exact .inr (.inl c)
    ·exact absurd (.inl c) pB
    ·exact absurd (.inr (.inl c)) pB
    ·exact .inr (.inr c)
    ·exact absurd (.inr (.inr c)) pB
   sizeOf_list_dec
   refine r6 (ds:=[.list (es.map bI),.str aU]) wt (cj (gY wp) (cj cv rfl)) ⟨es,aU,rfl,by omega,⟨_,by rw[<- pP];exact BX.Ai (k:=0) B6,rfl⟩,by rw[<- pP];exact BX.Sv,by omega,fun rm Zo n2 h1 h2 Gx=>⟨rfl,cQ ?_⟩⟩;replace wp:aH W2 t (.aE g n2) pd=_:=(aw (abi e5)).trans wp;replace wt:aH W2 t (.aE g n2) t=some (.aE g n2):=aq;generalize aH W2 t (.aE g n2)=W3 at wt wp
   sizeOf_list_dec
   refine gj (fun z=>?_) (fun z=>?_)
   ·obtain⟨e,b1,b2,b3,b4⟩:=h2 z
    sizeOf_list_dec
    have Ua:aU ≠ "overdue":=by rw[z];decide
    have j3:J3 "room" (rs++[r]) st m tm.told lg rm Zo (ks.map (fM ord (rs++[r]) st)):=J3.room BX (J.no Ua) (by rw[pP];exact b1) b2 (by rw[pP];exact b3) (by rw[pP];exact b4);exact jn _ _ ⟨pd,n2,Zo,es,rm,_,_,_,_,_,_,_,_,_,by rw[z,<- pP];exact j3,wt,by omega,wp,e5,rfl⟩
   ·sizeOf_list_dec
    refine aB (ds:=([("stray":Str), "worth", "ahead"]).map .str) (by show 3<=sizeLine;decide) ?_;refine j6 (xs:=[("stray":Str), "worth", "ahead"]) rfl ?_;refine⟨_,rfl,?_⟩;rw[aaD aaC];refine jM (by simpa using pB) ?_
    sizeOf_list_dec
    obtain⟨BZ,_⟩:=h1 z;refine jn _ _ ⟨pd,n2,ix,es,rm,_,_,_,_,_,_,_,_,_,?_,wt,by omega,wp,e5,rfl⟩;rcases h3 with c | c | c
    ·rw[c,<- pP];exact J3.none BX (J.no (by rw[c];decide)) OG (by rw[pP];exact BZ)
    ·obtain⟨k,e,hk,Xf,q1,q2,q3⟩:=hov c;rw[c,<- pP];exact J3.over BX hk Xf (by rw[pP];exact q1) q2 (by rw[pP];exact q3) (by rw[pP];exact BZ)
    ·exact absurd c z
 clear wt;rintro ρ W ⟨pd,k,ix,es,rm,v1,v2,v3,v4,v5,v6,v7,v8,v9,Q3,wt,hk,wp,e5,rfl⟩;have B7:=Q3.ln;obtain⟨Zp,e,Xi⟩:∃ Zp e,es=Zp++[e]:=by
  rcases List.eq_nil_or_concat es with c | ⟨l,x,c⟩
  ·exact absurd c Q3.ne
  ·exact⟨l,x,by rw[c,ac6]⟩
 obtain⟨x,rr,ex⟩:=Gf e
 sizeOf_list_dec
 refine fk (v:=.im (bI e)) wp (by rw[Xi,aaU,aaU];exact Aa _ _) ?_;rw[ex]
 sizeOf_list_dec
 refine cn (show gF (PyData.str x::PyData.int e.aF::rr) ((1:Nat):Int)=some (.int e.aF) from aX rfl) ?_
 sizeOf_list_dec
 refine aZ wt (by omega) (by omega) (by omega) fun d0 W1 d1 d2 wt f1=>?_;replace wp:=f1.at (abi e5) wp;have Zq:=Q3.pd (e.aF+d0) (by rw[Xi,aca];show e.aF<=_;omega);have ck:=Q3.ok
 sizeOf_list_dec
 refine aB (ds:=[.str "end",.int (e.aF+d0),.int m,fL tm]) (by show 4<=sizeLine;decide) ?_
 sizeOf_list_dec
 refine bU wp (by rw[aal,aal];exact cG (by omega)) fun W2 w2 f2=>?_;replace wt:=f2.at e5 wt;replace w2:W2 pd=some (.lst (((es++[Ev.fin (e.aF+d0) m tm.told]).map bI).map .im)):=by rw[w2,sH];simp[bI]
 have OH:∀ x∈es++[Ev.fin (e.aF+d0) m tm.told],l9 x:=fun x hx=>by
  rcases aav.mp hx with c | c
  ·exact ck x c
  ·rw[aaq.mp c];exact O6
 have pY:(es++[Ev.fin (e.aF+d0) m tm.told]).length<=102:=by simp;omega
 generalize es++[Ev.fin (e.aF+d0) m tm.told]=fs at w2 Zq OH pY;clear Q3 ck Xi ex wp
 sizeOf_list_dec
 refine jV (ds:=[.list (fs.map bI)]) (cj (gY w2) rfl) ⟨fs,rfl,by omega,fun O8 hwd Xj=>⟨rfl,cQ ?_⟩⟩
 sizeOf_list_dec
 refine aZ wt (by omega) (by omega) (by omega) fun x1 W3 x10 _ wt f3=>?_;replace w2:=f3.at (abi e5) w2
 sizeOf_list_dec
 refine dP (ds:=[]) wt ⟨rfl,by omega,fun x2 n4 x20 hn4=>cQ ?_⟩;replace w2:aH W3 t (.aE g n4) pd=_:=(aw (abi e5)).trans w2;replace wt:aH W3 t (.aE g n4) t=some (.aE g n4):=aq;generalize aH W3 t (.aE g n4)=W4 at wt w2
 sizeOf_list_dec
 refine cX (ds:=[0,x1,x2].map PyData.int) (by show 3<=sizeLine;decide) ?_
 sizeOf_list_dec
 refine aZ wt (by omega) (by omega) (by omega) fun x3 W5 x30 x31 wt f5=>?_;replace w2:=f5.at (abi e5) w2;refine el x30 (by simpa using x31) fun x4 Zr=>?_;have Zr:0<=x4:=by simp at Zr;omega
 sizeOf_list_dec
 refine aZ wt (by omega) (by omega) (by omega) fun y1 W6 y10 _ wt f6=>?_;replace w2:=f6.at (abi e5) w2
 sizeOf_list_dec
 refine aZ wt (by omega) (by omega) (by omega) fun y2 W7 _ _ wt f7=>?_;replace w2:=f7.at (abi e5) w2
 sizeOf_list_dec
 refine aB (ds:=[.int (O8+x4),.int rm,.int (1+y1),.int y2,.int lg]) (by show 5<=sizeLine;decide) ?_;have Wm:sq (rs++[r]) []:=⟨by simp,by simp;omega,hR.zQ,aaW _,fun _ h=>by cases h⟩;have Sz:eF (Fx (rs++[r]) [] st [] ⟨O8+x4,rm,1+y1,y2,lg⟩):=⟨Wm,hR.ok,aaW _,(fun _ h=>by cases h),aaW _,aaW _,aaW _⟩;have hp:fv (Fx (rs++[r]) [] st [] ⟨O8+x4,rm,1+y1,y2,lg⟩) fs=_:=Zq (O8+x4) _ ⟨rfl,rfl,rfl,rfl,rfl,by show 1<=1+y1;omega,rfl,rfl,rfl,rfl,rfl,rfl,rfl,rfl⟩ (fun b=>by have:=Xj b;omega)
 sizeOf_list_dec
 refine ax ?_
 sizeOf_list_dec
 refine gj (fun z=>?_) (fun z=>?_)
 ·rw[aaN z]at hp
  sizeOf_list_dec
  refine jV (ds:=[dS (rs++[r]) [],gb st,vC ⟨O8+x4,rm,1+y1,y2,lg⟩,.list (fs.map bI),pL none]) (cj cv (cj cv (cj cv (cj (gY w2) (cj cv rfl))))) ⟨rs++[r],st,_,fs,none,rfl,Sz,OH,by omega,⟨rfl,cQ ?_⟩⟩;rw[hp,aaM rfl]
 ·rw[aaD z]at hp
  sizeOf_list_dec
  refine aB (ds:=[.int ix,.str aU]) (by show 2<=sizeLine;decide) ?_
  sizeOf_list_dec
  refine jV (ds:=[dS (rs++[r]) [],gb st,vC ⟨O8+x4,rm,1+y1,y2,lg⟩,.list (fs.map bI),pL (some ((ix:Int),aU))]) (cj cv (cj cv (cj cv (cj (gY w2) (cj cv rfl))))) ⟨rs++[r],st,_,fs,some ((ix:Int),aU),rfl,Sz,OH,by omega,⟨rfl,cQ ?_⟩⟩;rw[hp,aaM rfl]
end
end T1
namespace T1
open PySem L2
theorem pk{α:Type}(us:List α)(hl:us.length=1):∃ a0,us=[a0]:=by
 cases us with
 | nil=>cases hl
 | cons a r =>
  have e:r=[]:=abU.mp (adB hl);exact⟨a,by rw[e]⟩
theorem vQ{α:Type}(us:List α)(hl:us.length=2):∃ a0 a1,us=[a0,a1]:=by
 cases us with
 | nil=>cases hl
 | cons a r =>
  obtain⟨a0,e⟩:=pk r (adB hl);exact⟨a,a0,by rw[e]⟩
theorem vR{α:Type}(us:List α)(hl:us.length=3):∃ a0 a1 a2,us=[a0,a1,a2]:=by
 cases us with
 | nil=>cases hl
 | cons a r =>
  obtain⟨a0,a1,e⟩:=vQ r (adB hl);exact⟨a,a0,a1,by rw[e]⟩
theorem vS{α:Type}(us:List α)(hl:us.length=4):∃ a0 a1 a2 a3,us=[a0,a1,a2,a3]:=by
 cases us with
 | nil=>cases hl
 | cons a r =>
  obtain⟨a0,a1,a2,e⟩:=vR r (adB hl);exact⟨a,a0,a1,a2,by rw[e]⟩
theorem Gn{α:Type}(us:List α)(hl:us.length=5):∃ a0 a1 a2 a3 a4,us=[a0,a1,a2,a3,a4]:=by
 cases us with
 | nil=>cases hl
 | cons a r =>
  obtain⟨a0,a1,a2,a3,e⟩:=vS r (adB hl);exact⟨a,a0,a1,a2,a3,by rw[e]⟩
theorem tQ{K:PySem.W.Frag}{C:Addr}(q:PySem.W.excIn K C [.type "ValueError",.type "Exception",.type "BaseException",.type "object"] "ValueError.__new__"=true):rN K C:=by
 intro h X;unfold PySem.W.excIn at q;split at q
 ·rename_i dd cd sl ho;split at q
  ·rename_i C' bm k0 k1 k2 k3 n k5 hm hs;simp only[aaK,acq,Bool.not_eq_true']at q;obtain⟨⟨⟨⟨⟨rfl,rfl⟩,SD⟩,ht⟩,ck⟩,Tr⟩:=q;obtain⟨nm,bs,mro,ns,qn,hd,sn,sub,ab,col,del⟩:=cd;dsimp only at hm SD ck Tr;subst hm SD;have Hv:sl=#[k0,k1,k2,k3,some (.builtin "ValueError.__new__"),k5]:=by
    obtain⟨l⟩:=sl;simp only at hs;rw[hs]
   subst Hv;have T:=PySem.W.tail_of_in X ht;exact⟨nm,qn,ns,bs,bm,hd,sn,sub,ab,col,dd,k0,k1,k2,k3,k5,_,X _ _ ho,.of_isNs (PySem.W.isNs_of_in X ck),PySem.W.nsMap_none_of_in X ck Tr,T,T.hasType rfl⟩
  ·cases q
 ·cases q
theorem Jt{K:PySem.W.Frag}{t C:Addr}{cd:ClassData}{b:Bool}(hc:PySem.W.clsIn K C=some cd)(ht:PySem.W.typeIn K (.ref C)=some (.type "type"))(hs:PySem.W.subIn K (.ref t) (.ref C)=some b):PySem.W.kitCls K (.ref t) (.ref C)=some b:=by
 unfold PySem.W.kitCls;simp only[hc,ht];exact hs
theorem Xk{K:PySem.W.Frag}{t C:Addr}{cd:ClassData}{b:Bool}(mB:(Value.ref t == Value.ref C)=false)(hc:PySem.W.clsIn K C=some cd)(ht:PySem.W.typeIn K (.ref C)=some (.type "type"))(hs:PySem.W.subIn K (.ref t) (.ref C)=some b):PySem.W.kitOne K (.ref t) (.ref C)=some b:=by
 unfold PySem.W.kitOne;rw[aaD (by rw[mB];decide)];exact Jt hc ht hs
theorem Ub{K:PySem.W.Frag}{t:Addr}(mV:PySem.W.kitMeta "ValueError"=true)(sV:PySem.W.subIn K (.ref t) (.type "ValueError")=some true):PySem.W.kitOne K (.ref t) (.type "ValueError")=some true:=by
 show(if(Value.ref t == Value.type "ValueError")=true then some true else if PySem.W.kitMeta "ValueError"=true then PySem.W.subIn K (.ref t) (.type "ValueError")else none)=some true;rw[aaD (by intro z;cases (acq.mp z)),aaN mV];exact sV
theorem Xl{K:PySem.W.Frag}{t:Value}{c:Value}{r:List Value}(h:PySem.W.kitOne K t c=some false)(hr:PySem.W.kitAny K t r=some false):PySem.W.kitAny K t (c::r)=some false:=by
 unfold PySem.W.kitAny;rw[h];exact hr
def Df(K:PySem.W.Frag)(x:Str)(st:Stmt)(ps:List Str)(f:Addr):Prop:=∀{h:Heap} {mg:Str->Option Value},K.In h->h.Ns mainGlobals mg->∃ fd,cL K x x st f fd/\PySem.W.keepIn K (.ref f)=true/\mg x=some (.ref f)/\Binds K fd ps []
theorem bR{K:PySem.W.Frag}{x:Str}{st:Stmt}{ps:List Str}{f:Addr}{oc:Value}{od an:Option Addr}{wJ:Array (Option Value)}{kV doc pm bC ct:Value}(a:autoParam (PySem.W.nsIn K mainGlobals x=some (some (.ref f))) ra6)(l:autoParam (K.lookup f=some ⟨oc,od,.func (PySem.W.fnOf x x (defArgs st) (defBody st) (defScope st) .none kV doc pm an bC ct),wJ⟩) ra6)
  (c:PySem.W.codeIn K bC x=true:=by k_is) (k:PySem.W.keepIn K (.ref f)=true:=by k_is) (b:∀ fd,cL K x x st f fd->Binds K fd ps []:=by exact fun _ F=>F.binds fun _ _ _ _ _ _ us hl=>by first | rfl | (obtain rfl:=List.eq_nil_of_length_eq_zero hl;rfl) | (obtain⟨_,rfl⟩:=T1.pk us hl;rfl) | (obtain⟨_,_,rfl⟩:=T1.vQ us hl;rfl) | (obtain⟨_,_,_,rfl⟩:=T1.vR us hl;rfl) | (obtain⟨_,_,_,_,rfl⟩:=T1.vS us hl;rfl) | (obtain⟨_,_,_,_,_,rfl⟩:=T1.Gn us hl;rfl)):Df K x st ps f:=fun X G=>⟨_,kE l c k,(kE l c k).kp,abN X G a,b _ (kE l c k)⟩
theorem i6{K:PySem.W.Frag}{a:Addr}{od:Option Addr}{aQ:Array Value}{m:Nat}{sl:Array (Option Value)}{xs:List V}(h:K.lookup a=some ⟨.type "tuple",od,.seq aQ m,sl⟩)(hz:aQ.size<=sizeLine)(hv:Vals xs aQ.toList)(H:Hp):fg K H a xs:=.inr ⟨_,aQ,m,h,rfl,rfl,hz,hv⟩
theorem qP{α β:Type}[BEq α][LawfulBEq α]{a:α}{b:β}:∀{l:List (α×β)},(a,b)∈l->l.lookup a=none->False
 | (x,y)::r,h,n=>by
  rw[abd]at n;split at n
  ·cases n
  ·rename_i e;rcases aat.mp h with z | z
   ·injection z with z1 _
    rw[z1,adS]at e;cases e
   ·exact qP z n
theorem Gp{K:PySem.W.Frag}{w:World}{aP:Addr}{ep:Nat}{h1 h2 h3 h4 h5 h6 h7 h8 h9 Zs:Int}{t1 t2 t3 t4 t5 t6 t7 t8 t9 t10:Tok}{p1 p2 p3 p4 p5 p6 p7 p8 p9 Xm:Addr}
  (lP:K.lookup aP=some ⟨.type "dict",none,.dict #[⟨h1,.str "put" t1,.ref p1⟩,⟨h2,.str "sum" t2,.ref p2⟩,⟨h3,.str "mul" t3,.ref p3⟩,⟨h4,.str "less" t4,.ref p4⟩,⟨h5,.str "take" t5,.ref p5⟩,⟨h6,.str "lay" t6,.ref p6⟩,⟨h7,.str "go" t7,.ref p7⟩,⟨h8,.str "shut" t8,.ref p8⟩,⟨h9,.str "open" t9,.ref p9⟩,⟨Zs,.str "home" t10,.ref Xm⟩] ep,#[]⟩) (ne:(aP == sysModules)=false)
  (e1:h1=hashStr w "put") (q1:∀ H,fg K H p1 [.str "d",.str "worth"])
  (e2:h2=hashStr w "sum") (q2:∀ H,fg K H p2 [.str "d",.str "a",.str "b"])
  (e3:h3=hashStr w "mul") (q3:∀ H,fg K H p3 [.str "d",.str "a",.str "b"])
  (e4:h4=hashStr w "less") (q4:∀ H,fg K H p4 [.str "d",.str "a",.str "b"])
  (e5:h5=hashStr w "take") (q5:∀ H,fg K H p5 [.str "d",.str "a",.str "n"])
  (e6:h6=hashStr w "lay") (q6:∀ H,fg K H p6 [.str "b",.str "a",.str "n"])
  (e7:h7=hashStr w "go") (q7:∀ H,fg K H p7 [.str "a",.str "p"])
  (e8:h8=hashStr w "shut") (q8:∀ H,fg K H p8 [])
  (e9:h9=hashStr w "open") (q9:∀ H,fg K H p9 [])
  (e10:Zs=hashStr w "home") (q10:∀ H,fg K H Xm [])
  : Parts K w aP:=by
 refine⟨[(Sum.inr "put",.ref p1),(Sum.inr "sum",.ref p2),(Sum.inr "mul",.ref p3),(Sum.inr "less",.ref p4),(Sum.inr "take",.ref p5),(Sum.inr "lay",.ref p6),(Sum.inr "go",.ref p7),(Sum.inr "shut",.ref p8),(Sum.inr "open",.ref p9),(Sum.inr "home",.ref Xm)],⟨⟨_,_,lP,?_⟩,by show([Sum.inr "put",Sum.inr "sum",Sum.inr "mul",Sum.inr "less",Sum.inr "take",Sum.inr "lay",Sum.inr "go",Sum.inr "shut",Sum.inr "open",Sum.inr "home"]:List Key).Nodup;decide +kernel,ne⟩,?_,?_⟩
 ·exact .cons ⟨cJ _ _,e1,rfl⟩ (.cons ⟨cJ _ _,e2,rfl⟩ (.cons ⟨cJ _ _,e3,rfl⟩ (.cons ⟨cJ _ _,e4,rfl⟩ (.cons ⟨cJ _ _,e5,rfl⟩ (.cons ⟨cJ _ _,e6,rfl⟩ (.cons ⟨cJ _ _,e7,rfl⟩ (.cons ⟨cJ _ _,e8,rfl⟩ (.cons ⟨cJ _ _,e9,rfl⟩ (.cons ⟨cJ _ _,e10,rfl⟩ (.nil))))))))))
 ·intro x ps hx;have m:=lookup_mem hx;simp only[bz,aat,Prod.mk.injEq,abl,adl]at m;rcases m with⟨rfl,rfl⟩ | ⟨rfl,rfl⟩ | ⟨rfl,rfl⟩ | ⟨rfl,rfl⟩ | ⟨rfl,rfl⟩ | ⟨rfl,rfl⟩ | ⟨rfl,rfl⟩ | ⟨rfl,rfl⟩ | ⟨rfl,rfl⟩ | ⟨rfl,rfl⟩
  all_goals refine⟨_,by(repeat rw[nj (by intro z;exact absurd (Sum.inr.inj z) (by decide +kernel))]);exact uj rfl,?_⟩
  all_goals assumption
 ·intro x hx;have no:∀ y∈bz.map (·.1),x≠y:=fun y hy e=>by
   obtain⟨⟨z,ps⟩,hz,rfl⟩:=abc.mp hy;rw[e]at hx;exact qP hz hx
  repeat rw[nj (by intro z;exact no _ (by decide +kernel) (Sum.inr.inj z).symm)]
  rfl
theorem all_mk{l:PySem.W.OpenLaw}{w:World}{K:PySem.W.Frag}{h:Heap}{mg:Str->Option Value}{fa:Addr}(X:K.In h)(G:h.Ns mainGlobals mg)(hfa:mg "law"=some (.ref fa))
  {f1:Addr} {f2:Addr} {f3:Addr} {f4:Addr} {f5:Addr} {f6:Addr} {f7:Addr} {f8:Addr} {f9:Addr} {WN:Addr} {WR:Addr} {WU:Addr} {WW:Addr} {WY:Addr} {Xa:Addr} {f16:Addr} {f17:Addr} {f18:Addr} {f19:Addr} {f20:Addr} {f21:Addr} {f22:Addr} {f23:Addr} {f24:Addr} {f25:Addr} {f26:Addr} {f27:Addr} {f28:Addr} {f29:Addr} {f30:Addr} {f31:Addr} {f32:Addr} {f33:Addr} {f34:Addr} {f35:Addr} {f36:Addr} {Xn SF:Option Addr} {Xo:Array (Option Value)} {Xp SH SJ SM OI SN:Value} {Xq:Addr} {Aj:Addr} {kr:Addr} {BY:Tok} {Gq:Tok} {qQ:Addr} {vT:Addr} {Gr:Addr} {vU:Addr}
  (d1:Df K "wrapped" oA ["number"] f1)
  (d2:Df K "cell_at" sr ["worth", "n"] f2)
  (d3:Df K "spots_read" xY ["row"] f3)
  (d4:Df K "spot_written" EB ["row"] f4)
  (d5:Df K "is_slow" E8 ["row"] f5)
  (d6:Df K "worth_got" NS ["row", "spots", "cells"] f6)
  (d7:Df K "what_it_writes" EC ["row", "spots", "cells"] f7)
  (d8:Df K "place_behind" su ["row", "place", "spots", "kept"] f8)
  (d9:Df K "is_shut_behind" xN ["row", "shut"] f9)
  (WQ:Df K "kept_behind" xO ["row", "kept"] WN)
  (WS:Df K "is_bell" sv ["mill", "k"] WR)
  (WV:Df K "bells_rung" E9 ["rings", "beat"] WU)
  (WX:Df K "bells_waiting" Fb ["rings", "taken", "beat"] WW)
  (WZ:Df K "rests" xP ["mill", "state"] WY)
  (Xb:Df K "with_written" ED ["worths", "kind", "wrote"] Xa)
  (d16:Df K "step" EE ["mill", "state"] f16)
  (d17:Df K "bell" EF ["mill", "state", "k"] f17)
  (d18:Df K "thing_of" xZ ["wrote"] f18)
  (d19:Df K "parting" ke ["mill", "state", "rings", "terms", "diary"] f19)
  (d20:Df K "_law_bag" NN ["script"] f20)
  (d21:Df K "_law_draw" Et ["bag", "many"] f21)
  (d22:Df K "_law_far" NQ ["bag"] f22)
  (d23:Df K "_law_worth" xJ ["bag"] f23)
  (d24:Df K "_law_slow_rows" yj ["bag", "many", "order"] f24)
  (d25:Df K "_law_worths_of" lr ["rows", "spots", "cells"] f25)
  (d26:Df K "_law_row_more" o5 ["bag", "many", "spot", "spots"] f26)
  (d27:Df K "_law_keys" FU ["bag", "beats", "longest", "spoilt"] f27)
  (d28:Df K "_law_events" tH ["keys", "rows", "worths"] f28)
  (d29:Df K "_law_owed_ahead" yr ["diary"] f29)
  (d30:Df K "_law_room" Gd ["bag", "diary", "spoil"] f30)
  (d31:Df K "_law_late_more" ly ["bag", "diary", "many", "worths"] f31)
  (d32:Df K "_law_width" yq ["diary"] f32)
  (d33:Df K "_law_right" xK ["found", "due"] f33)
  (d34:Df K "_law_asked" yt ["mill", "state", "terms", "diary", "due"] f34)
  (d35:Df K "_law_spoilt" tI ["bag", "spoil", "diary", "worths", "more"] f35)
  (d36:Df K "_law_beats" yk ["bag", "many"] f36)
  (a37:PySem.W.nsIn K mainGlobals "law"=some (some (.ref Xq))) (l37:K.lookup Xq=some ⟨Xp,Xn,.func (PySem.W.fnOf "law" "law" (defArgs tN) (defBody tN) (defScope tN) .none SH SJ SM SF OI SN),Xo⟩) (c37:PySem.W.codeIn K OI "law"=true) (k37:PySem.W.keepIn K (.ref Xq)=true)
  (g_PARTS:PySem.W.nsIn K mainGlobals "PARTS"=some (some (.ref Aj))) (h_PARTS:Parts K w Aj) (g_SLOW_WORDS:PySem.W.nsIn K mainGlobals "SLOW_WORDS"=some (some (.ref kr))) (h_SLOW_WORDS:∀ H,fg K H kr [.str "mul",.str "take"]) (g_WORTHS:PySem.W.nsIn K mainGlobals "WORTHS"=some (some (.int 4294967296 BY))) (g_CELLS:PySem.W.nsIn K mainGlobals "CELLS"=some (some (.int 16 Gq))) (g_Resting:PySem.W.nsIn K mainGlobals "Resting"=some (some (.ref qQ))) (g_NoBell:PySem.W.nsIn K mainGlobals "NoBell"=some (some (.ref vT))) (g_Shut:PySem.W.nsIn K mainGlobals "Shut"=some (some (.ref Gr))) (h_Shut:rN K qQ/\rN K vT/\rN K Gr) (g_Holder:PySem.W.nsIn K mainGlobals "Holder"=some (some (.ref vU))) (h_Holder:tJ K vU)
  (z1:PySem.W.nsIn K mainGlobals "isinstance"=some none) (z2:PySem.W.nsIn K mainGlobals "bool"=some none) (z3:PySem.W.nsIn K mainGlobals "int"=some none) (z4:PySem.W.nsIn K mainGlobals "str"=some none) (z5:PySem.W.nsIn K mainGlobals "list"=some none) (z6:PySem.W.nsIn K mainGlobals "tuple"=some none) (z7:PySem.W.nsIn K mainGlobals "len"=some none) (z8:PySem.W.nsIn K mainGlobals "zip"=some none) (z9:PySem.W.nsIn K mainGlobals "any"=some none) (z10:PySem.W.nsIn K mainGlobals "range"=some none) (z11:PySem.W.nsIn K mainGlobals "sorted"=some none) (z12:PySem.W.nsIn K mainGlobals "set"=some none) (z13:PySem.W.nsIn K mainGlobals "max"=some none) (z14:PySem.W.nsIn K mainGlobals "min"=some none) :
  ∃ fd:FuncData,(∀(s:Shared) (v:Value),BindsTo s fd ⟨[v],[]⟩ [("script",v)])/\∀ base:Heap,K.In base->base.Ns mainGlobals mg->ba l.prog w K mg base cU 11 fa fd ["script"] (zD K):=by
 have e:=hfa.symm.trans (abN X G a37);cases e;obtain⟨_,F1,k1,m1,b1⟩:=d1 X G;obtain⟨_,F2,k2,m2,b2⟩:=d2 X G;obtain⟨_,F3,k3,m3,b3⟩:=d3 X G;obtain⟨_,F4,k4,m4,b4⟩:=d4 X G;obtain⟨_,F5,k5,m5,b5⟩:=d5 X G;obtain⟨_,F6,k6,m6,b6⟩:=d6 X G;obtain⟨_,F7,k7,m7,b7⟩:=d7 X G;obtain⟨_,F8,k8,m8,b8⟩:=d8 X G;obtain⟨_,F9,k9,m9,b9⟩:=d9 X G;obtain⟨_,T4,k10,WH,b10⟩:=WQ X G;obtain⟨_,T5,k11,WI,b11⟩:=WS X G;obtain⟨_,T6,k12,WJ,b12⟩:=WV X G;obtain⟨_,T7,k13,WK,b13⟩:=WX X G;obtain⟨_,T8,k14,WL,b14⟩:=WZ X G;obtain⟨_,T9,k15,WM,b15⟩:=Xb X G;obtain⟨_,F16,k16,Y2,b16⟩:=d16 X G;obtain⟨_,F17,k17,m17,b17⟩:=d17 X G;obtain⟨_,F18,k18,m18,b18⟩:=d18 X G;obtain⟨_,F19,k19,m19,b19⟩:=d19 X G;obtain⟨_,F20,k20,m20,b20⟩:=d20 X G;obtain⟨_,F21,k21,m21,b21⟩:=d21 X G;obtain⟨_,F22,k22,m22,b22⟩:=d22 X G;obtain⟨_,F23,Mr,m23,b23⟩:=d23 X G;obtain⟨_,F24,k24,m24,b24⟩:=d24 X G;obtain⟨_,F25,k25,m25,b25⟩:=d25 X G;obtain⟨_,F26,k26,m26,b26⟩:=d26 X G;obtain⟨_,F27,k27,m27,b27⟩:=d27 X G;obtain⟨_,F28,k28,m28,b28⟩:=d28 X G;obtain⟨_,F29,k29,m29,b29⟩:=d29 X G;obtain⟨_,F30,k30,m30,b30⟩:=d30 X G;obtain⟨_,F31,k31,m31,b31⟩:=d31 X G;obtain⟨_,F32,k32,m32,b32⟩:=d32 X G;obtain⟨_,F33,k33,m33,b33⟩:=d33 X G;obtain⟨_,F34,OU,m34,b34⟩:=d34 X G;obtain⟨_,F35,k35,m35,b35⟩:=d35 X G;obtain⟨_,F36,k36,m36,b36⟩:=d36 X G;have Zt:=kE (st:=tN) l37 c37 k37;have b37:=Zt.binds (ps:=["script"]) fun _ _ _ _ _ _ us hl=>by obtain⟨_,rfl⟩:=pk us hl;rfl
 have m37:=abN X G a37;have dh:=aa7 X G z1;have xM:=aa7 X G z2;have qA:=aa7 X G z3;have EA:=aa7 X G z4;have i0:=aa7 X G z5;have gy:=aa7 X G z6;have bu:=aa7 X G z7;have qC:=aa7 X G z8;have lQ:=aa7 X G z9;have bc:=aa7 X G z10;have gP:=aa7 X G z11;have Fe:=aa7 X G z12;have qL:=aa7 X G z13;have FX:=aa7 X G z14;have jc:=abN X G g_PARTS;have ik:=abN X G g_SLOW_WORDS;have oC:=abN X G g_WORTHS;have sD:=abN X G g_CELLS;have kU:=abN X G g_Resting;have oF:=abN X G g_NoBell;have xU:=abN X G g_Shut;have pf:=abN X G g_Holder;refine⟨PySem.W.fnOf "law" "law" (defArgs tN) (defBody tN) (defScope tN) .none SH SJ SM SF OI SN,fun s v=>.of_eq rfl,fun base _ _=>?_⟩;obtain⟨hR,hN,hS⟩:=h_Shut;have N:∀{k:Nat} {x:Str} {f:Addr} {fd:FuncData} {ps:List Str} {sp:Sp},ba l.prog w K mg base cU k f fd ps sp->Binds K fd ps []->PySem.W.keepIn K (.ref f)=true->mg x=some (.ref f)->Dn l.prog w K mg base k x f fd ps sp:=fun a b c d=>⟨a,b,c,d⟩;have NX:∀{k:Nat} {x:Str} {f:Addr} {fd:FuncData} {ps:List Str} {sp:Sp},ba l.prog w K mg base (vY l.prog w) k f fd ps sp->Binds K fd ps []->PySem.W.keepIn K (.ref f)=true->mg x=some (.ref f)->U7 l.prog w K mg base k x f fd ps sp:=fun a b c d=>⟨a,b,c,d⟩;have D1:=N (xR F1 oC) b1 k1 m1;have D2:=N (Bs F2 sD) b2 k2 m2;have D4:=N (IJ F4 jc h_PARTS.mt qC) b4 k4 m4;have D6:=N (NY F6 D1 D2) b6 k6 m6;have D7:=N (IK F7 D2 D4 D6) b7 k7 m7;have D8:=N (EW F8) b8 k8 m8;have D9:=N (EX F9) b9 k9 m9;have D10:=N (EY T4) b10 k10 WH;have D11:=N (Bt T5 bu) b11 k11 WI;have Zu:=N (EZ T8 bu) b14 k14 WL;have D15:=N (IL T9) b15 k15 WM;have D16:=NX (IM hR kU F16 Zu D7 D8 D15 D9 D10) (b16) k16 Y2;have D17:=NX (IP hN oF hS xU F17 D11) (b17) k17 m17;have D3:=N (Fd F3 jc h_PARTS.mt qC) b3 k3 m3;have D5:=N (IT F5 ik h_SLOW_WORDS) b5 k5 m5;have D12:=N (IU T6) b12 k12 WJ;have D13:=N (IV T7 D12 gP Fe) b13 k13 WK;have D18:=N (Ff F18) b18 k18 m18;have D19:=N (Js F19 h_Holder pf D16.calm D17.calm D18 D5 D13 Zu D3 D4 bu lQ i0) b19 k19 m19;have GI:=N (IB F21) b21 k21 m21;have Uc:=N (NR F22 GI bc) b22 k22 m22;have D23:=N (Ey F23 GI) b23 Mr m23;have D33:=N (Ez F33 dh gy bu EA xM qA) b33 k33 m33;have D24:=N (FR F24 GI bc) b24 k24 m24;have D25:=N (vJ F25) b25 k25 m25;have D26:=N (ym F26 GI qA) b26 k26 m26;have D27:=N (Jp F27 GI bc bu FX gP) b27 k27 m27;have D28:=N (BS F28) b28 k28 m28;have D29:=N (Gb F29) b29 k29 m29;have D30:=N (Jq F30 GI Uc D29 bc bu qL) b30 k30 m30;have D31:=N (vL F31 GI Uc bc bu) b31 k31 m31;have D32:=N (FZ F32 bu qL) b32 k32 m32;have D34:=N (Gh F34 D19 D33 i0) b34 OU m34;have D35:=N (BV F35 GI D31 bc bu) b35 k35 m35;have D36:=N (FT F36 GI Uc bc) b36 k36 m36;exact OE Zt ⟨NO F20,b20,k20,m20⟩ GI Uc D23 D24 D36 D25 D26 D27 D28 D30 D35 D32 D34 bc gy bu
theorem walk{l:PySem.W.OpenLaw}{q:Program}{loose:List Str}{XP:(Str->Option Value)->Heap->Prop}{YP:World->Heap->Prop}{d:DefRec}{K:Params->PySem.W.Frag}(hn:l.most=some 63)(PY:d.params.defaults=[])
  (hY:∀(w:World) (h:Heap),YP w h->(K w.params).In h)
  (F:∀(w:World) (mg:Str->Option Value) (fa:Addr) (h:Heap),(K w.params).In h->h.Ns mainGlobals mg->mg d.name=some (.ref fa) ->
   ∃ fd:FuncData,(∀(s:Shared) (u:Value),BindsTo s fd ⟨[u],[]⟩ [("script",u)])/\∀ base:Heap,(K w.params).In base->base.Ns mainGlobals mg->ba l.prog w (K w.params) mg base cU 11 fa fd ["script"] (zD (K w.params))) :
  PySem.W.WalkO q loose XP YP l.row.toRowW d [] (fun f vs=>PySem.call f vs) :=
 L2.Hg (n:=63) (k:=11) (x := "script") (CX:=fun _=>cU) (sp:=fun w=>zD (K w.params)) hn (by decide) PY ⟨rfl,by decide,by decide⟩ hY F (fun _ _ a ns hl _ hS=>⟨a,ns,rfl,hS,hl,fun _=>rfl⟩) fun _ _ _ _ _ z=>z
end T1
open PySem PySem.W PyProof.Rows
set_option maxRecDepth 100000 in
set_option maxHeartbeats 0 in
theorem PySem.Challenge.cw_twomakes_k23_late_worths_holds : PySem.Challenge.rw_twomakes_k23_late_worths.Holds := by
 refine HD.look fun d hn dY=>T1.walk (l:=PySem.Challenge.rw_twomakes_k23_late_worths) rfl dY (fun w h Y=>PySem.W.kIn_of Y) ?F
 case F =>
  intro w mg fa h KX G PZ
  rw[hn] at PZ
  refine' T1.all_mk KX G PZ T1.bR T1.bR T1.bR T1.bR T1.bR T1.bR T1.bR T1.bR T1.bR T1.bR T1.bR T1.bR T1.bR T1.bR T1.bR T1.bR T1.bR T1.bR T1.bR T1.bR T1.bR T1.bR T1.bR T1.bR T1.bR T1.bR T1.bR T1.bR T1.bR T1.bR T1.bR T1.bR T1.bR T1.bR T1.bR T1.bR ?a37 ?l37 ?c37 ?k37 ?g_PARTS ?h_PARTS ?g_SLOW_WORDS ?h_SLOW_WORDS ?g_WORTHS ?g_CELLS ?g_Resting ?g_NoBell ?g_Shut ?h_Shut ?g_Holder ?h_Holder ?z1 ?z2 ?z3 ?z4 ?z5 ?z6 ?z7 ?z8 ?z9 ?z10 ?z11 ?z12 ?z13 ?z14
  (case a37=>k_is);(case l37=>k_is);(case c37=>k_is);(case k37=>k_is)
  (case z1=>k_is);(case z2=>k_is);(case z3=>k_is);(case z4=>k_is);(case z5=>k_is);(case z6=>k_is);(case z7=>k_is);(case z8=>k_is);(case z9=>k_is);(case z10=>k_is);(case z11=>k_is);(case z12=>k_is);(case z13=>k_is);(case z14=>k_is)
  (case g_PARTS=>k_is)
  case h_PARTS =>
   refine' T1.Gp ?lP ?ne ?e1 ?q1 ?e2 ?q2 ?e3 ?q3 ?e4 ?q4 ?e5 ?q5 ?e6 ?q6 ?e7 ?q7 ?e8 ?q8 ?e9 ?q9 ?e10 ?q10
   (case lP=>k_is)
   (case ne=>decide)
   (case e1=>rfl)
   (case q1=>(refine' T1.i6 ?t ?z ?v;(case t=>k_is);(case z=>decide);(case v=>exact .cons ⟨_,rfl⟩ (.cons ⟨_,rfl⟩ (.nil)))))
   (case e2=>rfl)
   (case q2=>(refine' T1.i6 ?t ?z ?v;(case t=>k_is);(case z=>decide);(case v=>exact .cons ⟨_,rfl⟩ (.cons ⟨_,rfl⟩ (.cons ⟨_,rfl⟩ (.nil))))))
   (case e3=>rfl)
   (case q3=>(refine' T1.i6 ?t ?z ?v;(case t=>k_is);(case z=>decide);(case v=>exact .cons ⟨_,rfl⟩ (.cons ⟨_,rfl⟩ (.cons ⟨_,rfl⟩ (.nil))))))
   (case e4=>rfl)
   (case q4=>(refine' T1.i6 ?t ?z ?v;(case t=>k_is);(case z=>decide);(case v=>exact .cons ⟨_,rfl⟩ (.cons ⟨_,rfl⟩ (.cons ⟨_,rfl⟩ (.nil))))))
   (case e5=>rfl)
   (case q5=>(refine' T1.i6 ?t ?z ?v;(case t=>k_is);(case z=>decide);(case v=>exact .cons ⟨_,rfl⟩ (.cons ⟨_,rfl⟩ (.cons ⟨_,rfl⟩ (.nil))))))
   (case e6=>rfl)
   (case q6=>(refine' T1.i6 ?t ?z ?v;(case t=>k_is);(case z=>decide);(case v=>exact .cons ⟨_,rfl⟩ (.cons ⟨_,rfl⟩ (.cons ⟨_,rfl⟩ (.nil))))))
   (case e7=>rfl)
   (case q7=>(refine' T1.i6 ?t ?z ?v;(case t=>k_is);(case z=>decide);(case v=>exact .cons ⟨_,rfl⟩ (.cons ⟨_,rfl⟩ (.nil)))))
   (case e8=>rfl)
   (case q8=>(refine' T1.i6 ?t ?z ?v;(case t=>k_is);(case z=>decide);(case v=>exact .nil)))
   (case e9=>rfl)
   (case q9=>(refine' T1.i6 ?t ?z ?v;(case t=>k_is);(case z=>decide);(case v=>exact .nil)))
   (case e10=>rfl)
   (case q10=>(refine' T1.i6 ?t ?z ?v;(case t=>k_is);(case z=>decide);(case v=>exact .nil)))
  (case g_SLOW_WORDS=>k_is)
  case h_SLOW_WORDS =>
   (refine' T1.i6 ?t ?z ?v;(case t=>k_is);(case z=>decide);(case v=>exact .cons ⟨_,rfl⟩ (.cons ⟨_,rfl⟩ .nil)))
  (case g_WORTHS=>k_is)
  (case g_CELLS=>k_is)
  (case g_Resting=>k_is)
  (case g_NoBell=>k_is)
  (case g_Shut=>k_is)
  case h_Shut =>
   refine' (And.intro (T1.tQ ?u_q0) (And.intro (T1.tQ ?u_q1) (T1.tQ ?u_q2)))
   (case u_q0=>first | kernel_rfl | rfl)
   (case u_q1=>first | kernel_rfl | rfl)
   (case u_q2=>first | kernel_rfl | rfl)
  (case g_Holder=>k_is)
  case h_Holder =>
   refine' T1.tJ.mk (T1.Jr ?H_pg ?H_hd ?H_po ?H_sa ?H_na) (T1.Oy ?H_im ?H_ia ?H_il ?H_ic ?H_ik ?H_in ?H_iv) T1.gf T1.gf T1.gf T1.gf T1.gf T1.gf T1.gf T1.gf T1.gf T1.gf T1.gf T1.gf T1.gf T1.gf T1.gf
   (case H_pg=>first | kernel_rfl | k_is)
   (case H_hd=>first | kernel_rfl | k_is)
   (case H_po=>first | kernel_rfl | k_is)
   (case H_sa=>first | k_is | kernel_rfl)
   (case H_na=>(refine' ⟨?_,?_,?_,?_,?_,?_,?_,?_,?_,?_,?_,?_,?_,?_,?_,?_,?_,?_,trivial⟩<;>(show PySem.W.findIn _ _ _=some none;first | k_is | kernel_rfl)))
   (case H_im=>first | kernel_rfl | k_is)
   (case H_ia=>k_is)
   (case H_il=>k_is)
   (case H_ic=>k_is)
   (case H_ik=>k_is)
   (case H_in=>first | k_is | kernel_rfl)
   (case H_iv=>k_is)
