import PyProof.Rows.All
import Wide.FinOn
import KE.KStrOpen
import KE.KFromBytes
import KE.KMinKey
import KE.KTryMore
import KE.KDictLaws
import KE.KRevSl
import KE.KRevIter
import KE.KIntText
import KE.KxWritten
import KE.KDictOf
import Lean
import PyProof.EqAt
import PyProof.EqKinds
import PyProof.TupleCall
import PyProof.ZipIter
import PyProof.EnumMake
import KE.KDictAnyGet
import PySem.Challenge.RW_twomakes_k27_whole_any_diary
set_option compiler.extract_closed false
local macro_rules | `(tactic| omega) => `(tactic| first | decide +kernel | exact Nat.le_trans (by repeat (first | assumption | refine Nat.add_le_add_right ?_ _)) (by decide +kernel) | omega (config:={}))
set_option Elab.async false
set_option linter.all false
set_option maxRecDepth 100000
theorem rz0(h:True:=by rfl):True:=h
abbrev ra0:=@rz0._auto_1
theorem rz1(h:True:=by decide):True:=h
abbrev ra1:=@rz1._auto_1
theorem rz2(h:True:=by with_unfolding_all rfl):True:=h
abbrev ra2:=@rz2._auto_1
theorem rz3(h:True:=by intro _;rfl):True:=h
abbrev ra3:=@rz3._auto_1
theorem rz4(h:True:=by first | exact .inl rfl | exact .inr rfl | assumption):True:=h
abbrev ra4:=@rz4._auto_1
theorem rz5(h:True:=by intro _ _ _ _;rfl):True:=h
abbrev ra5:=@rz5._auto_1
theorem rz6(h:True:=by k_is):True:=h
abbrev ra6:=@rz6._auto_1
theorem rz7(h:True:=by first | exact aao _ | decide | omega):True:=h
abbrev ra7:=@rz7._auto_1
theorem rz8(h:True:=by exact fun _ _=>rfl):True:=h
abbrev ra8:=@rz8._auto_1
theorem rz9(h:True:=by simp):True:=h
abbrev ra9:=@rz9._auto_1
theorem rz10(h:True:=by decide +kernel):True:=h
abbrev ra10:=@rz10._auto_1
abbrev zn:=PySem.W.Frag
abbrev yp:=List (PySem.Addr×PySem.Obj)
abbrev xz:=PySem.Value->PySem.Shared->Prop
abbrev xL:=PySem.Str->Option PySem.Value
abbrev wf:=List PySem.Value
abbrev wn:=List Int
abbrev wv:=List PySem.Str
abbrev ww:=List PySem.Addr
abbrev wE:=List PySem.PyData
abbrev wP:=Option PySem.Value
abbrev wS:=Option PySem.Addr
abbrev wT:=PySem.FuncData
abbrev v0:=Option Int
abbrev v6:=List PySem.Expr
abbrev ul:=List PySem.Stmt
abbrev ut:=List (Int×Int)
abbrev u8:=PySem.Program
abbrev tx:=PySem.Around
abbrev aaj:=@PySem.wpAny_bind
abbrev aak:=@List.length_map
abbrev aal:=@PySem.Heap.get?_push_of_some
abbrev aam:=@PySem.wpAny_pure
abbrev aan:=@List.mem_cons
abbrev aao:=@Nat.le_refl
abbrev aap:=@List.getElem?_map
abbrev aaq:=@Nat.le_trans
abbrev aar:=@PySem.Heap.lt_size
abbrev aas:=@List.getElem?_eq_some_iff
abbrev aat:=@decide_eq_false
abbrev aau:=@PySem.Heap.get?_push_size
abbrev aav:=@Bool.false_ne_true
abbrev aaw:=@Option.map_eq_some_iff
abbrev aax:=@List.mem_cons_of_mem
abbrev aay:=@List.size_toArray
abbrev aaz:=@List.map_cons
abbrev aaA:=@if_neg
abbrev aaB:=@PySem.W.Fast.te14364793385576792824
abbrev aaC:=@Bool.and_eq_true
abbrev aaD:=@Nat.lt_of_lt_of_le
abbrev aaE:=@if_pos
abbrev aaF:=@List.mem_cons_self
abbrev aaG:=@List.getElem?_eq_getElem
abbrev aaH:=@Nat.le_of_lt
abbrev aaI:=@List.mem_append_right
abbrev aaJ:=@PySem.F.plainAttrs_list
abbrev aaK:=@Nat.zero_le
abbrev aaL:=@PySem.W.Fast.te10110043849684766642
abbrev aaM:=@List.take_add_one
abbrev aaN:=@Nat.le_succ_of_le
abbrev aaO:=@Nat.ne_of_lt
abbrev aaP:=@Array.length_toList
abbrev aaQ:=@List.length_append
abbrev aaR:=@List.length_cons
abbrev aaS:=@PySem.F.slot_list_append
abbrev aaT:=@PySem.F.type_list_append
abbrev aaU:=@PySem.boot_len
abbrev aaV:=@Option.some.inj
abbrev aaW:=@PySem.Heap.SameBut.update
abbrev aaX:=@List.all_cons
abbrev aaY:=@Int.toNat_natCast
abbrev aaZ:=@List.lookup_cons
abbrev aa0:=@PySem.W.mg_none_of
abbrev aa1:=@Nat.lt_irrefl
abbrev aa2:=@List.take_length
abbrev aa3:=@PySem.Obj.data_mapFields
abbrev aa4:=@List.filter_append
abbrev aa5:=@PyProof.Rows.slot_tuple_getitem
abbrev aa6:=@decide_eq_true
abbrev aa7:=@PySem.Heap.get?_update_self
abbrev aa8:=@List.mem_map
abbrev aa9:=@PySem.wpAny_callSpecial?_slot
abbrev aba:=@PySem.Heap.size_push
abbrev abb:=@PySem.wpAny_newObj_type
abbrev abc:=@PySem.wpAny_holding
abbrev abd:=@List.mem_singleton
abbrev abe:=@PySem.wpAny_call_entry
abbrev abf:=@List.not_mem_nil
abbrev abg:=@List.mem_filter
abbrev abh:=@PySem.W.kia_one
abbrev abi:=@List.getElem?_zip_eq_some
abbrev abj:=@Array.getElem?_eq_getElem
abbrev abk:=@List.length_take
abbrev abl:=@List.any_cons
abbrev abm:=@List.all_eq_true
abbrev abn:=@Option.isSome_iff_exists
abbrev abo:=@List.mem_append
abbrev abp:=@List.find?_cons
abbrev abq:=@PySem.wpAny_field
abbrev abr:=@PySem.wpAny_ite_split
abbrev abt:=@Int.emod_lt_of_pos
abbrev abu:=@PyProof.Rows.boot_tuple
abbrev abv:=@PySem.wpAny_mono
abbrev abw:=@List.mem_of_getElem?
abbrev abx:=@List.getD_eq_getElem?_getD
abbrev aby:=@PyProof.Rows.boot_list
abbrev abz:=@PySem.wpAny_truthy_bool
abbrev abA:=@PySem.wpAny_pyIter_list
abbrev abB:=@Nat.le_succ
abbrev abC:=@List.replicate_succ
abbrev abD:=@PySem.W.mg_of
abbrev abE:=@List.length_drop
abbrev abF:=@List.getElem_mem
abbrev abG:=@List.length_eq_zero_iff
abbrev abH:=@PyProof.Rows.F.plain_set_update_loop
abbrev abI:=@PyProof.Rows.callWith_type1
abbrev abJ:=@Int.emod_nonneg
abbrev abK:=@congrArg
abbrev abL:=@List.take_of_length_le
abbrev abM:=@PySem.F.slot_tuple_iterator_next
abbrev abN:=@Nat.lt_succ_self
abbrev abO:=@Nat.ne_of_gt
abbrev abP:=@PySem.wpAny_Call_Name_kw
abbrev abQ:=@Array.getElem?_toList
abbrev abR:=@PySem.Obj.isFreed_of_fields
abbrev abS:=@PySem.wpAny_setField_rec
abbrev abT:=@PyProof.Rows.boot_int
abbrev abU:=@PySem.wpAny_seqItems
abbrev abV:=@PySem.wpAny_setField
abbrev abW:=@List.pairwise_iff_getElem
abbrev abX:=@PySem.Around.under_plainId
abbrev abY:=@Array.getElem_toList
abbrev abZ:=@PySem.wpAny_passesOwn
abbrev ab0:=@List.append_nil
abbrev ab1:=@List.length_nil
abbrev ab2:=@List.flatten_cons
abbrev ab3:=@List.map_append
abbrev ab4:=@beq_eq_false_iff_ne
abbrev ab5:=@PySem.mem_of_lookup
abbrev ab6:=@beq_iff_eq
abbrev ab7:=@PySem.Heap.get?_update_other
abbrev ab8:=@Nat.le_of_eq
abbrev ab9:=@PySem.codeAny_mono
abbrev aca:=@List.nodup_cons
abbrev acb:=@PySem.codeAny_builtin
abbrev acd:=@List.length_filter_le
abbrev ace:=@PySem.W.looks_pair
abbrev acf:=@Ne.symm
abbrev acg:=@List.mem_append_left
abbrev ach:=@PySem.F.args_object_init_3
abbrev aci:=@List.mem_iff_getElem
abbrev acj:=@Decidable.of_not_not
abbrev ack:=@PyProof.Rows.F.entry_set_update_loop
abbrev acm:=@List.filterMap_cons
abbrev acn:=@List.map_nil
abbrev aco:=@PySem.F.args_tuple_add_2
abbrev acp:=@PySem.wpAny_rule
abbrev acq:=@PySem.W.Fast.te5923862056798008813
abbrev acr:=@Bool.eq_iff_iff
abbrev acs:=@PySem.F.entry_tuple_add
abbrev acu:=@if_true
abbrev acv:=@Nat.lt_of_le_of_lt
abbrev acw:=@PySem.wpAny_pyIter_tuple
abbrev acx:=@Bool.false_eq_true
abbrev acy:=@List.pairwise_cons
abbrev acz:=@PySem.F.slot_tuple_add
abbrev acA:=@List.filter_eq_nil_iff
abbrev acB:=@PySem.Obj.cls_mapFields
abbrev acC:=@or_false
abbrev acD:=@List.Perm.refl
abbrev acE:=@List.length_replicate
abbrev acF:=@PyProof.Rows.callWith_builtin1
abbrev acG:=@List.map_map
abbrev acH:=@Nat.succ.inj
abbrev acI:=@Nat.min_le_right
abbrev acJ:=@PySem.F.typeCall_zip_2
abbrev acK:=@List.getElem_map
abbrev acL:=@PySem.wpAny_updateSeq_pair
abbrev acM:=@PySem.plainId_quiet
abbrev acN:=@PySem.wpAny_execs_nil
abbrev acO:=@PySem.W.plainGet_of
abbrev acP:=@PySem.F.slot_zip_next
abbrev acQ:=@PySem.F.newCall_zip_2
abbrev acR:=@PySem.F.entry_zip_new
abbrev acS:=@List.filter_sublist
abbrev acT:=@List.length_pos_iff
abbrev acU:=@List.mem_filterMap
abbrev acV:=@PySem.Calls.spliced_cons
abbrev acW:=@PySem.W.callWith_K
abbrev acX:=@PySem.wpAny_typeOf
abbrev acY:=@PySem.F.slot_dict_getitem
abbrev acZ:=@List.drop_eq_getElem_cons
abbrev ac0:=@List.mem_or_eq_of_mem_set
abbrev ac1:=@PySem.F.plain_extend_loop
abbrev ac2:=@PySem.Calls.spliced_nil
abbrev ac3:=@List.append_assoc
abbrev ac4:=@Nat.lt_succ_of_lt
abbrev ac5:=@PySem.F.slot_dict_update
abbrev ac6:=@List.find?_append
abbrev ac7:=@Decidable.not_not
abbrev ac8:=@PySem.W.piece_app
abbrev ac9:=@PySem.W.segRun_of
abbrev ada:=@PySem.wpAny_standAt
abbrev adb:=@if_false
abbrev ade:=@PySem.wpAny_onRaise
abbrev adf:=@PySem.wpAny_attempt
abbrev adg:=@beq_self_eq_true
abbrev adh:=@List.getElem_set
abbrev adi:=@List.ext_getElem
abbrev adj:=@List.of_mem_zip
abbrev adk:=@List.length_set
abbrev adl:=@List.nil_append
abbrev adm:=@List.forIn_cons
abbrev adn:=@PySem.callType_new
abbrev ado:=@PySem.F.called_zip
abbrev adp:=@List.length_zip
abbrev adq:=@List.map_set
abbrev ads:=@PySem.call_meets
abbrev adt:=@PySem.intKind_is
abbrev adu:=@List.forIn_nil
abbrev adv:=@Int.le_refl
namespace L2
open PySem
def defArgs(s:Stmt):Arguments:=match s with
 | .FunctionDef _ a _ _ _ _ _ _ _ _=>a
 | _=>{ posonlyargs:=[],args:=[],vararg:=none,kwonlyargs:=[],kw_defaults:=[],kwarg:=none,defaults:=[] }
def defBody(s:Stmt):List Stmt:=match s with
 | .FunctionDef _ _ b _ _ _ _ _ _ _=>b
 | _=>[]
def defScope(s:Stmt):Scope:=match s with
 | .FunctionDef _ _ _ _ _ _ sc _ _ _=>sc
 | _=>{ kind:=.function,names:=[],isGenerator:=false,isCoroutine:=false }
end L2
namespace T1
open PySem
def top(i:Nat):Stmt:=PySem.Challenge.pw_twomakes_k27_whole_any_diary.main.body.getD i (.Pass ⟨0,0,0,0⟩)
def Yl:ul->Nat->Stmt
 | x::_,0=>x
 | _::r,n+1=>Yl r n
 | [],_=>.Pass ⟨0,0,0,0⟩
def met(j i:Nat):Stmt:=match top j with
 | .ClassDef _ _ _ b _ _ _ _ _ _ _=>Yl b i
 | x=>x
end T1
section
open PySem PySem.W
namespace HD
open L2 T1 PySem.W.Fast
abbrev O:=Params->Obj
noncomputable def evn:List O->List O
 | a::_::r=>a::evn r
 | x=>x
noncomputable def bt(P:Params):Nat->List O->BT
 | k+1,f::r=>.node (f P) (bt P k (evn r)) (bt P k (evn (r.drop 1)))
 | _,_=>.nil
def i(n:Int):Value:=.int n 0
def r(n:Nat):Value:=.ref n
def e(P:Params)(x:Str)(t:Nat)(v:Value):DictEntry:=⟨PyData.keyHash P x,.str x t,v⟩
noncomputable def fn(n q:Str)(s:Stmt)(g:Nat)(d m c:Value):FuncData:=⟨n,q,defArgs s,.stmts (defBody s),defScope s,g,[],d,.none,.none,m,none,c,.none,0⟩
noncomputable def fo(n q:Str)(s:Stmt)(g:Nat)(d m c:Value):Obj:=⟨.type "function",none,.func (fn n q s g d m c),#[]⟩
noncomputable def fz(n q:Str)(s:Stmt):Obj:=⟨.none,none,.func (fn n q s 0 .none .none .none),#[]⟩
def tu(l:Array Value):Obj:=⟨.type "tuple",none,.seq l 0,#[]⟩
noncomputable def co(n q:Str)(t u:Nat)(l:List Value):Obj:=⟨.type "code",none,.fields (.str n t::.str q (t+1)::.str "/claim/cut.py" (t+2)::(l++[.str "/claim/cut.py" u])).toArray,#[]⟩
def mo0:Value:=.str "__main__" 164
def mo1:Value:=.str "twomakes.mills" 262
def mo2:Value:=.str "twomakes.rules" 352
def mo3:Value:=.str "twomakes.plain" 422
def mo4:Value:=.str "twomakes.things" 466
def mo5:Value:=.str "twomakes.holder" 475
def mo6:Value:=.str "law_twomakes_k27_whole_any_diary" 713
section
local macro_rules
 | `(#synth $n:num [$xs,*])=>do
  let w (k:Nat):Lean.Term:=Lean.quote k
  let mut ys:Array Lean.Term:=#[]
  for x in xs.getElems do
   match x with
   | `(($q:str,$s,[$as,*],$t:num,$l,$a,$f,$b:num,$m)) =>
    let n:Lean.Term:=Lean.quote ((q.getString.splitOn ".").getLast!)
    let T:=t.getNat
    let B:=b.getNat
    let z:=as.getElems
    let k:=z.size
    if k > 0 then
     let g <- z.mapIdxM fun j y=>`(.str $y $(w (T+3+j)))
     ys:=ys.push (<- `(tu #[$g,*]))
    ys:=ys.push (<- `(fz $n $q ($s)))
    let g <- if k > 0 then `([r $(w (B+2)),r $(w (B+3)),r $(w (B+4))])else `([.none,.none,r $(w (B+2))])
    ys:=ys.push (<- `(co $n $q $t $(w (T+4+k)) ([i $l,i $a,i 0,i 0,i $f,r $b,.bool true,i 181,r $(w (B+1)),.none]++$g++[i $(w (T+3+k)),i $l])))
    ys:=ys.push (<- `(fo $n $q ($s) 3 .none $m (r $(w (if k > 0 then B+5 else B+3)))))
   | _=>ys:=ys.push x
  let c <- ys.mapIdxM fun j x=>`(noncomputable def $(Lean.mkIdent (.mkSimple s!"a{n.getNat + j}")):ident:=((fun $(Lean.mkIdent `P)=>$x):O))
  return Lean.mkNullNode c
#synth 11 [tu #[],
⟨.none,none,.fields #[],#[]⟩,
co "<module>" "<module>" 182 186 [i 1,i 0,i 0,i 0,i 0,r 11,.bool false,i 181,r 12,.none,.none,.none,.none,i 185,i 1],
⟨.type "frame",none,.plain,#[some (r 13),some (r 3),some (r 3),none,some mo0,none,some (r 0)]⟩,
⟨.type "dict",none,.dict #[e P "__name__" 165 (.str "twomakes.errors" 194),e P "__doc__" 166 .none,e P "__package__" 167 .none,e P "__loader__" 168 (.builtin "__main__.__loader__#opaque"),e P "__spec__" 169 .none,e P "__annotations__" 170 (r 6),e P "__builtins__" 171 (r 4),e P "__file__" 173 (.str "/claim/cut.py" 172),e P "__cached__" 174 .none,e P "_wall" 193 (r 21),e P "MakeError" 213 (r 31),e P "Resting" 229 (r 44)] 12,#[]⟩,
⟨.none,none,.fields #[i 1,i 0,r 20,i 5,i 0,r 27,i 7,i 0,r 40],#[]⟩,
("_wall",top 0,["k"],187,1,1,3,15,mo0),
tu #[.type "ValueError"],
⟨.type "builtin_function_or_method",none,.fields #[.builtin "type.__prepare__",.type "type"],#[]⟩,
⟨.type "dict",none,.dict #[e P "__module__" 203 (.str "twomakes.errors" 194),e P "__qualname__" 205 (.str "MakeError" 204),e P "__firstlineno__" 207 (.int 5 206),e P "__static_attributes__" 208 (r 29)] 4,#[]⟩,
co "MakeError" "MakeError" 198 202 [i 5,i 0,i 0,i 0,i 0,r 25,.bool false,i 181,r 26,.none,.none,.none,.none,i 201,i 5],
⟨.type "frame",none,.plain,#[some (r 27),some (r 3),some (r 24),none,some (.str "twomakes.errors" 194),none,some (r 0)]⟩,
⟨.type "dict",none,.dict #[e P "__module__" 203 (.str "twomakes.errors" 194),e P "__firstlineno__" 207 (.int 5 206),e P "__static_attributes__" 208 (r 29),e P "__weakref__" 210 (r 32),e P "__doc__" 211 .none] 3,#[]⟩,
⟨.type "type",none,.cls ⟨"MakeError",[.type "ValueError"],[r 31,.type "ValueError",.type "Exception",.type "BaseException",.type "object"],30, "MakeError",true,[],[r 44],false,none,false⟩,#[some (r 22),none,some (.str "MakeError" 196),some (.str "MakeError" 204),some (.builtin "ValueError.__new__"),some (.bool true)]⟩,
⟨.type "getset_descriptor",none,.fields #[.str "__weakref__" 209,r 31,.builtin "ExceptionGroup.__weakref__",.none],#[]⟩,
⟨.type "super",none,.fields #[r 31,r 31,r 31],#[]⟩,
⟨.type "builtin_function_or_method",none,.fields #[.builtin "object.__init_subclass__",r 31],#[]⟩,
tu #[r 31],
⟨.type "dict",none,.dict #[e P "__module__" 221 (.str "twomakes.errors" 194),e P "__qualname__" 223 (.str "Resting" 222),e P "__firstlineno__" 225 (.int 7 224),e P "__static_attributes__" 226 (r 42)] 4,#[]⟩,
co "Resting" "Resting" 216 220 [i 7,i 0,i 0,i 0,i 0,r 38,.bool false,i 181,r 39,.none,.none,.none,.none,i 219,i 7],
⟨.type "frame",none,.plain,#[some (r 40),some (r 3),some (r 37),none,some (.str "twomakes.errors" 194),none,some (r 0)]⟩,
⟨.type "dict",none,.dict #[e P "__module__" 221 (.str "twomakes.errors" 194),e P "__firstlineno__" 225 (.int 7 224),e P "__static_attributes__" 226 (r 42),e P "__doc__" 227 .none] 2,#[]⟩,
⟨.type "type",none,.cls ⟨"Resting",[r 31],[r 44,r 31,.type "ValueError",.type "Exception",.type "BaseException",.type "object"],43, "Resting",true,[],[],false,none,false⟩,#[some (r 35),none,some (.str "Resting" 214),some (.str "Resting" 222),some (.builtin "ValueError.__new__"),some (.bool true)]⟩,
⟨.type "super",none,.fields #[r 44,r 44,r 44],#[]⟩,
⟨.type "builtin_function_or_method",none,.fields #[.builtin "object.__init_subclass__",r 44],#[]⟩,
⟨.type "dict",none,.dict #[e P "__name__" 165 mo1,e P "__doc__" 166 .none,e P "__package__" 167 .none,e P "__loader__" 168 (.builtin "__main__.__loader__#opaque"),e P "__spec__" 169 .none,e P "__annotations__" 170 (r 6),e P "__builtins__" 171 (r 4),e P "__file__" 173 (.str "/claim/cut.py" 172),e P "__cached__" 174 .none,e P "_wall" 193 (r 21),e P "MakeError" 213 (r 31),e P "Resting" 229 (r 44),e P "NoBell" 245 (r 56),e P "Shut" 261 (r 68),e P "CELLS" 265 (.int 16 264),e P "WORTHS" 267 (.int 4294967296 266)] 16,#[]⟩,
⟨.none,none,.fields #[i 1,i 0,r 20,i 5,i 0,r 27,i 7,i 0,r 40,i 9,i 0,r 52,i 11,i 0,r 64],#[]⟩,
⟨.type "type",none,.cls ⟨"MakeError",[.type "ValueError"],[r 31,.type "ValueError",.type "Exception",.type "BaseException",.type "object"],30, "MakeError",true,[],[r 44,r 56,r 68],false,none,false⟩,#[some (r 22),none,some (.str "MakeError" 196),some (.str "MakeError" 204),some (.builtin "ValueError.__new__"),some (.bool true)]⟩,
⟨.type "dict",none,.dict #[e P "__module__" 237 (.str "twomakes.errors" 194),e P "__qualname__" 239 (.str "NoBell" 238),e P "__firstlineno__" 241 (.int 9 240),e P "__static_attributes__" 242 (r 54)] 4,#[]⟩,
co "NoBell" "NoBell" 232 236 [i 9,i 0,i 0,i 0,i 0,r 50,.bool false,i 181,r 51,.none,.none,.none,.none,i 235,i 9],
⟨.type "frame",none,.plain,#[some (r 52),some (r 3),some (r 49),none,some (.str "twomakes.errors" 194),none,some (r 0)]⟩,
⟨.type "dict",none,.dict #[e P "__module__" 237 (.str "twomakes.errors" 194),e P "__firstlineno__" 241 (.int 9 240),e P "__static_attributes__" 242 (r 54),e P "__doc__" 243 .none] 2,#[]⟩,
⟨.type "type",none,.cls ⟨"NoBell",[r 31],[r 56,r 31,.type "ValueError",.type "Exception",.type "BaseException",.type "object"],55, "NoBell",true,[],[],false,none,false⟩,#[some (r 47),none,some (.str "NoBell" 230),some (.str "NoBell" 238),some (.builtin "ValueError.__new__"),some (.bool true)]⟩,
⟨.type "super",none,.fields #[r 56,r 56,r 56],#[]⟩,
⟨.type "builtin_function_or_method",none,.fields #[.builtin "object.__init_subclass__",r 56],#[]⟩,
⟨.type "dict",none,.dict #[e P "__module__" 253 (.str "twomakes.errors" 194),e P "__qualname__" 255 (.str "Shut" 254),e P "__firstlineno__" 257 (.int 11 256),e P "__static_attributes__" 258 (r 66)] 4,#[]⟩,
co "Shut" "Shut" 248 252 [i 11,i 0,i 0,i 0,i 0,r 62,.bool false,i 181,r 63,.none,.none,.none,.none,i 251,i 11],
⟨.type "frame",none,.plain,#[some (r 64),some (r 3),some (r 61),none,some (.str "twomakes.errors" 194),none,some (r 0)]⟩,
⟨.type "dict",none,.dict #[e P "__module__" 253 (.str "twomakes.errors" 194),e P "__firstlineno__" 257 (.int 11 256),e P "__static_attributes__" 258 (r 66),e P "__doc__" 259 .none] 2,#[]⟩,
⟨.type "type",none,.cls ⟨"Shut",[r 31],[r 68,r 31,.type "ValueError",.type "Exception",.type "BaseException",.type "object"],67, "Shut",true,[],[],false,none,false⟩,#[some (r 59),none,some (.str "Shut" 246),some (.str "Shut" 254),some (.builtin "ValueError.__new__"),some (.bool true)]⟩,
⟨.type "super",none,.fields #[r 68,r 68,r 68],#[]⟩,
⟨.type "builtin_function_or_method",none,.fields #[.builtin "object.__init_subclass__",r 68],#[]⟩,
⟨.type "dict",none,.dict #[e P "__name__" 165 mo2,e P "__doc__" 166 .none,e P "__package__" 167 .none,e P "__loader__" 168 (.builtin "__main__.__loader__#opaque"),e P "__spec__" 169 .none,e P "__annotations__" 170 (r 6),e P "__builtins__" 171 (r 4),e P "__file__" 173 (.str "/claim/cut.py" 172),e P "__cached__" 174 .none,e P "_wall" 193 (r 21),e P "MakeError" 213 (r 31),e P "Resting" 229 (r 44),e P "NoBell" 245 (r 56),e P "Shut" 261 (r 68),e P "CELLS" 265 (.int 16 264),e P "WORTHS" 267 (.int 4294967296 266),e P "PARTS" 307 (r 71),e P "SLOW_WORDS" 310 (r 82),e P "wrapped" 317 (r 89),e P "cell_at" 325 (r 96),e P "spots_read" 335 (r 103),e P "spot_written" 344 (r 110),e P "is_slow" 351 (r 117),e P "worth_got" 365 (r 124),e P "what_it_writes" 375 (r 131),e P "place_behind" 385 (r 138),e P "is_shut_behind" 393 (r 145)] 27,#[]⟩,
⟨.none,none,.fields #[i 1,i 0,r 20,i 5,i 0,r 27,i 7,i 0,r 40,i 9,i 0,r 52,i 11,i 0,r 64,i 18,i 0,r 88,i 20,i 0,r 95,i 22,i 0,r 102,i 28,i 0,r 109,i 33,i 0,r 116,i 36,i 0,r 123,i 49,i 0,r 130,i 56,i 0,r 137,i 62,i 0,r 144],#[]⟩,
⟨.type "dict",none,.dict #[e P "put" 268 (r 72),e P "sum" 271 (r 73),e P "mul" 275 (r 74),e P "less" 279 (r 75),e P "take" 283 (r 76),e P "lay" 287 (r 77),e P "go" 291 (r 78),e P "shut" 294 (r 79),e P "open" 295 (r 80),e P "home" 296 (r 81)] 10,#[]⟩,
tu #[.str "d" 269,.str "worth" 270],
tu #[.str "d" 272,.str "a" 273,.str "b" 274],
tu #[.str "d" 276,.str "a" 277,.str "b" 278],
tu #[.str "d" 280,.str "a" 281,.str "b" 282],
tu #[.str "d" 284,.str "a" 285,.str "n" 286],
tu #[.str "b" 288,.str "a" 289,.str "n" 290],
tu #[.str "a" 292,.str "p" 293],
tu #[.str "mul" 308,.str "take" 309],
("wrapped",top 11,["number"],311,18,1,3,83,mo1),
("cell_at",top 12,["worth", "n"],318,20,2,3,90,mo1),
("spots_read",top 13,["row", "spots", "part", "number"],326,22,1,3,97,mo1),
("spot_written",top 14,["row", "part", "number"],336,28,1,3,104,mo1),
("is_slow",top 15,["row"],345,33,1,3,111,mo1),
("worth_got",top 17,["row", "spots", "cells", "word", "one", "other"],354,36,3,3,118,mo2),
("what_it_writes",top 18,["row", "spots", "cells", "spot"],366,49,3,3,125,mo2),
("place_behind",top 19,["row", "place", "spots", "kept"],376,56,4,3,132,mo2),
("is_shut_behind",top 20,["row", "shut"],386,62,2,3,139,mo2),
⟨.type "dict",none,.dict #[e P "__name__" 165 mo5,e P "__doc__" 166 .none,e P "__package__" 167 .none,e P "__loader__" 168 (.builtin "__main__.__loader__#opaque"),e P "__spec__" 169 .none,e P "__annotations__" 170 (r 6),e P "__builtins__" 171 (r 4),e P "__file__" 173 (.str "/claim/cut.py" 172),e P "__cached__" 174 .none,e P "_wall" 193 (r 21),e P "MakeError" 213 (r 31),e P "Resting" 229 (r 44),e P "NoBell" 245 (r 56),e P "Shut" 261 (r 68),e P "CELLS" 265 (.int 16 264),e P "WORTHS" 267 (.int 4294967296 266),e P "PARTS" 307 (r 71),e P "SLOW_WORDS" 310 (r 82),e P "wrapped" 317 (r 89),e P "cell_at" 325 (r 96),e P "spots_read" 335 (r 103),e P "spot_written" 344 (r 110),e P "is_slow" 351 (r 117),e P "worth_got" 365 (r 124),e P "what_it_writes" 375 (r 131),e P "place_behind" 385 (r 138),e P "is_shut_behind" 393 (r 145),e P "kept_behind" 401 (r 152),e P "is_bell" 409 (r 159),e P "bells_rung" 415 (r 164),e P "bells_waiting" 421 (r 169),e P "rests" 431 (r 176),e P "with_written" 441 (r 183),e P "step" 456 (r 190),e P "bell" 465 (r 197),e P "thing_of" 474 (r 204)] 36,#[]⟩,
⟨.none,none,.fields #[i 1,i 0,r 20,i 5,i 0,r 27,i 7,i 0,r 40,i 9,i 0,r 52,i 11,i 0,r 64,i 18,i 0,r 88,i 20,i 0,r 95,i 22,i 0,r 102,i 28,i 0,r 109,i 33,i 0,r 116,i 36,i 0,r 123,i 49,i 0,r 130,i 56,i 0,r 137,i 62,i 0,r 144,i 68,i 0,r 151,i 70,i 0,r 158,i 72,i 0,r 163,i 74,i 0,r 168,i 78,i 0,r 175,i 80,i 0,r 182,i 85,i 0,r 189,i 96,i 0,r 196,i 103,i 0,r 203],#[]⟩,
("kept_behind",top 21,["row", "kept"],394,68,2,3,146,mo2),
("is_bell",top 22,["mill", "k"],402,70,2,3,153,mo2),
("bells_rung",top 23,[],410,72,2,3,160,mo2),
("bells_waiting",top 24,[],416,74,3,3,165,mo2),
("rests",top 26,["mill", "state"],424,78,2,3,170,mo3),
("with_written",top 27,["worths", "kind", "wrote", "at"],432,80,3,3,177,mo3),
("step",top 28,["mill", "state", "place", "spots", "cells", "kept", "row", "wrote", "behind"],442,85,2,3,184,mo3),
("bell",top 29,["mill", "state", "k"],457,96,3,3,191,mo3),
("thing_of",top 31,["wrote"],468,103,1,3,198,mo4),
⟨.type "dict",none,.dict #[e P "__name__" 165 mo5,e P "__doc__" 166 .none,e P "__package__" 167 .none,e P "__loader__" 168 (.builtin "__main__.__loader__#opaque"),e P "__spec__" 169 .none,e P "__annotations__" 170 (r 6),e P "__builtins__" 171 (r 4),e P "__file__" 173 (.str "/claim/cut.py" 172),e P "__cached__" 174 .none,e P "_wall" 193 (r 21),e P "MakeError" 213 (r 31),e P "Resting" 229 (r 44),e P "NoBell" 245 (r 56),e P "Shut" 261 (r 68),e P "CELLS" 265 (.int 16 264),e P "WORTHS" 267 (.int 4294967296 266),e P "PARTS" 307 (r 71),e P "SLOW_WORDS" 310 (r 82),e P "wrapped" 317 (r 89),e P "cell_at" 325 (r 96),e P "spots_read" 335 (r 103),e P "spot_written" 344 (r 110),e P "is_slow" 351 (r 117),e P "worth_got" 365 (r 124),e P "what_it_writes" 375 (r 131),e P "place_behind" 385 (r 138),e P "is_shut_behind" 393 (r 145),e P "kept_behind" 401 (r 152),e P "is_bell" 409 (r 159),e P "bells_rung" 415 (r 164),e P "bells_waiting" 421 (r 169),e P "rests" 431 (r 176),e P "with_written" 441 (r 183),e P "step" 456 (r 190),e P "bell" 465 (r 197),e P "thing_of" 474 (r 204),e P "Holder" 699 (r 374)] 37,#[]⟩,
⟨.none,none,.fields #[i 1,i 0,r 20,i 5,i 0,r 27,i 7,i 0,r 40,i 9,i 0,r 52,i 11,i 0,r 64,i 18,i 0,r 88,i 20,i 0,r 95,i 22,i 0,r 102,i 28,i 0,r 109,i 33,i 0,r 116,i 36,i 0,r 123,i 49,i 0,r 130,i 56,i 0,r 137,i 62,i 0,r 144,i 68,i 0,r 151,i 70,i 0,r 158,i 72,i 0,r 163,i 74,i 0,r 168,i 78,i 0,r 175,i 80,i 0,r 182,i 85,i 0,r 189,i 96,i 0,r 196,i 103,i 0,r 203,i 106,i 0,r 210],#[]⟩,
⟨.type "dict",none,.dict #[e P "__module__" 484 mo5,e P "__qualname__" 486 (.str "Holder" 485),e P "__firstlineno__" 488 (.int 106 487),e P "__init__" 499 (r 218),e P "tell" 507 (r 225),e P "first_broken" 513 (r 230),e P "broken_by_end" 519 (r 235),e P "broken_by_wrote" 530 (r 242),e P "broken_by_late" 536 (r 247),e P "broken_by_down" 544 (r 254),e P "broken_by_bell" 553 (r 261),e P "row_now" 560 (r 268),e P "waiting_by" 568 (r 275),e P "is_pressed" 576 (r 282),e P "ends_at" 584 (r 289),e P "take_up" 590 (r 294),e P "take_end" 601 (r 301),e P "take_bell" 609 (r 308),e P "state_now" 616 (r 315),e P "owes" 623 (r 322),e P "lies" 630 (r 329),e P "rings_now" 637 (r 336),e P "all_over" 644 (r 343),e P "parted" 651 (r 350),e P "way_on" 659 (r 357),e P "twin" 666 (r 364),e P "event_on" 673 (r 371),e P "__static_attributes__" 692 (r 372)] 28,#[]⟩,
⟨.none,none,.fields #[i 108,i 4,r 217,i 128,i 4,r 224,i 135,i 4,r 229,i 149,i 4,r 234,i 164,i 4,r 241,i 181,i 4,r 246,i 187,i 4,r 253,i 194,i 4,r 260,i 202,i 4,r 267,i 205,i 4,r 274,i 208,i 4,r 281,i 211,i 4,r 288,i 214,i 4,r 293,i 228,i 4,r 300,i 240,i 4,r 307,i 245,i 4,r 314,i 248,i 4,r 321,i 251,i 4,r 328,i 254,i 4,r 335,i 257,i 4,r 342,i 260,i 4,r 349,i 263,i 4,r 356,i 266,i 4,r 363,i 269,i 4,r 370],#[]⟩,
co "Holder" "Holder" 479 483 [i 106,i 0,i 0,i 0,i 0,r 208,.bool false,i 181,r 209,.none,.none,.none,.none,i 482,i 106],
⟨.type "frame",none,.plain,#[some (r 210),some (r 3),some (r 207),none,some mo5,none,some (r 0)]⟩,
("Holder.__init__",met 33 0,["self", "mill", "state", "rings", "terms"],489,108,5,3,212,mo5),
("Holder.tell",met 33 1,["self", "event"],500,128,2,3,219,mo5),
("Holder.first_broken",met 33 2,[],508,135,2,3,226,mo5),
("Holder.broken_by_end",met 33 3,[],514,149,2,3,231,mo5),
("Holder.broken_by_wrote",met 33 4,["self", "row", "wrote", "right", "is_owed"],520,164,3,3,236,mo5),
("Holder.broken_by_late",met 33 5,[],531,181,2,3,243,mo5),
("Holder.broken_by_down",met 33 6,["self", "event"],537,187,2,3,248,mo5),
("Holder.broken_by_bell",met 33 7,["self", "event", "waiting"],545,194,2,3,255,mo5),
("Holder.row_now",met 33 8,["self"],554,202,1,3,262,mo5),
("Holder.waiting_by",met 33 9,["self", "beat"],561,205,2,3,269,mo5),
("Holder.is_pressed",met 33 10,["self", "beat"],569,208,2,3,276,mo5),
("Holder.ends_at",met 33 11,["self", "beat"],577,211,2,3,283,mo5),
("Holder.take_up",met 33 12,[],585,214,2,3,290,mo5),
("Holder.take_end",met 33 13,["self", "beat", "wrote", "done", "right"],591,228,3,3,295,mo5),
("Holder.take_bell",met 33 14,["self", "k"],602,240,2,3,302,mo5),
("Holder.state_now",met 33 15,["self"],610,245,1,3,309,mo5),
("Holder.owes",met 33 16,["self"],617,248,1,3,316,mo5),
("Holder.lies",met 33 17,["self"],624,251,1,3,323,mo5),
("Holder.rings_now",met 33 18,["self"],631,254,1,3,330,mo5),
("Holder.all_over",met 33 19,["self"],638,257,1,3,337,mo5),
("Holder.parted",met 33 20,["self"],645,260,1,3,344,mo5),
("Holder.way_on",met 33 21,["self", "m"],652,263,2,3,351,mo5),
("Holder.twin",met 33 22,["self"],660,266,1,3,358,mo5),
("Holder.event_on",met 33 23,["self"],667,269,1,3,365,mo5),
tu #[.str "beat" 674,.str "cause" 675,.str "ends" 676,.str "ends_of_beat" 677,.str "events" 678,.str "laid" 679,.str "longest" 680,.str "mill" 681,.str "owed" 682,.str "patience" 683,.str "pressed" 684,.str "queue" 685,.str "rings" 686,.str "room" 687,.str "state" 688,.str "taken" 689,.str "terms" 690,.str "width" 691],
⟨.type "dict",none,.dict #[e P "__module__" 484 mo5,e P "__firstlineno__" 488 (.int 106 487),e P "__init__" 499 (r 218),e P "tell" 507 (r 225),e P "first_broken" 513 (r 230),e P "broken_by_end" 519 (r 235),e P "broken_by_wrote" 530 (r 242),e P "broken_by_late" 536 (r 247),e P "broken_by_down" 544 (r 254),e P "broken_by_bell" 553 (r 261),e P "row_now" 560 (r 268),e P "waiting_by" 568 (r 275),e P "is_pressed" 576 (r 282),e P "ends_at" 584 (r 289),e P "take_up" 590 (r 294),e P "take_end" 601 (r 301),e P "take_bell" 609 (r 308),e P "state_now" 616 (r 315),e P "owes" 623 (r 322),e P "lies" 630 (r 329),e P "rings_now" 637 (r 336),e P "all_over" 644 (r 343),e P "parted" 651 (r 350),e P "way_on" 659 (r 357),e P "twin" 666 (r 364),e P "event_on" 673 (r 371),e P "__static_attributes__" 692 (r 372),e P "__dict__" 694 (r 375),e P "__weakref__" 696 (r 376),e P "__doc__" 697 .none] 4,#[]⟩,
⟨.type "type",none,.cls ⟨"Holder",[.type "object"],[r 374,.type "object"],373, "Holder",true,[],[],false,none,false⟩,#[none,none,some (.str "Holder" 477),some (.str "Holder" 485),some (.builtin "object.__new__"),some (.bool true)]⟩,
⟨.type "getset_descriptor",none,.fields #[.str "__dict__" 693,r 374,.builtin "function.__dict__",.builtin "function.__dict__#set"],#[]⟩,
⟨.type "getset_descriptor",none,.fields #[.str "__weakref__" 695,r 374,.builtin "ExceptionGroup.__weakref__",.none],#[]⟩,
⟨.type "super",none,.fields #[r 374,r 374,r 374],#[]⟩,
⟨.type "builtin_function_or_method",none,.fields #[.builtin "object.__init_subclass__",r 374],#[]⟩,
⟨.type "dict",none,.dict #[e P "__name__" 165 mo6,e P "__doc__" 166 .none,e P "__package__" 167 .none,e P "__loader__" 168 (.builtin "__main__.__loader__#opaque"),e P "__spec__" 169 .none,e P "__annotations__" 170 (r 6),e P "__builtins__" 171 (r 4),e P "__file__" 173 (.str "/claim/cut.py" 172),e P "__cached__" 174 .none,e P "_wall" 193 (r 21),e P "MakeError" 213 (r 31),e P "Resting" 229 (r 44),e P "NoBell" 245 (r 56),e P "Shut" 261 (r 68),e P "CELLS" 265 (.int 16 264),e P "WORTHS" 267 (.int 4294967296 266),e P "PARTS" 307 (r 71),e P "SLOW_WORDS" 310 (r 82),e P "wrapped" 317 (r 89),e P "cell_at" 325 (r 96),e P "spots_read" 335 (r 103),e P "spot_written" 344 (r 110),e P "is_slow" 351 (r 117),e P "worth_got" 365 (r 124),e P "what_it_writes" 375 (r 131),e P "place_behind" 385 (r 138),e P "is_shut_behind" 393 (r 145),e P "kept_behind" 401 (r 152),e P "is_bell" 409 (r 159),e P "bells_rung" 415 (r 164),e P "bells_waiting" 421 (r 169),e P "rests" 431 (r 176),e P "with_written" 441 (r 183),e P "step" 456 (r 190),e P "bell" 465 (r 197),e P "thing_of" 474 (r 204),e P "Holder" 699 (r 374),e P "parting" 712 (r 385),e P "_law_bag" 724 (r 392),e P "_law_draw" 735 (r 399),e P "_law_far" 744 (r 406),e P "_law_worth" 752 (r 413),e P "_law_row" 766 (r 420),e P "_law_mill" 772 (r 425),e P "_law_state" 778 (r 430),e P "_law_rings" 790 (r 437),e P "_law_terms" 799 (r 444),e P "_law_due" 811 (r 451),e P "_law_goes" 821 (r 458),e P "_law_waits" 827 (r 463),e P "_law_begin" 836 (r 470),e P "_law_end_cause" 842 (r 475),e P "_law_cause" 848 (r 480)] 53,#[]⟩,
⟨.none,none,.fields #[i 1,i 0,r 20,i 5,i 0,r 27,i 7,i 0,r 40,i 9,i 0,r 52,i 11,i 0,r 64,i 18,i 0,r 88,i 20,i 0,r 95,i 22,i 0,r 102,i 28,i 0,r 109,i 33,i 0,r 116,i 36,i 0,r 123,i 49,i 0,r 130,i 56,i 0,r 137,i 62,i 0,r 144,i 68,i 0,r 151,i 70,i 0,r 158,i 72,i 0,r 163,i 74,i 0,r 168,i 78,i 0,r 175,i 80,i 0,r 182,i 85,i 0,r 189,i 96,i 0,r 196,i 103,i 0,r 203,i 106,i 0,r 210,i 271,i 0,r 384,i 278,i 0,r 391,i 288,i 0,r 398,i 299,i 0,r 405,i 304,i 0,r 412,i 311,i 0,r 419,i 326,i 0,r 424,i 331,i 0,r 429,i 337,i 0,r 436,i 344,i 0,r 443,i 350,i 0,r 450,i 364,i 0,r 457,i 379,i 0,r 462,i 386,i 0,r 469,i 391,i 0,r 474,i 418,i 0,r 479],#[]⟩,
("parting",top 34,["mill", "state", "rings", "terms", "diary", "holder", "event"],700,271,5,3,379,mo5),
("_law_bag",top 36,["script", "great", "fold", "cell"],715,278,1,3,386,mo6),
("_law_draw",top 37,["bag", "many", "great", "one", "mixed"],725,288,2,3,393,mo6),
("_law_far",top 38,["bag", "far", "k"],736,299,1,3,400,mo6),
("_law_worth",top 39,["bag", "kind"],745,304,1,3,407,mo6),
("_law_row",top 40,["bag", "many", "spots", "kind", "d", "a", "b", "n"],753,311,3,3,414,mo6),
("_law_mill",top 41,[],767,326,1,3,421,mo6),
("_law_state",top 42,[],773,331,2,3,426,mo6),
("_law_rings",top 43,["bag", "mill", "base", "rings", "turn", "at"],779,337,3,3,431,mo6),
("_law_terms",top 44,["bag", "small", "k"],791,344,1,3,438,mo6),
("_law_due",top 45,["row", "now", "spots", "one", "other", "worths"],800,350,2,3,445,mo6),
("_law_goes",top 46,["row", "now", "wrote", "after"],812,364,2,3,452,mo6),
("_law_waits",top 47,[],822,379,3,3,459,mo6),
("_law_begin",top 48,["state", "found", "more"],828,386,1,3,464,mo6),
("_law_end_cause",top 49,[],837,391,5,3,471,mo6),
("_law_cause",top 50,[],843,418,5,3,476,mo6),
⟨.type "dict",none,.dict #[e P "__name__" 165 mo6,e P "__doc__" 166 .none,e P "__package__" 167 .none,e P "__loader__" 168 (.builtin "__main__.__loader__#opaque"),e P "__spec__" 169 .none,e P "__annotations__" 170 (r 6),e P "__builtins__" 171 (r 4),e P "__file__" 173 (.str "/claim/cut.py" 172),e P "__cached__" 174 .none,e P "_wall" 193 (r 21),e P "MakeError" 213 (r 31),e P "Resting" 229 (r 44),e P "NoBell" 245 (r 56),e P "Shut" 261 (r 68),e P "CELLS" 265 (.int 16 264),e P "WORTHS" 267 (.int 4294967296 266),e P "PARTS" 307 (r 71),e P "SLOW_WORDS" 310 (r 82),e P "wrapped" 317 (r 89),e P "cell_at" 325 (r 96),e P "spots_read" 335 (r 103),e P "spot_written" 344 (r 110),e P "is_slow" 351 (r 117),e P "worth_got" 365 (r 124),e P "what_it_writes" 375 (r 131),e P "place_behind" 385 (r 138),e P "is_shut_behind" 393 (r 145),e P "kept_behind" 401 (r 152),e P "is_bell" 409 (r 159),e P "bells_rung" 415 (r 164),e P "bells_waiting" 421 (r 169),e P "rests" 431 (r 176),e P "with_written" 441 (r 183),e P "step" 456 (r 190),e P "bell" 465 (r 197),e P "thing_of" 474 (r 204),e P "Holder" 699 (r 374),e P "parting" 712 (r 385),e P "_law_bag" 724 (r 392),e P "_law_draw" 735 (r 399),e P "_law_far" 744 (r 406),e P "_law_worth" 752 (r 413),e P "_law_row" 766 (r 420),e P "_law_mill" 772 (r 425),e P "_law_state" 778 (r 430),e P "_law_rings" 790 (r 437),e P "_law_terms" 799 (r 444),e P "_law_due" 811 (r 451),e P "_law_goes" 821 (r 458),e P "_law_waits" 827 (r 463),e P "_law_begin" 836 (r 470),e P "_law_end_cause" 842 (r 475),e P "_law_cause" 848 (r 480),e P "_law_take_up" 854 (r 485),e P "_law_sure" 867 (r 492),e P "_law_some" 886 (r 499),e P "_law_wild" 899 (r 506),e P "_law_other_number" 908 (r 513),e P "_law_other_wrote" 918 (r 520),e P "_law_spoilt" 924 (r 525),e P "_law_tale" 941 (r 532),e P "_law_right" 949 (r 539),e P "law" 967 (r 546)] 63,#[]⟩,
⟨.none,none,.fields #[i 1,i 0,r 20,i 5,i 0,r 27,i 7,i 0,r 40,i 9,i 0,r 52,i 11,i 0,r 64,i 18,i 0,r 88,i 20,i 0,r 95,i 22,i 0,r 102,i 28,i 0,r 109,i 33,i 0,r 116,i 36,i 0,r 123,i 49,i 0,r 130,i 56,i 0,r 137,i 62,i 0,r 144,i 68,i 0,r 151,i 70,i 0,r 158,i 72,i 0,r 163,i 74,i 0,r 168,i 78,i 0,r 175,i 80,i 0,r 182,i 85,i 0,r 189,i 96,i 0,r 196,i 103,i 0,r 203,i 106,i 0,r 210,i 271,i 0,r 384,i 278,i 0,r 391,i 288,i 0,r 398,i 299,i 0,r 405,i 304,i 0,r 412,i 311,i 0,r 419,i 326,i 0,r 424,i 331,i 0,r 429,i 337,i 0,r 436,i 344,i 0,r 443,i 350,i 0,r 450,i 364,i 0,r 457,i 379,i 0,r 462,i 386,i 0,r 469,i 391,i 0,r 474,i 418,i 0,r 479,i 443,i 0,r 484,i 467,i 0,r 491,i 482,i 0,r 498,i 503,i 0,r 505,i 516,i 0,r 512,i 519,i 0,r 519,i 532,i 0,r 524,i 548,i 0,r 531,i 563,i 0,r 538,i 571,i 0,r 545],#[]⟩,
("_law_take_up",top 51,[],849,443,4,3,481,mo6),
("_law_sure",top 52,["mill", "rings", "terms", "now", "beat", "resting", "waits"],855,467,4,3,486,mo6),
("_law_some",top 53,["bag", "mill", "rings", "terms", "now", "base", "beat", "pick", "waits", "event", "one", "row", "wrote"],868,482,6,3,493,mo6),
("_law_wild",top 54,["bag", "now", "beat", "number", "worth", "pick", "wrote"],887,503,2,3,500,mo6),
("_law_other_number",top 55,["bag", "number", "more"],900,516,2,3,507,mo6),
("_law_other_wrote",top 56,["bag", "wrote", "due", "pick"],909,519,3,3,514,mo6),
("_law_spoilt",top 57,[],919,532,5,3,521,mo6),
("_law_tale",top 58,["bag", "mill", "rings", "terms", "now", "base", "at", "diary", "turn", "event", "cause"],925,548,6,3,526,mo6),
("_law_right",top 59,["found", "due"],942,563,2,3,533,mo6),
("law",top 60,["script", "bag", "mill", "state", "base", "rings", "terms", "diary", "due", "told", "handed", "found"],950,571,1,3,540,mo6)]
end
section
local macro_rules
 | `(#[$k:num])=>do
  let mut x:Array Lean.Term:=#[]
  let mut d:Array Lean.Term:=#[]
  let mut v:Lean.Term <- `([])
  let mut u:Array (Nat×Lean.Term):=#[]
  let mut m:=0
  for c in "b- b- b 305 b- b- b- b- b- b- b- 11- n- 13- 14- 11 12- 17 11 18- 19 20 21 22- 23- 11- 12- 24- 25- 11 26 41 28 29- 30- 31 22- 32- 11- 12- 33- 34- 11 35 36 37- 38- 31 22- 42- 11- 12- 43- 44- 11 45 46 47- 48- 31 22- 49- 11- 12- 50- 51- 11 52 53 54- 55- 58 59 60 61 62 63 64 65 11 11 11 66 11 12- 67 11 68- 69 70 11 12- 71 11 72- 73 74 11 12- 75 11 76- 77 78 11 12- 79 11 80- 81 82 11 12- 83 11 84- 85 86 11 12- 87 11 88- 89 90 11 12- 91 11 92- 93 94 11 12- 95 11 96- 97 98 11 12- 99 11 100- 101 102 11 12- 105 11 106- 107 108 11 12- 109 11 110- 111 112 11 12- 113- 114 115 11 12- 116- 117 118 11 12- 119 11 120- 121 122 11 12- 123 11 124- 125 126 11 12- 127 11 128- 129 130 11 12- 131 11 132- 133 134 11 12- 135 11 136- 137 138 11- 22- 141- 11- 142- 143- 144- 11 12- 145 11 146- 147 148 11 12- 149 11 150- 151 152 11 12- 153- 154 155 11 12- 156- 157 158 11 12- 159 11 160- 161 162 11 12- 163- 164 165 11 12- 166 11 167- 168 169 11 12- 170 11 171- 172 173 11 12- 174 11 175- 176 177 11 12- 178 11 179- 180 181 11 12- 182 11 183- 184 185 11 12- 186 11 187- 188 189 11 12- 190- 191 192 11 12- 193 11 194- 195 196 11 12- 197 11 198- 199 200 11 12- 201 11 202- 203 204 11 12- 205 11 206- 207 208 11 12- 209 11 210- 211 212 11 12- 213 11 214- 215 216 11 12- 217 11 218- 219 220 11 12- 221 11 222- 223 224 11 12- 225 11 226- 227 228 11 12- 229 11 230- 231 232 11 12- 233 11 234- 235 236 237 238 239 240 241 242- 243- 11 12- 246 11 247- 248 249 11 12- 250 11 251- 252 253 11 12- 254 11 255- 256 257 11 12- 258 11 259- 260 261 11 12- 262 11 263- 264 265 11 12- 266 11 267- 268 269 11 12- 270- 271 272 11 12- 273- 274 275 11 12- 276 11 277- 278 279 11 12- 280 11 281- 282 283 11 12- 284 11 285- 286 287 11 12- 288 11 289- 290 291 11 12- 292- 293 294 11 12- 295 11 296- 297 298 11 12- 299- 300 301 11 12- 302- 303 304 11 12- n- n n 11 12- n 11 n- n n 11 12- n 11 n- n n 11 12- n 11 n- n n 11 12- n 11 n- n n 11 12- n 11 n- n n 11 12- n- n n 11 12- n 11 n- n n 11 12- n 11 n- n n 11 12- n 11 n- n n".splitOn " " do
   let e:=c.takeWhile (· != '-')
   let j:=x.size
   let w:=if e == "n" then m+1 else e.toNat?.getD 0
   m:=max m w
   let o:Lean.Term:=Lean.mkIdent (.mkSimple (if e == "b" then s!"boot_o_{j}" else s!"a{w}"))
   x:=x.push o
   if e == c then
    u:=u.push (j,o)
  for (j,o) in u.reverse do
   v <- `((nat_lit $(Lean.Syntax.mkNumLit s!"{j}"),$o $(Lean.mkIdent `P))::$v)
  d:=u.map fun y=>Lean.quote y.1
  if k.getNat == 0 then `([$x,*])else if k.getNat == 1 then return v else `([$d,*])
noncomputable def hs:List O:=#[0]
noncomputable def K:Params->Frag:=fun P=>#[1]
noncomputable def ad:List Nat:=#[2]
end
noncomputable def q:Program:=view PySem.Challenge.pw_twomakes_k27_whole_any_diary [0,2,3,4,5,7,8,9,10,11,12,13,14,15,17,18,19,20,21,22,23,24,26,27,28,29,31,33,34,36,37,38,39,40,41,42,43,44,45,46,47,48,49,50,51,52,53,54,55,56,57,58,59,60]
def lo:List Str:=["PARTS"]
noncomputable abbrev _root_.PySem.W.Fast.tw7806653280563801761:Program:=PySem.Challenge.pw_twomakes_k27_whole_any_diary
theorem _root_.PySem.W.Fast.te7806653280563801761:PySem.Challenge.pw_twomakes_k27_whole_any_diary=PySem.W.Fast.tw7806653280563801761:=rfl
noncomputable abbrev pF:Program:=PySem.Challenge.pw_twomakes_k27_whole_any_diary
noncomputable def h0:List O:=[boot_o_0,boot_o_1,boot_o_2,boot_o_3,boot_o_4,boot_o_5,boot_o_6,boot_o_7,boot_o_8,boot_o_9,boot_o_10,a11,a12,a13,a14]
noncomputable def h1:List O:=(((hs.take 47).set 3 a15).set 12 a16).set 31 a27
noncomputable def h2:List O:=((hs.take 71).set 3 a39).set 12 a40
noncomputable def h3:List O:=((hs.take 146).set 3 a56).set 12 a57
noncomputable def h4:List O:=((hs.take 205).set 3 a103).set 12 a104
noncomputable def h5:List O:=((hs.take 379).set 3 a139).set 12 a140
noncomputable def h6:List O:=((hs.take 481).set 3 a244).set 12 a245
noncomputable def lf:Life:=⟨[],[],[],0,[],[],false,#[],[],0,false,false,false,0,[2000,10,10],false,0,true,[],[],0,false⟩
noncomputable def hA:Params->Heap:=fun P=>⟨(h0.map (· P)).toArray,lf⟩
noncomputable def hF:Params->Heap:=fun P=>⟨(hs.map (· P)).toArray,lf⟩
noncomputable def ev:Env:={ scope:=pF.main.scope,locals:=mainNs,globals:=mainNs,cells:=[],code:=r 13,frame:=some 14 }
noncomputable abbrev bF:List Stmt:=behindTheImports pF
noncomputable abbrev cF:Code:=.body bF ev
abbrev fB:List Frame:=[topFrame ⟨0,0,0,0⟩]
theorem pre(w:World)(os:OsState):topGo treeTable pF w 11 (some (r 6)) 12 ⟨boot_heap w.params,#[],boot_drawn,boot_toks,os⟩ (topStub pF)=some (⟨hA w.params,#[],⟨0,0,0,0⟩,187,os⟩,⟨denote treeTable cF,cF,⟨0,0,0,0⟩,fB⟩):=by
 rw[PySem.W.Fast.te15667345088766844465,aaB,PySem.W.Fast.te11892475500146522536];kernel_rfl
theorem blk(w:World)(os:OsState):segRun treeTable pF w 11 (some (r 6)) 1 1 ⟨hA w.params,#[],⟨0,0,0,0⟩,187,os⟩ (blockOf bF ev cF ⟨0,0,0,0⟩ fB)=some (.next,SharedT.abs ⟨bt w.params 10 h0,15,lf,#[],⟨0,0,0,0⟩,187,os⟩,cF,⟨0,0,0,0⟩):=by
 rw[PySem.W.Fast.te14374325043358763698,aaB];kernel_rfl
noncomputable def g0:List Stmt:=(bF.drop 0).take 4
theorem p0(w:World)(os:OsState):segRunT treeTable pF w 11 (some (r 6)) 1 438 ⟨bt w.params 10 h0,15,lf,#[],⟨0,0,0,0⟩,187,os⟩ (piecesOf g0 ev cF ⟨0,0,0,0⟩ fB)=some (.next,⟨bt w.params 14 h1,47,lf,#[],⟨0,0,0,0⟩,230,os⟩,cF,⟨7,0,8,8⟩):=by
 rw[aaL,aaB];kernel_rfl
noncomputable def g1:List Stmt:=(bF.drop 4).take 5
theorem p1(w:World)(os:OsState):segRunT treeTable pF w 11 (some (r 6)) 1 454 ⟨bt w.params 14 h1,47,lf,#[],⟨0,0,0,0⟩,230,os⟩ (piecesOf g1 ev cF ⟨7,0,8,8⟩ fB)=some (.next,⟨bt w.params 14 h2,71,lf,#[],⟨0,0,0,0⟩,268,os⟩,cF,⟨15,0,15,6⟩):=by
 rw[aaL,aaB];kernel_rfl
noncomputable def g2:List Stmt:=(bF.drop 9).take 12
theorem p2(w:World):∀ os:OsState,segRunT treeTable pF w 11 (some (r 6)) 1 490 ⟨bt w.params 14 h2,71,lf,#[],⟨0,0,0,0⟩,268,os⟩ (piecesOf g2 ev cF ⟨15,0,15,6⟩ fB)=some (.next,⟨bt w.params 14 h3,146,lf,#[],⟨0,0,0,0⟩,394,os⟩,cF,⟨62,0,67,15⟩):=by
 refine byRow2 "special-get-raises" (P:=fun w=>∀ os:OsState,segRunT treeTable pF w 11 (some (r 6)) 1 490 ⟨bt w.params 14 h2,71,lf,#[],⟨0,0,0,0⟩,268,os⟩ (piecesOf g2 ev cF ⟨15,0,15,6⟩ fB)=some (.next,⟨bt w.params 14 h3,146,lf,#[],⟨0,0,0,0⟩,394,os⟩,cF,⟨62,0,67,15⟩)) ?_ ?_ w
 ·intro w os;rw[aaL,aaB];kernel_rfl
 ·intro w os;rw[aaL,aaB];kernel_rfl
noncomputable def g3:List Stmt:=(bF.drop 21).take 12
theorem p3(w:World)(os:OsState):segRunT treeTable pF w 11 (some (r 6)) 1 299 ⟨bt w.params 14 h3,146,lf,#[],⟨0,0,0,0⟩,394,os⟩ (piecesOf g3 ev cF ⟨62,0,67,15⟩ fB)=some (.next,⟨bt w.params 14 h4,205,lf,#[],⟨0,0,0,0⟩,477,os⟩,cF,⟨105,0,105,8⟩):=by
 rw[aaL,aaB];kernel_rfl
noncomputable def g4:List Stmt:=(bF.drop 33).take 1
theorem p4(w:World)(os:OsState):segRunT treeTable pF w 11 (some (r 6)) 1 961 ⟨bt w.params 14 h4,205,lf,#[],⟨0,0,0,0⟩,477,os⟩ (piecesOf g4 ev cF ⟨105,0,105,8⟩ fB)=some (.next,⟨bt w.params 14 h5,379,lf,#[],⟨0,0,0,0⟩,700,os⟩,cF,⟨106,0,270,16⟩):=by
 rw[aaL,aaB];kernel_rfl
noncomputable def g5:List Stmt:=(bF.drop 34).take 17
theorem p5(w:World)(os:OsState):segRunT treeTable pF w 11 (some (r 6)) 1 499 ⟨bt w.params 14 h5,379,lf,#[],⟨0,0,0,0⟩,700,os⟩ (piecesOf g5 ev cF ⟨106,0,270,16⟩ fB)=some (.next,⟨bt w.params 14 h6,481,lf,#[],⟨0,0,0,0⟩,849,os⟩,cF,⟨418,0,442,15⟩):=by
 rw[aaL,aaB];kernel_rfl
noncomputable def g6:List Stmt:=(bF.drop 51).take 10
theorem p6(w:World)(os:OsState):segRunT treeTable pF w 11 (some (r 6)) 1 336 ⟨bt w.params 14 h6,481,lf,#[],⟨0,0,0,0⟩,849,os⟩ (piecesOf g6 ev cF ⟨418,0,442,15⟩ fB)=some (.next,⟨bt w.params 14 hs,547,lf,#[],⟨0,0,0,0⟩,968,os⟩,cF,⟨571,0,582,73⟩):=by
 rw[aaL,aaB];kernel_rfl
theorem fin(w:World)(os:OsState):topRun treeTable pF w 11 (some (r 6)) 2 (SharedT.abs ⟨bt w.params 14 hs,547,lf,#[],⟨0,0,0,0⟩,968,os⟩) ⟨doneF .next,cF,⟨571,0,582,73⟩,fB⟩=some ⟨hF w.params,#[],⟨0,0,0,0⟩,968,os⟩:=by
 rw[PySem.W.Fast.te14082659384304107361,aaB];kernel_rfl
theorem run(w:World)(os:OsState):topRun treeTable pF w 11 (some (r 6)) 3492 ⟨boot_heap w.params,#[],boot_drawn,boot_toks,os⟩ (topStub pF)=some ⟨hF w.params,#[],⟨0,0,0,0⟩,968,os⟩ :=
 go_top (n:=12) (N:=3480) (pre w os) (piece_block (n:=1) (N:=3479) (blk w os) (ac8 (n:=438) (N:=3041) (l:=g0) (ac9 (p0 w os)) (ac8 (n:=454) (N:=2587) (l:=g1) (ac9 (p1 w os)) (ac8 (n:=490) (N:=2097) (l:=g2) (ac9 (p2 w os)) (ac8 (n:=299) (N:=1798) (l:=g3) (ac9 (p3 w os)) (ac8 (n:=961) (N:=837) (l:=g4) (ac9 (p4 w os)) (ac8 (n:=499) (N:=338) (l:=g5) (ac9 (p5 w os)) (ac8 (n:=336) (N:=2) (l:=g6) (ac9 (p6 w os)) (fin w os)))))))))
theorem size(w:World):((boot_heap w.params).isNs mainGlobals&&(#[]:Array GenState).size == 0,(boot_heap w.params).objs.size,(boot_heap w.params).nsMap mainGlobals "__annotations__")=(true,11,some (r 6)):=by
 rw[PySem.W.Fast.te8920871248978507458];kernel_rfl
theorem opn:∀ w:World,(fencedOpening treeTable pF w 7066).map (fun s=>(s.heap,s.gens,s.drawn,s.toks))=some (boot_heap w.params,Array.mk [],boot_drawn,boot_toks) :=
 boot_open (by kernel_rfl) (by decide) (fun s=>by kernel_rfl)
noncomputable def KF:Params->Frag:=fun P=>ad.map fun a=>(a,(hF P).objs.getD a default)
theorem kk(P:Params):K P=KF P:=by kernel_rfl
theorem kad(P:Params):ad=(K P).map (·.1):=by kernel_rfl
noncomputable abbrev qF:Program:=q
noncomputable abbrev loF:List Str:=lo
theorem lA(w:World)(os:OsState):(staticsOk (importedModules pF.main.body) (boot_heap w.params) (hF w.params)&&namesBound pF (hF w.params)&&gensDone (⟨hF w.params,#[],⟨0,0,0,0⟩,968,os⟩:Shared)&&laidKept (boot_heap w.params) (hF w.params))=true:=by
 rw[acq];kernel_rfl
theorem lS(w:World)(os:OsState):openSeen qF loF (importedModules pF.main.body) (fun s=>xlAt qF [] s&&recOk [] s) true (⟨hF w.params,#[],⟨0,0,0,0⟩,968,os⟩:Shared)=openGood qF loF:=by
 unfold openSeen openGood;refine ace ?_ (ace ?_ (ace ?_ (ace ?_ (ace ?_ (ace ?_ (ace ?_ (ace ?_ ?_)))))))
 all_goals ((repeat (first | rw[PySem.W.Fast.te2386780881361962483] | rw[PySem.W.Fast.te821141287760084731] | rw[PySem.W.Fast.te11698064438423848299] | rw[PySem.W.Fast.te7317090234206586261] | rw[PySem.W.Fast.te7369524293546568484] | rw[PySem.W.Fast.te5160383126252970620] | rw[PySem.W.Fast.te3399658132070893891] | rw[PySem.W.Fast.te5991557255702980513] | rw[acq] | rw[PySem.W.Fast.te10880121769531294198] | rw[PySem.W.Fast.te7409074990110511671] | rw[PySem.W.Fast.te13664370479719496447] | rw[PySem.W.Fast.te14722251495701143533] | rw[PySem.W.Fast.te10994771534591457954] | rw[PySem.W.Fast.te16090120013241838585] | rw[PySem.W.Fast.te3247288618530077131] | rw[PySem.W.Fast.te479339242167458305]));kernel_rfl)
theorem lY(w:World)(os:OsState):ad.map (Shared.heap (⟨hF w.params,#[],⟨0,0,0,0⟩,968,os⟩:Shared)).get?=(KF w.params).map fun p=>some p.2:=by kernel_rfl
theorem left:LeftO PySem.Challenge.pw_twomakes_k27_whole_any_diary q lo (fun s=>xlAt q [] s&&recOk [] s) (fun s=>ad.map s.heap.get?) (fun w=>(K w.params).map fun p=>some p.2) 7066:=by
 refine LeftO.of_pieces opn size run (by decide) fun w=>?_;funext os;exact ace (lA w os) (ace (lS w os) ((lY w os).trans (abK (fun l=>List.map (fun p=>some p.2) l) (kk w.params).symm)))
end HD
open PySem PySem.W PyProof.Rows
set_option maxRecDepth 100000 in
set_option maxHeartbeats 0 in
theorem HD.look (hc : ∀ d : DefRec, d.name = "law" → d.params.defaults = [] → PySem.W.WalkO HD.q HD.lo (XL HD.q []) (Hook.says (kHook HD.K HD.ad HD.kad)) PySem.Challenge.rw_twomakes_k27_whole_any_diary.row.toRowW d [] (fun f vs => PySem.call f vs)) : PySem.Challenge.rw_twomakes_k27_whole_any_diary.Holds := by
 w_on;o_law
 refine PySem.W.holds_open (q:=HD.q) (loose:=HD.lo) (Xt:=fun s=>xlAt HD.q [] s&&recOk [] s) (XP:=XL HD.q []) (Yf:=Hook.obs (kHook HD.K HD.ad HD.kad)) (Ya:=Hook.val (kHook HD.K HD.ad HD.kad)) (YP:=Hook.says (kHook HD.K HD.ad HD.kad)) (N:=7066) HD.left (Hook.of (kHook HD.K HD.ad HD.kad)) (Hook.keeps (kHook HD.K HD.ad HD.kad)) (fun s e=>xl_of s (Bool.and_eq_true_iff.mp e).1) XL.keeps (by rfl) (by rfl) (by rfl) (fun s e=>recFacts_of (Bool.and_eq_true_iff.mp e).2) (by rfl) (by first | assumption | decide +kernel) (by decide +kernel) ⟨rfl,rfl,rfl,rfl,rfl,by decide +kernel⟩ ?hw ?hc
 (case hw=>w_witness2)
 case hc =>
 k_fill
 exact hc _ rfl rfl
end
namespace L2
open PySem PySem.Spec PyProof.Rows
variable {us:wf}{x:Str}{u:Value}{a b dx C:Addr}{o c tg:Expr}{P prog:u8}{w:World}{h h' base:Heap}{pins:yp}{s s':Shared}{t':Nat}{ch fp:ww}{N ps:wv}{M:Model}{A:tx}{E Q:xz}{pos p:Pos}{op:CmpOp}{es:v6}{body:ul}{f:Value->Value->Sem Value}{mA mg:xL}{pl:Sem Bool}{kw:List (Str×Value)}{fd:wT}{kindOf:Str->Option NameKind}
abbrev Key:=Sum Int Str
variable {xs:List (List Key×Addr×Value)}
def nA:Key->Value->Bool
 | .inl k,v=>Value.isInt k v
 | .inr x,v=>Value.isStrOf x v
def OM(w:World):Key->Int
 | .inl k=>hashInt k
 | .inr x=>hashStr w x
theorem cO:∀{k:Key} {v:Value},nA k v=true->(∃ i t,k=Sum.inl i/\v=Value.int i t)\/(∃ x t,k=Sum.inr x/\v=Value.str x t)
 | .inl i,v,h=>by
  obtain⟨t,e⟩:=Value.isInt_shape (k:=i) (v:=v) h;exact .inl ⟨i,t,rfl,e⟩
 | .inr x,v,h=>by
  obtain⟨t,e⟩:=Value.isStrOf_shape (x:=x) (v:=v) h;exact .inr ⟨x,t,rfl,e⟩
theorem zL(i:Int)(t:Tok):nA (.inl i) (.int i t)=true:=by simp[nA,Value.isInt]
theorem cX(x:Str)(t:Tok):nA (.inr x) (.str x t)=true:=by simp[nA,Value.isStrOf]
theorem Kr(a b:Int):decide ((Sum.inl a:Key)=Sum.inl b)=(a == b):=by
 by_cases e:a=b
 ·subst e;simp
 ·have h:¬ (Sum.inl a:Key)=Sum.inl b:=fun q=>e (Sum.inl.inj q);rw[aat h];exact(ab4.mpr e).symm
theorem Ku(a b:Str):decide ((Sum.inr a:Key)=Sum.inr b)=decide (a=b):=by
 by_cases e:a=b
 ·subst e;simp
 ·have h:¬ (Sum.inr a:Key)=Sum.inr b:=fun q=>e (Sum.inr.inj q);rw[aat h,aat e]
theorem Kv(a:Int)(b:Str):decide ((Sum.inl a:Key)=Sum.inr b)=false:=aat (fun q=>nomatch q)
theorem Kw(a:Str)(b:Int):decide ((Sum.inr a:Key)=Sum.inl b)=false:=aat (fun q=>nomatch q)
def bX(prog:u8)(w:World):PySem.KeyKind prog w Key where
 is:=nA
 hash:=OM w
 inj:=fun v a b ha hb=>by
  rcases cO ha with⟨i,t,rfl,rfl⟩ | ⟨x,t,rfl,rfl⟩
  ·rcases cO hb with⟨j,u,rfl,e⟩ | ⟨y,u,rfl,e⟩
   ·injection e with e1 _;rw[e1]
   ·exact nomatch e
  ·rcases cO hb with⟨j,u,rfl,e⟩ | ⟨y,u,rfl,e⟩
   ·exact nomatch e
   ·injection e with e1 _;rw[e1]
 byValue:=fun k v h=>by
  rcases cO h with⟨i,t,rfl,rfl⟩ | ⟨x,t,rfl,rfl⟩<;>rfl
 pyHash:=fun hv h=>by
  rcases cO hv with⟨i,t,rfl,rfl⟩ | ⟨x,t,rfl,rfl⟩
  ·exact wpAny_pyHash_int h
  ·exact wpAny_pyHash_str h
 eqBool:=fun hu hv h=>by
  rcases cO hu with⟨i,t,rfl,rfl⟩ | ⟨x,t,rfl,rfl⟩
  ·rcases cO hv with⟨j,u,rfl,rfl⟩ | ⟨y,u,rfl,rfl⟩
   ·rw[Kr]at h;exact wpAny_eqBool_int h
   ·rw[Kv]at h;exact SeqAt.EqAt.int_str i t y u _ _ _ _ h
  ·rcases cO hv with⟨j,u,rfl,rfl⟩ | ⟨y,u,rfl,rfl⟩
   ·rw[Kw]at h;exact SeqAt.EqAt.str_int x t j u _ _ _ _ h
   ·rw[Ku]at h;exact wpAny_eqBool_str h
 «strs»:=fun k x t v h=>by
  rcases cO h with⟨i,u,rfl,e⟩ | ⟨y,u,rfl,e⟩
  ·exact nomatch e
  ·injection e with e1 _
   subst e1;cases v<;>rfl
theorem sZ(prog:u8)(w:World)(i:Int)(t:Tok):(bX prog w).is (.inl i) (.int i t)=true:=zL i t
theorem tf(prog:u8)(w:World)(x:Str)(t:Tok):(bX prog w).is (.inr x) (.str x t)=true:=cX x t
inductive V where
 | dj | bl (b:Bool) | int (i:Int) | str (x:Str) | yg (b:Array UInt8) | FT (b:UInt64) | ref (a:Addr) | ty (n:String)
 deriving DecidableEq
variable {v y:V}{vs:List V}{kvs:List (List Key×V)}
def RelV:V->Value->Prop
 | .dj,u=>u=Value.none
 | .bl b,u=>u=Value.bool b
 | .int i,u=>∃ t,u=Value.int i t
 | .str x,u=>∃ t,u=Value.str x t
 | .yg b,u=>∃ t,u=Value.bytes b t
 | .FT b,u=>∃ t,u=Value.float b t
 | .ref a,u=>u=Value.ref a
 | .ty n,u=>u=Value.type n
abbrev Vals:List V->wf->Prop:=Paired RelV
theorem Vals.length{xs:List V}{us:wf}(r:Vals xs us):xs.length=us.length:=Paired.length r
theorem Vals.get:∀{xs:List V} {us:wf} {i:Nat} {x:V},Vals xs us->xs[i]?=some x->∃ u,us[i]?=some u/\RelV x u
 | _,_,_,_,.nil,e=>by simp at e
 | _,_,0,_,.cons r _,e=>by simp at e;subst e;exact⟨_,rfl,r⟩
 | _,_,i+1,x,.cons _ t,e=>by
  obtain⟨u,h1,h2⟩:=Vals.get (i:=i) (x:=x) t (by simpa using e);exact⟨u,by simpa using h1,h2⟩
theorem Vals.set{x:V}{u:Value}(r:RelV x u):∀{xs:List V} {us:wf} (i:Nat),Vals xs us->Vals (xs.set i x) (us.set i u)
 | _,_,_,.nil=>.nil
 | _,_,0,.cons _ t=>.cons r t
 | _,_,i+1,.cons q t=>.cons q (Vals.set r i t)
theorem Vals.append:∀{xs ys:List V} {us ws:wf},Vals xs us->Vals ys ws->Vals (xs++ys) (us++ws)
 | _,_,_,_,.nil,s=>s
 | _,_,_,_,.cons r t,s=>.cons r (Vals.append t s)
theorem Vals.take:∀{xs:List V} {us:wf} (n:Nat),Vals xs us->Vals (xs.take n) (us.take n)
 | _,_,0,_=>.nil
 | _,_,_+1,.nil=>.nil
 | _,_,n+1,.cons r t=>.cons r (Vals.take n t)
theorem Vals.drop:∀{xs:List V} {us:wf} (n:Nat),Vals xs us->Vals (xs.drop n) (us.drop n)
 | _,_,0,r=>r
 | _,_,_+1,.nil=>.nil
 | _,_,n+1,.cons _ t=>Vals.drop n t
def i7:Option V->wP->Prop
 | some v,some u=>RelV v u
 | none,none=>True
 | _,_=>False
def KV{κ:Type}:List (κ×V)->List (κ×Value)->Prop:=Paired fun(p:κ×V) (q:κ×Value)=>p.1=q.1/\RelV p.2 q.2
def kV:Key->V
 | .inl i=>.int i
 | .inr x=>.str x
inductive HO where
 | lst (xs:List V)
 | tup (xs:List V)
 | dK (kvs:List (Key×V)) | dT (kvs:List (List Key×V))
 | set (S:Int->Bool) (n:Nat)
 | ins (C dx:Addr) (fs:List (Str×V))
 | own (x:Addr)
 | xd (fs:List (Str×V))
 | met (f x:Addr)
 | Se (lo hi:Int)
 | jV (o:Obj) (u:HO)
 | II (ps:Array Value)
 | ext (φ:Heap->Prop)
abbrev Hp:=Addr->Option HO
variable {H H':Hp}
def upd(H:Hp)(a:Addr)(o:HO):Hp:=fun b=>if b=a then some o else H b
theorem cn{o:HO}:upd H a o a=some o:=by unfold upd;rw[aaE rfl]
theorem bw{o:HO}(h:b≠a):upd H a o b=H b:=by unfold upd;rw[aaA h]
theorem ON{o u:HO}(h:H a=some o)(h':H b=some u)(d:o≠u):a≠b:=by
 intro e;subst e;rw[h]at h';exact d (aaV h')
theorem ck{o:HO}(h:H a=some o)(h':H b=none):a≠b:=by
 intro e;subst e;rw[h]at h';cases h'
section
variable (P:u8)(w:World)
def cq(H:Hp)(h:Heap)(a:Addr):HO->Prop
 | .lst xs=>xs.length<=sizeLine/\∃(aV:wf) (n:Nat),Vals xs aV/\h.get? a=some { cls:=.type "list",data:=.seq aV.toArray n }
 | .tup xs=>xs.length<=sizeLine/\∃ aV:List Value,Vals xs aV/\IsTup h a aV.toArray
 | .dK kvs=>kvs.length<=sizeLine/\(a == sysModules)=false/\∃ vs,KV kvs vs/\h.DictOf (bX P w) a vs
 | .dT kvs=>kvs.length<=sizeLine/\(a == sysModules)=false/\∃ xs:List (List Key×Addr×Value),
   Paired (fun(p:List Key×V) (q:List Key×Addr×Value)=>p.1=q.1/\H q.2.1=some (.tup (p.1.map kV))/\RelV p.2 q.2.2) kvs xs /\
   ∃ o es ep,h.get? a=some o/\o.ExactDict/\o.data=.dict es ep/\es.toList=xs.map (entryOfKey (tupleKind (bX P w)))/\(xs.map (·.1)).Nodup
 | .set S n=>h.SetOf (intKind P w) a S n
 | .ins C dx fs=>H dx=some (.own a)/\fs.length<=1000/\dx≠a/\h.get? a=some (PySem.W.instObj C dx) /\
   ∃ mA,h.Ns1 dx mA/\(∀ f,i7 (fs.lookup f) (mA f))/\PySem.Within mA (fs.map (·.1))
 | .own _=>∃ o,h.get? a=some o
 | .xd fs=>∃ mA,h.Ns1 a mA/\∀ f,i7 (fs.lookup f) (mA f)
 | .Se lo hi=>∃ t u v,h.get? a=some { cls:=.type "range",data:=.fields #[.int lo t,.int hi u,.int 1 v] }
 | .jV o u=>h.get? a=some o/\cq H h a u
 | .II ps=>h.get? a=some { cls:=.none,data:=.fields ps }
 | .met f x=>h.get? a=some (PySem.W.methodObj (.ref f) (.ref x))
 | .ext φ=>φ h/\(∃ o,h.get? a=some o)/\∀ h1 h2:Heap,φ h1->(∀ o,h1.get? a=some o->h2.get? a=some o)->φ h2
def eC(H:Hp)(h:Heap):Prop:=∀ a o,H a=some o->cq P w H h a o
end
section
variable {o:HO}
theorem cq.lt(x:cq P w H h a o):a < h.objs.size:=by
 cases o with
 | lst xs=>obtain⟨_,_,_,_,e⟩:=x;exact aar e
 | tup xs=>obtain⟨_,_,_,p⟩:=x;exact p.lt
 | dK kvs=>obtain⟨_,_,_,_,o,_,_,e,_⟩:=x;exact aar e
 | dT kvs=>obtain⟨_,_,_,_,o,_,_,e,_⟩:=x;exact aar e
 | set S n=>obtain⟨o,_,_,_,e,_⟩:=x;exact aar e
 | ins C dx fs=>obtain⟨_,_,_,e,_⟩:=x;exact aar e
 | own y=>obtain⟨_,e⟩:=x;exact aar e
 | xd fs=>obtain⟨_,⟨_,_,_,e,_⟩,_⟩:=x;exact aar e
 | Se lo hi=>obtain⟨_,_,_,e⟩:=x;exact aar e
 | jV ob u=>obtain⟨e,_⟩:=x;exact aar e
 | II ps=>exact aar (show h.get? a=some _ from x)
 | met f y=>exact aar (show h.get? a=some _ from x)
 | ext φ=>obtain⟨_,⟨_,e⟩,_⟩:=x;exact aar e
theorem Paired.Kx{α β:Type}{F G:α->β->Prop}:∀{OO:List α} {OP:List β},Paired F OO OP->(∀ a b,F a b->G a b)->Paired G OO OP
 | _,_,.nil,_=>.nil
 | _,_,.cons r t,f=>.cons (f _ _ r) (Paired.Kx t f)
theorem cq.tj(x:cq P w H h a o)(k:∀ b u,(b=a\/H b=some (.own a))->h.get? b=some u->h'.get? b=some u)(ho:∀ b,H b=some (.own a)->H' b=some (.own a))(ht:∀ b xs,H b=some (.tup xs)->H' b=some (.tup xs)):cq P w H' h' a o:=by
 induction o with
 | lst xs=>obtain⟨z,aV,n,r,e⟩:=x;exact⟨z,aV,n,r,k _ _ (.inl rfl) e⟩
 | tup xs=>obtain⟨z,aV,r,ob,e,c⟩:=x;exact⟨z,aV,r,ob,k _ _ (.inl rfl) e,c⟩
 | dK kvs=>obtain⟨z,y,vs,r,ob,es,ep,e,c⟩:=x;exact⟨z,y,vs,r,ob,es,ep,k _ _ (.inl rfl) e,c⟩
 | dT kvs =>
  obtain⟨z,y,xs,r,ob,es,ep,e,c⟩:=x;exact⟨z,y,xs,Paired.Kx r fun p q z=>⟨z.1,ht _ _ z.2.1,z.2.2⟩,ob,es,ep,k _ _ (.inl rfl) e,c⟩
 | set S n=>obtain⟨ob,es,ep,t,e,c⟩:=x;exact⟨ob,es,ep,t,k _ _ (.inl rfl) e,c⟩
 | ins C dx fs =>
  obtain⟨d,z,ne,e,mA,⟨od,es,ep,e2,c⟩,r⟩:=x;exact⟨ho _ d,z,ne,k _ _ (.inl rfl) e,mA,⟨od,es,ep,k _ _ (.inr d) e2,c⟩,r⟩
 | own y=>obtain⟨ob,e⟩:=x;exact⟨ob,k _ _ (.inl rfl) e⟩
 | xd fs=>obtain⟨mA,⟨od,es,ep,e,c⟩,r⟩:=x;exact⟨mA,⟨od,es,ep,k _ _ (.inl rfl) e,c⟩,r⟩
 | Se lo hi=>obtain⟨t,u,v,e⟩:=x;exact⟨t,u,v,k _ _ (.inl rfl) e⟩
 | jV ob u ih=>obtain⟨e,q⟩:=x;exact⟨k _ _ (.inl rfl) e,ih q⟩
 | II ps =>
  have e:h.get? a=some { cls:=.none,data:=.fields ps }:=x;show h'.get? a=some { cls:=.none,data:=.fields ps };exact k a _ (.inl rfl) e
 | met f y =>
  have e:h.get? a=some (PySem.W.methodObj (.ref f) (.ref y)):=x;show h'.get? a=some (PySem.W.methodObj (.ref f) (.ref y));exact k a _ (.inl rfl) e
 | ext φ=>obtain⟨p,⟨o,e⟩,st⟩:=x;exact⟨st _ _ p fun o q=>k _ _ (.inl rfl) q,⟨o,k _ _ (.inl rfl) e⟩,st⟩
theorem eC.lt(x:eC P w H h)(e:H a=some o):a < h.objs.size:=(x a o e).lt
theorem eC.fresh(x:eC P w H h)(e:h.objs.size<=a):H a=none:=by
 cases q:H a with
 | none=>rfl
 | some u=>exact absurd (aaD (x.lt q) e) (aa1 _)
theorem eC.kept(x:eC P w H h)(k:∀ b u,h.get? b=some u->h'.get? b=some u):eC P w H h':=fun a o e =>
 (x a o e).tj (fun b u _ q=>k b u q) (fun _ q=>q) fun _ _ q=>q
theorem eC.laid(x:eC P w H h)(k:∀ b u,h.get? b=some u->h'.get? b=some u)(hp:h.objs.size<=a)(new:cq P w (upd H a o) h' a o):eC P w (upd H a o) h':=fun b u e=>by
 have hn:=x.fresh hp
 by_cases hb:b=a
 ·subst hb;rw[cn]at e;cases e;exact new
 ·rw[bw hb]at e;exact(x b u e).tj (fun c v _ q=>k c v q) (fun c q=>by rw[bw (ck q hn)];exact q) fun c xs q=>by rw[bw (ck q hn)];exact q
end
def Rd(H:Hp)(a:Addr)(u:HO):Prop:=H a=some u\/∃ o,H a=some (.jV o u)
theorem Rd.ok{u:HO}(r:Rd H a u)(x:eC P w H h):cq P w H h a u:=by
 rcases r with r | ⟨o,r⟩
 ·exact x a u r
 ·obtain⟨_,q⟩:=x a _ r;exact q
def OQ:Option HO->Prop
 | some (.lst _)=>True
 | some (.dK _)=>True
 | some (.dT _)=>True
 | some (.set _ _)=>True
 | some (.ins _ _ _)=>True
 | some (.ext _)=>True
 | _=>False
section
variable {x e:Addr}{o':HO}
theorem eC.write(ok:eC P w H h)(mu:OQ (H x))(he:e=x\/H e=some (.own x))(k:∀ b u,b≠e->h.get? b=some u->h'.get? b=some u)(vx:∃ u,h'.get? e=some u)(new:cq P w (upd H x o') h' x o'):eC P w (upd H x o') h':=fun b u q=>by
 have OR:∀ c y,H c=some (.own y)->c≠x:=fun c y r z=>by subst z;rw[r]at mu;exact mu
 have Tu:∀ c xs,H c=some (.tup xs)->c≠x:=fun c xs r z=>by subst z;rw[r]at mu;exact mu
 by_cases hb:b=x
 ·subst hb;rw[cn]at q;cases q;exact new
 ·rw[bw hb]at q
  by_cases Ky:b=e
  ·have q':H b=some (.own x):=by
    rcases he with z | z
    ·exact absurd (Ky.trans z) hb
    ·rw[Ky];exact z
   rw[q]at q';cases q';obtain⟨v,hv⟩:=vx;exact⟨v,by rw[Ky];exact hv⟩
  ·refine(ok b u q).tj (fun c v hc r=>k c v ?_ r) (fun c r=>by rw[bw (OR c b r)];exact r) fun c xs r=>by rw[bw (Tu c xs r)];exact r
   rcases hc with rfl | hc
   ·exact Ky
   ·rintro rfl;rcases he with z | z
    ·exact OR c b hc z
    ·rw[hc]at z;cases z;exact hb rfl
end
structure Un(fs ex:ww)(H H':Hp)(h h':Heap):Prop where
 keep:∀ b o,h.get? b=some o->H b=none->b ∉ fs->b ∉ ex->h'.get? b=some o
 slot:∀ b o,h.get? b=some o->H b=none->b∈fs->b ∉ ex->∃ sl,h'.get? b=some { o with slots:=sl }
 free:∀ b o,h.get? b=some o->H b=none->b ∉ ex->H' b=none
 there:∀ b o,h.get? b=some o->b ∉ ex->∃ o',h'.get? b=some o'
 qA:∀ b xs,H b=some (.tup xs)->H' b=some (.tup xs)
 o8:∀ b o u,H b=some (.jV o u)->H' b=some (.jV o u)
 qB:∀ b ps,H b=some (.II ps)->∃ more,H' b=some (.II (ps++more))
section
variable {fs gq ex Sf:ww}{H1 H2:Hp}{h1 h2:Heap}{x e:Addr}{o:HO}
theorem Un.any(u:Un fs ex H H1 h h1){ob:Obj}(q:h.get? b=some ob)(n:H b=none)(hx:b ∉ ex):∃ sl,h1.get? b=some { ob with slots:=sl }:=by
 by_cases hb:b∈fs
 ·exact u.slot b ob q n hb hx
 ·exact⟨ob.slots,u.keep b ob q n hb hx⟩
theorem Un.kept(k:∀ b u,h.get? b=some u->h'.get? b=some u):Un fs ex H H h h' :=
 ⟨fun b ob q _ _ _=>k b ob q,fun b ob q _ _ _=>⟨ob.slots,k b ob q⟩,fun _ _ _ n _=>n,fun b ob q _=>⟨ob,k b ob q⟩,fun _ _ q=>q,fun _ _ _ q=>q,fun _ ps q=>⟨#[],by rw[q];simp⟩⟩
theorem Un.refl:Un fs ex H H h h:=Un.kept fun _ _ q=>q
theorem Un.laid(k:∀ b u,h.get? b=some u->h'.get? b=some u)(hp:h.objs.size<=a)(hn:H a=none):Un fs ex H (upd H a o) h h' where
 keep:=fun b u q _ _ _=>k b u q
 slot:=fun b u q _ _ _=>⟨u.slots,k b u q⟩
 free:=fun b u q n _=>by rw[bw (aaO (aaD (aar q) hp))];exact n
 there:=fun b u q _=>⟨u,k b u q⟩
 qA:=fun b xs q=>by rw[bw (ck q hn)];exact q
 o8:=fun b u xs q=>by rw[bw (ck q hn)];exact q
 qB:=fun b ps q=>⟨#[],by rw[bw (ck q hn),q];simp⟩
theorem Un.write(mu:OQ (H x))(he:e=x\/H e=some (.own x))(k:∀ b u,b≠e->h.get? b=some u->h'.get? b=some u)(vx:∃ u,h'.get? e=some u):Un fs ex H (upd H x o) h h':=by
 have hx:∀ b,H b=none->b≠x:=fun b n z=>by subst z;rw[n]at mu;exact mu
 have hb:∀ b,H b=none->b≠e:=fun b n z=>by
  subst z;rcases he with r | r
  ·exact hx b n r
  ·rw[n]at r;cases r
 have hm:∀ b u,H b=some u->¬ OQ (some u)->b≠x:=fun b u q nm z=>by subst z;rw[q]at mu;exact nm mu
 refine⟨fun b u q n _ _=>k b u (hb b n) q,fun b u q n _ _=>⟨u.slots,k b u (hb b n) q⟩,fun b u q n _=>by rw[bw (hx b n)];exact n,fun b u q _=>?_,
  fun b xs q=>by rw[bw (hm b _ q fun z=>z)];exact q,fun b u xs q=>by rw[bw (hm b _ q fun z=>z)];exact q,fun b ps q=>⟨#[],by rw[bw (hm b _ q fun z=>z),q];simp⟩⟩
 by_cases Ky:b=e
 ·subst Ky;exact vx
 ·exact⟨u,k b u Ky q⟩
end
def FU(h:Heap)(H:Hp):List Addr:=(List.range h.objs.size).filter fun a=>(H a).isSome
def qC(h:Heap)(H:Hp):Heap:=PySem.W.hideAll h (FU h H)
theorem zM(h:Heap)(H:Hp):(qC h H).objs.size=h.objs.size:=PySem.W.hideAll_size _ _
theorem By{o:Obj}(e:h.get? b=some o)(n:H b=none):(qC h H).get? b=some o :=
 PySem.W.hideAll_get _ e fun hm=>by
  have q:(H b).isSome=true:=(abg.mp hm).2;rw[n]at q;simp at q
theorem FV{o:Obj}(e:(qC h H).get? b=some o):h.get? b=some o/\H b=none:=by
 have e':h.get? b=some o:=PySem.W.of_hideAll (FU h H) e;refine⟨e',?_⟩;cases q:H b with
 | none=>rfl
 | some x =>
  have hm:b∈FU h H:=abg.mpr ⟨List.mem_range.mpr (aar e'),by simp[q]⟩;have z:(qC h H).get? b=none:=PySem.W.hideAll_none (FU h H) hm;rw[z]at e;cases e
structure Mod(K:zn)(mg:xL)(base:Heap):Prop where
 Ou:K.In base
 glob:base.Ns mainGlobals mg
 blt:∃ mb,base.Ns builtinsNs mb/\∀ x:Str,x ≠ "__name__"->mb x=bootBuiltins x
 nolimit:base.NoLimit
structure Cx where
 prog:u8
 w:World
 K:zn
 mg:Str->Option Value
 base:Heap
 A:tx
 N:List Str
 bc:Shared
 bE:Hp
 env:Env
 outer:List Env
 stack:List Env
 ex:List Addr
 fn:Str->Bool
 calm:Bool
 pn:List (Addr×Obj)
 xe:Value->Shared->Prop
variable {X:Cx}
def gR(l:List Env):List Addr:=l.filterMap (·.frame)
abbrev Cx.fs(X:Cx):List Addr:=gR X.outer
def Sg(sc:Scope)(x:Str):Prop:=sc.names.lookup x=some .local\/sc.names.lookup x=some .cell\/sc.names.lookup x=some .free
def Loc(sc:Scope)(x:Str):Prop:=sc.names.lookup x=some .local\/sc.names.lookup x=some .cell
def Look(env:Env)(h:Heap)(m:xL)(x:Str)(u:Value):Prop :=
 (env.kindOf x=some .local/\m x=some u)\/((env.kindOf x=some .cell\/env.kindOf x=some .free)/\∃ c,env.cells.lookup x=some c/\h.IsCell c (some u))
structure Cx.Ok(X:Cx):Prop where
 mod:Mod X.K X.mg X.base
 kind:X.env.scope.kind=.function
 glob:X.env.globals=mainGlobals
 blt:X.env.builtins=builtinsNs
 above:X.bc.heap.objs.size<=X.env.locals
 inj:∀ x y c,X.env.cells.lookup x=some c->X.env.cells.lookup y=some c->x=y
 has:∀ x,(X.env.kindOf x=some .cell\/X.env.kindOf x=some .free)->∃ c,X.env.cells.lookup x=some c
 OS:∀ x c,X.fn x=true->X.env.cells.lookup x=some c->X.bc.heap.objs.size<=c
 hd:X.calm=true->X.A.handled=none
 frames:X.A.frames=some X.stack
 Kz:X.stack=X.outer\/(X.stack=X.env::X.outer/\X.env.frame=some X.env.locals)
 Sh:∀ b∈X.ex,b≠X.env.locals/\∀ x c,X.env.cells.lookup x=some c->c≠b
 bs:∀ b o,X.base.get? b=some o->X.bc.heap.get? b=some o/\X.bE b=none
 IJ:X.base.objs.size<=X.bc.heap.objs.size
 Bz:∀ b o,X.base.get? b=some o->b ∉ X.ex
 BA:∀ b∈X.ex,b ∉ X.fs
 mw:X.bc.heap.FunFrames X.base X.outer
 FC:∀ b∈X.fs,X.bE b=none
structure Inv(X:Cx)(pins:yp)(σ:List (Option V))(H:Hp)(s:Shared):Prop where
 ok:X.Ok
 os:s.os=X.bc.os
 bare:AllBare s.gens
 base:Un X.fs X.ex X.bE H X.bc.heap s.heap
 loc:∃ m,s.heap.Ns X.env.locals m/\∀(i:Nat) (x:Str) (v:V),X.N[i]?=some x->σ[i]?=some (some v)->Sg X.env.scope x->∃ u,RelV v u/\Look X.env s.heap m x u
 cell:∀ x c,X.env.cells.lookup x=some c->∃ v,s.heap.IsCell c v
 free:H X.env.locals=none
 iA:∀ x c,X.env.cells.lookup x=some c->H c=none
 pin:∀ p∈X.pn++pins,s.heap.get? p.1=some p.2/\H p.1=none/\p.1≠X.env.locals/\p.1 ∉ X.fs/\∀ v,p.2.data≠.cell v
 cv:eC X.prog X.w H s.heap
 len:σ.length=X.N.length
section
variable {σ:List (Option V)}
theorem Cx.Ok.Tv(ok:X.Ok){o:Obj}(e:X.base.get? b=some o):b ∉ X.fs:=fun hb=>by
 have:=(ok.mw.mem hb).1;rw[e]at this;cases this
theorem Inv.bs(I:Inv X pins σ H s):∀ b o,X.base.get? b=some o->s.heap.get? b=some o/\H b=none:=fun b o e =>
 ⟨I.base.keep b o (I.ok.bs b o e).1 (I.ok.bs b o e).2 (I.ok.Tv e) (I.ok.Bz b o e),I.base.free b o (I.ok.bs b o e).1 (I.ok.bs b o e).2 (I.ok.Bz b o e)⟩
theorem Inv.bk(I:Inv X pins σ H s):∀ b o,X.base.get? b=some o->s.heap.get? b=some o:=fun b o e=>(I.bs b o e).1
theorem Inv.mod(I:Inv X pins σ H s):Mod X.K X.mg X.base:=I.ok.mod
theorem Inv.l6(I:Inv X pins σ H s):X.K.In s.heap:=I.ok.mod.Ou.keeps I.bk
theorem Inv.lt(I:Inv X pins σ H s):X.env.locals < s.heap.objs.size:=let ⟨_,hn,_⟩:=I.loc;hn.lt
theorem Inv.sz(I:Inv X pins σ H s):X.bc.heap.objs.size<=s.heap.objs.size:=aaq I.ok.above (aaH I.lt)
theorem Inv.Tw(I:Inv X pins σ H s)(h:s.heap.objs.size<=a):a ∉ X.fs:=fun hb=>by
 obtain⟨_,o,ho,_⟩:=I.ok.mw.mem hb;exact absurd (aaD (aar ho) (aaq I.sz h)) (aa1 _)
theorem Inv.KC(I:Inv X pins σ H s):∀ x c,X.env.cells.lookup x=some c->c≠X.env.locals:=fun x c e z=>by
 obtain⟨v,o,ho,hd⟩:=I.cell x c e;obtain⟨m,⟨o',es,ep,BB,IK,_⟩,_⟩:=I.loc;rw[z,BB]at ho;cases ho;rw[IK]at hd;cases hd
theorem Inv.mw(I:Inv X pins σ H s):s.heap.FunFrames X.base X.outer:=by
 have all:∀(l:List Env),(∀ b∈gR l,b∈X.fs)->X.bc.heap.FunFrames X.base l->s.heap.FunFrames X.base l:=by
  intro l;induction l with
  | nil=>intro _ _;trivial
  | cons env r ih =>
   intro hs hl;obtain⟨hk,⟨L,o,hf,hn,ho,hd⟩,hr⟩:=hl;have hL:L∈X.fs:=hs L (by unfold gR;rw[acm,hf];exact aaF);obtain⟨sl,e⟩:=I.base.slot L o ho (I.ok.FC L hL) hL fun z=>I.ok.BA L z hL;exact⟨hk,⟨L,_,hf,hn,e,hd⟩,ih (fun b hb=>hs b (by unfold gR;rw[acm,hf];exact aax _ hb)) hr⟩
 exact all X.outer (fun _ hb=>hb) I.ok.mw
theorem Inv.stack(I:Inv X pins σ H s):s.heap.FunFrames X.base X.stack:=by
 rcases I.ok.Kz with e | ⟨e,hf⟩
 ·rw[e];exact I.mw
 ·rw[e];obtain⟨m,hn,_⟩:=I.loc;refine .cons (by rw[I.ok.kind];decide) hf hn ?_ I.mw;exact Heap.get?_none_of_le (aaq I.ok.IJ I.ok.above)
theorem Inv.vL(I:Inv X pins σ H s):∀ b∈gR X.stack,b∈X.env.locals::X.fs:=fun b hb=>by
 rcases I.ok.Kz with e | ⟨e,hf⟩
 ·rw[e]at hb;exact aax _ hb
 ·rw[e]at hb;unfold gR at hb;rw[acm,hf]at hb;exact hb
theorem Inv.qD(I:Inv X pins σ H s):∀ b∈gR X.stack,H b=none:=fun b hb=>by
 rcases aan.mp (I.vL b hb)with e | hb
 ·rw[e];exact I.free
 ·obtain⟨_,o,ho,_⟩:=I.ok.mw.mem hb;exact I.base.free b o ho (I.ok.FC b hb) fun z=>I.ok.BA b z hb
theorem Inv.step{g':Array GenState}{d':Drawn}(I:Inv X pins σ H s)(FD:∀ b∈ch,(b∈X.ex\/X.bc.heap.objs.size<=b)/\b≠X.env.locals/\(∀ x c,X.env.cells.lookup x=some c->c≠b)/\∀ p∈X.pn++pins,p.1≠b)(keep:∀ b o,b≠X.env.locals->b ∉ X.fs->b ∉ ch->s.heap.get? b=some o->H b=none->h'.get? b=some o)(slot:∀ b o,b≠X.env.locals->b∈X.fs->b ∉ ch->s.heap.get? b=some o->H b=none->∃ sl,h'.get? b=some { o with slots:=sl })(free:∀ b o,b ∉ ch->s.heap.get? b=some o->H b=none->H' b=none)(there:∀ b o,b ∉ ch->s.heap.get? b=some o->∃ o',h'.get? b=some o')(qA:∀ b xs,H b=some (.tup xs)->H' b=some (.tup xs))(o8:∀ b o u,H b=some (.jV o u)->H' b=some (.jV o u))(qB:∀ b ps,H b=some (.II ps)->∃ more,H' b=some (.II (ps++more)))(ns:∀ m,s.heap.Ns X.env.locals m->h'.Ns X.env.locals m)(cv:eC X.prog X.w H' h')(hg:AllBare g') :
  Inv X pins σ H' { s with heap:=h',gens:=g',drawn:=d',toks:=t' }:=by
 have WD:∀ b o,X.bc.heap.get? b=some o->b≠X.env.locals:=fun b o e=>aaO (aaD (aar e) I.ok.above);have Si:∀ b o,X.bc.heap.get? b=some o->b ∉ X.ex->b ∉ ch:=fun b o e hx hb=>by
  rcases (FD b hb).1 with z | z
  ·exact hx z
  ·exact absurd (aaD (aar e) z) (aa1 _)
 have cellK:∀ x c,X.env.cells.lookup x=some c->∀ v,s.heap.IsCell c v->h'.IsCell c v:=fun x c e v zz=>by
  obtain⟨o,ho,hd⟩:=zz
  have OT:c ∉ ch:=fun z=>(FD c z).2.2.1 x c e rfl
  by_cases hc:c∈X.fs
  ·obtain⟨sl,q⟩:=slot c o (I.KC x c e) hc OT ho (I.iA x c e);exact⟨_,q,hd⟩
  ·exact⟨o,keep c o (I.KC x c e) hc OT ho (I.iA x c e),hd⟩
 refine⟨I.ok,I.os,hg,⟨fun b o e n hb hx=>?_,fun b o e n hb hx=>?_,fun b o e n hx=>?_,fun b o e hx=>?_,fun b xs e=>qA b xs (I.base.qA b xs e),fun b o xs e=>o8 b o xs (I.base.o8 b o xs e),fun b ps e=>?_⟩,?_,fun x c e=>?_,?_,fun x c e=>?_,fun p hp=>?_,cv,I.len⟩
 ·exact keep b o (WD b o e) hb (Si b o e hx) (I.base.keep b o e n hb hx) (I.base.free b o e n hx)
 ·obtain⟨sl,e1⟩:=I.base.slot b o e n hb hx;obtain⟨Tx,e2⟩:=slot b _ (WD b o e) hb (Si b o e hx) e1 (I.base.free b o e n hx);exact⟨Tx,e2⟩
 ·obtain⟨o',e1⟩:=I.base.there b o e hx;exact free b o' (Si b o e hx) e1 (I.base.free b o e n hx)
 ·obtain⟨o',e1⟩:=I.base.there b o e hx;exact there b o' (Si b o e hx) e1
 ·obtain⟨m1,e1⟩:=I.base.qB b ps e;obtain⟨m2,e2⟩:=qB b _ e1;exact⟨m1++m2,by rw[e2,Array.append_assoc]⟩
 ·obtain⟨m,hn,hl⟩:=I.loc;refine⟨m,ns m hn,fun i x v e1 e2 e3=>?_⟩;obtain⟨u,r,l⟩:=hl i x v e1 e2 e3;refine⟨u,r,?_⟩;rcases l with l | ⟨k,c,e,z⟩
  ·exact .inl l
  ·exact .inr ⟨k,c,e,cellK x c e _ z⟩
 ·obtain⟨v,z⟩:=I.cell x c e;exact⟨v,cellK x c e v z⟩
 ·obtain⟨m,⟨o,_,_,ho,_⟩,_⟩:=I.loc;exact free _ o (fun z=>(FD _ z).2.1 rfl) ho I.free
 ·obtain⟨v,o,ho,hd⟩:=I.cell x c e;exact free c o (fun z=>(FD c z).2.2.1 x c e rfl) ho (I.iA x c e)
 ·obtain⟨e,n,ne,nf,d⟩:=I.pin p hp;have OT:p.1 ∉ ch:=fun z=>(FD p.1 z).2.2.2 p hp rfl;exact⟨keep p.1 p.2 ne nf OT e n,free p.1 p.2 OT e n,ne,nf,d⟩
theorem Inv.un(I:Inv X pins σ H s)(u:Un X.fs [] H H' s.heap h')(cv:eC X.prog X.w H' h'):Inv X pins σ H' { s with heap:=h',toks:=t' }:=by
 obtain⟨m,⟨o,es,ep,ho,r⟩,_⟩:=id I.loc;obtain⟨sl,hL⟩:=u.any ho I.free (by simp);exact I.step (g':=s.gens) (d':=s.drawn) (ch:=[]) (fun _ z=>nomatch z) (fun b o _ hb _ e n=>u.keep b o e n hb (by simp)) (fun b o _ hb _ e n=>u.slot b o e n hb (by simp)) (fun b o _ e n=>u.free b o e n (by simp)) (fun b o _ e=>u.there b o e (by simp)) u.qA u.o8 u.qB (fun m' hm=>by
  obtain⟨o',FE,Tz,BB,r'⟩:=hm;rw[ho]at BB;cases BB;exact⟨_,FE,Tz,hL,r'⟩) cv I.bare
theorem Inv.call{g':Array GenState}{d':Drawn}(I:Inv X pins σ H s)(u:Un (gR X.stack) ch H H' s.heap h')(cv:eC X.prog X.w H' h')(hg:AllBare g')(FD:∀ b∈ch,(b∈X.ex\/X.bc.heap.objs.size<=b)/\b≠X.env.locals/\(∀ x c,X.env.cells.lookup x=some c->c≠b)/\∀ p∈X.pn++pins,p.1≠b) :
  Inv X pins σ H' { s with heap:=h',gens:=g',drawn:=d',toks:=t' }:=by
 obtain⟨m,⟨o,es,ep,ho,r⟩,_⟩:=id I.loc;obtain⟨sl,hL⟩:=u.any ho I.free fun z=>(FD _ z).2.1 rfl;exact I.step (ch:=ch) FD (fun b o hL hb hc e n=>u.keep b o e n (fun z=>(aan.mp (I.vL b z)).elim hL hb) hc) (fun b o _ _ hc e n=>u.any e n hc) (fun b o hc e n=>u.free b o e n hc) (fun b o hc e=>u.there b o e hc) u.qA u.o8 u.qB (fun m' hm=>by
  obtain⟨o',FE,Tz,BB,r'⟩:=hm;rw[ho]at BB;cases BB;exact⟨_,FE,Tz,hL,r'⟩) cv hg
theorem Inv.turned{it:Addr}(I:Inv X pins σ H s)(k:∀ b o,b≠it->s.heap.get? b=some o->h'.get? b=some o)(hn:H it=none)(hL:it≠X.env.locals)(h1:it∈X.ex\/X.bc.heap.objs.size<=it)(h2:∀ x c,X.env.cells.lookup x=some c->c≠it)(h3:∀ p∈X.pn++pins,p.1≠it):Inv X pins σ H { s with heap:=h',toks:=t' }:=by
 have OU:∀ b u,H b=some u->b≠it:=fun b u e z=>by rw[z,hn]at e;cases e
 refine I.step (g':=s.gens) (d':=s.drawn) (ch:=[it]) (fun b hb=>?_) (fun b o _ _ hc e _=>k b o (fun z=>hc (by simp[z])) e) (fun b o _ _ hc e _=>⟨o.slots,k b o (fun z=>hc (by simp[z])) e⟩) (fun _ _ _ _ n=>n)
  (fun b o hc e=>⟨o,k b o (fun z=>hc (by simp[z])) e⟩) (fun _ _ e=>e) (fun _ _ _ e=>e) (fun b ps e=>⟨#[],by rw[e];simp⟩) (fun m hm=>?_) (fun b u e=>?_) I.bare
 ·have e:b=it:=by simpa using hb
  subst e;exact⟨h1,hL,h2,h3⟩
 ·obtain⟨o,es,ep,ho,r⟩:=hm;exact⟨o,es,ep,k _ o (acf hL) ho,r⟩
 ·refine(I.cv b u e).tj (fun c v hc q=>k c v ?_ q) (fun _ q=>q) fun _ _ q=>q;rcases hc with z | z
  ·rw[z];exact OU b u e
  ·exact OU c _ z
theorem Inv.tok(I:Inv X pins σ H s)(t:Nat):Inv X pins σ H { s with toks:=t }:=I.un (h':=s.heap) (t':=t) Un.refl I.cv
theorem Inv.kept{t':Nat}(I:Inv X pins σ H s)(k:∀ b u,s.heap.get? b=some u->h'.get? b=some u):Inv X pins σ H { s with heap:=h',toks:=t' }:=I.un (Un.kept k) (I.cv.kept k)
theorem Inv.laid{a:Addr}{o:HO}{t':Nat}(I:Inv X pins σ H s)(k:∀ b u,s.heap.get? b=some u->h'.get? b=some u)(hp:s.heap.objs.size<=a)(new:cq X.prog X.w (upd H a o) h' a o) :
  Inv X pins σ (upd H a o) { s with heap:=h',toks:=t' }:=I.un (Un.laid k hp (I.cv.fresh hp)) (I.cv.laid k hp new)
theorem Inv.write{x e:Addr}{o:HO}{t':Nat}(I:Inv X pins σ H s)(mu:OQ (H x))(he:e=x\/H e=some (.own x))(k:∀ b u,b≠e->s.heap.get? b=some u->h'.get? b=some u)(vx:∃ u,h'.get? e=some u)
  (new:cq X.prog X.w (upd H x o) h' x o):Inv X pins σ (upd H x o) { s with heap:=h',toks:=t' }:=I.un (Un.write mu he k vx) (I.cv.write mu he k vx new)
theorem Inv.yh{IL:yp}(I:Inv X pins σ H s)(h:∀ p∈IL,s.heap.get? p.1=some p.2/\H p.1=none/\p.1≠X.env.locals/\p.1 ∉ X.fs/\∀ v,p.2.data≠.cell v):Inv X IL σ H s :=
 ⟨I.ok,I.os,I.bare,I.base,I.loc,I.cell,I.free,I.iA,fun p hp=>(abo.mp hp).elim (fun z=>I.pin p (acg _ z)) (h p),I.cv,I.len⟩
theorem tm(hN:N.Nodup){i j:Nat}(a:N[i]?=some x)(b:N[j]?=some x):i=j:=by
 obtain⟨h1,e1⟩:=aas.mp a;obtain⟨h2,e2⟩:=aas.mp b;exact(List.getElem_inj hN).mp (e1.trans e2.symm)
theorem zN{i:Nat}{Q:Unit->Shared->Prop}(I:Inv X pins σ H s)(hN:X.N.Nodup)(hi:X.N[i]?=some x)(hx:Loc X.env.scope x)(r:RelV v u)(h:∀ s',Inv X pins (σ.set i (some v)) H s'->(∃ a,Heap.SameBut a s.heap s'.heap/\(a=X.env.locals\/X.env.cells.lookup x=some a))->Q () s')(hf:autoParam (X.fn x=true\/X.env.scope.names.lookup x=some .local) ra4):wpAny M A (storeName X.env x u) Q E s:=by
 obtain⟨m,hn,hl⟩:=id I.loc;have TB:(X.env.scope.kind == .class||(X.env.scope.kind == .module&&X.env.locals != X.env.globals))=false:=by rw[I.ok.kind];rfl
 have OV:i < σ.length:=by rw[I.len];exact(aas.mp hi).1
 have KC:=I.KC;have tracked:∀{a:Addr} {h':Heap},(∃ o,s.heap.get? a=some o/\H a=none)->Heap.SameBut a s.heap h'->eC X.prog X.w H h':=fun{a h'} ha hs b ob e=>by
  obtain⟨_,_,IM⟩:=ha;refine(I.cv b ob e).tj (fun c w' hc q=>(hs.2 c ?_).trans q) (fun _ q=>q) fun _ _ q=>q;rintro rfl;rcases hc with rfl | hc
  ·rw[IM]at e;cases e
  ·rw[IM]at hc;cases hc
 rcases hx with hk | hk
 ·refine wpAny_storeName_local hk hn (fun h' OW hs=>?_) TB;obtain⟨oL,_,_,YJ,_⟩:=id hn;refine h _ ⟨I.ok,I.os,I.bare,⟨fun b o e n hb hx=>?_,fun b o e n hb hx=>?_,I.base.free,fun b o e hx=>?_,I.base.qA,I.base.o8,I.base.qB⟩,⟨_,OW,fun j y v' e1 e2 e3=>?_⟩,fun y c e=>?_,I.free,I.iA,fun p hp=>?_,tracked ⟨oL,YJ,I.free⟩ hs,by simpa using I.len⟩ ⟨_,hs,.inl rfl⟩
  ·exact(hs.2 b (aaO (aaD (aar e) I.ok.above))).trans (I.base.keep b o e n hb hx)
  ·obtain⟨sl,e1⟩:=I.base.slot b o e n hb hx;exact⟨sl,(hs.2 b (aaO (aaD (aar e) I.ok.above))).trans e1⟩
  ·obtain⟨o',e1⟩:=I.base.there b o e hx;exact⟨o',(hs.2 b (aaO (aaD (aar e) I.ok.above))).trans e1⟩
  ·by_cases hj:j=i
   ·subst hj;rw[hi]at e1;cases e1;rw[List.getElem?_set_self OV]at e2;cases e2;exact⟨u,r,.inl ⟨hk,by simp⟩⟩
   ·rw[List.getElem?_set_ne (acf hj)]at e2;obtain⟨u',r',q⟩:=hl j y v' e1 e2 e3;refine⟨u',r',?_⟩;rcases q with⟨k,e⟩ | ⟨k,c,e,z⟩
    ·refine .inl ⟨k,?_⟩;have:y≠x:=fun e=>hj (tm hN e1 (e▸hi));simp[this,e]
    ·exact .inr ⟨k,c,e,z.sameBut hs (KC y c e)⟩
  ·obtain⟨w',z⟩:=I.cell y c e;exact⟨w',z.sameBut hs (KC y c e)⟩
  ·obtain⟨e,n,ne,nf,d⟩:=I.pin p hp;exact⟨(hs.2 p.1 ne).trans e,n,ne,nf,d⟩
 ·have TC:X.fn x=true:=by
   rcases hf with z | z
   ·exact z
   ·rw[z]at hk;cases hk
  obtain⟨c,hc⟩:=I.ok.has x (.inl hk);obtain⟨w',z⟩:=I.cell x c hc;refine wpAny_storeName_cell I.ok.kind hk hc z (fun h' BC hs=>?_);obtain⟨oc,WE,TF⟩:=id z;refine h { s with heap:=h' } ⟨I.ok,I.os,I.bare,⟨fun b o e n hb hx=>?_,fun b o e n hb hx=>?_,I.base.free,fun b o e hx=>?_,I.base.qA,I.base.o8,I.base.qB⟩,⟨m,hn.sameBut hs (acf (KC x c hc)),fun j y v' e1 e2 e3=>?_⟩,fun y c' e=>?_,I.free,I.iA,fun p hp=>?_,tracked ⟨oc,WE,I.iA x c hc⟩ hs,by simpa using I.len⟩ ⟨c,hs,.inr hc⟩
  ·exact(hs.2 b (aaO (aaD (aar e) (I.ok.OS x c TC hc)))).trans (I.base.keep b o e n hb hx)
  ·obtain⟨sl,e1⟩:=I.base.slot b o e n hb hx;exact⟨sl,(hs.2 b (aaO (aaD (aar e) (I.ok.OS x c TC hc)))).trans e1⟩
  ·obtain⟨o',e1⟩:=I.base.there b o e hx;exact⟨o',(hs.2 b (aaO (aaD (aar e) (I.ok.OS x c TC hc)))).trans e1⟩
  ·by_cases hj:j=i
   ·subst hj;rw[hi]at e1;cases e1;rw[List.getElem?_set_self OV]at e2;cases e2;exact⟨u,r,.inr ⟨.inl hk,c,hc,BC⟩⟩
   ·rw[List.getElem?_set_ne (acf hj)]at e2;obtain⟨u',r',q⟩:=hl j y v' e1 e2 e3;refine⟨u',r',?_⟩;rcases q with q | ⟨k,c',e,z'⟩
    ·exact .inl q
    ·refine .inr ⟨k,c',e,z'.sameBut hs ?_⟩;rintro rfl;exact hj (tm hN e1 (I.ok.inj _ _ _ e hc▸hi))
  ·by_cases WG:c'=c
   ·subst WG;exact⟨_,BC⟩
   ·obtain⟨w2,z2⟩:=I.cell y c' e;exact⟨w2,z2.sameBut hs WG⟩
  ·obtain⟨e,n,ne,nf,d⟩:=I.pin p hp;refine⟨(hs.2 p.1 ?_).trans e,n,ne,nf,d⟩;intro q;rw[q,WE]at e;have q':oc=p.2:=aaV e;exact d w' (by rw[<- q'];exact TF)
theorem nB{i:Nat}{Q:Unit->Shared->Prop}(I:Inv X pins σ H s)(hN:X.N.Nodup)(hi:X.N[i]?=some x)(hx:Loc X.env.scope x)(r:RelV v u)(h:∀ s',Inv X pins (σ.set i (some v)) H s'->Q () s')(hf:autoParam (X.fn x=true\/X.env.scope.names.lookup x=some .local) ra4):wpAny M A (storeName X.env x u) Q E s :=
 zN I hN hi hx r (fun s' I' _=>h s' I') hf
theorem Inv.OX(I:Inv X pins σ H s)(ho:s'.os=s.os)(u:Un (gR X.stack) ch H H' s.heap s'.heap)(cv:eC X.prog X.w H' s'.heap)(hg:AllBare s'.gens)(FD:∀ b∈ch,(b∈X.ex\/X.bc.heap.objs.size<=b)/\b≠X.env.locals/\(∀ x c,X.env.cells.lookup x=some c->c≠b)/\∀ p∈X.pn++pins,p.1≠b):Inv X pins σ H' s':=by
 obtain⟨h',g',d',t',o'⟩:=s';have e:o'=s.os:=ho;subst e;exact I.call (g':=g') (t':=t') (d':=d') u cv hg FD
end
abbrev XK:=Value->wS->Hp->Prop
abbrev St:=List (Option V)
variable {σ:St}
abbrev VK:=V->Hp->Prop
abbrev TE:=St->Hp->VK->Prop
variable {ta te:TE}
abbrev TT:=St->Hp->(Bool->Hp->Prop)->Prop
abbrev TA:=St->Hp->(List V->Hp->Prop)->Prop
structure Ends where
 nx:St->Hp->Prop
 rt:VK
 bk:St->Hp->Prop:=fun _ _=>False
 ct:St->Hp->Prop:=fun _ _=>False
abbrev TS:=Ends->St->Hp->Prop
def EP(X:Cx)(pins:yp)(σ:St)(Q:VK)(u:Value)(s':Shared):Prop:=∃ v H',Inv X pins σ H' s'/\RelV v u/\Q v H'
def TP(X:Cx)(pins:yp)(σ:St)(Q:Bool->Hp->Prop)(b:Bool)(s':Shared):Prop:=∃ H',Inv X pins σ H' s'/\Q b H'
def AP(X:Cx)(pins:yp)(σ:St)(Q:List V->Hp->Prop)(us:wf)(s':Shared):Prop:=∃ vs H',Inv X pins σ H' s'/\Vals vs us/\Q vs H'
def SP(X:Cx)(pins:yp)(D:Ends)(f:Flow)(s':Shared):Prop :=
 match f with
 | .next=>∃ bG H',Inv X pins bG H' s'/\D.nx bG H'
 | .brk=>∃ bG H',Inv X pins bG H' s'/\D.bk bG H'
 | .cont=>∃ bG H',Inv X pins bG H' s'/\D.ct bG H'
 | .ret u=>∃ v bG H',Inv X pins bG H' s'/\RelV v u/\D.rt v H'
def PE(X:Cx)(e:Expr)(t:TE):Prop :=
 ∀(pins:yp) (s:Shared) (σ:St) (H:Hp) (Q:VK),Inv X pins σ H s->t σ H Q->wpAny (model X.prog X.w) X.A (eval e X.env) (EP X pins σ Q) X.xe s
def PT(X:Cx)(e:Expr)(t:TT):Prop :=
 ∀(pins:yp) (s:Shared) (σ:St) (H:Hp) (Q:Bool->Hp->Prop),Inv X pins σ H s->t σ H Q->wpAny (model X.prog X.w) X.A (isTrue e X.env (eval e X.env)) (TP X pins σ Q) X.xe s
def PW(X:Cx)(e:Expr)(t:TT):Prop :=
 ∀(whole:Sem Value) (pins:yp) (s:Shared) (σ:St) (H:Hp) (Q:Bool->Hp->Prop),Inv X pins σ H s->t σ H Q->wpAny (model X.prog X.w) X.A (isTrue e X.env whole) (TP X pins σ Q) X.xe s
theorem PW.pt{e:Expr}{t:TT}(h:PW X e t):PT X e t:=h _
def PA(X:Cx)(es:v6)(t:TA):Prop :=
 ∀(pos:Pos) (pins:yp) (s:Shared) (σ:St) (H:Hp) (Q:List V->Hp->Prop),Inv X pins σ H s->t σ H Q->wpAny (model X.prog X.w) X.A (spliced (backTo pos (starEach es X.env))) (AP X pins σ Q) X.xe s
def PS(X:Cx)(st:Stmt)(t:TS):Prop :=
 ∀(pins:yp) (s:Shared) (σ:St) (H:Hp) (D:Ends),Inv X pins σ H s->t D σ H->wpAny (model X.prog X.w) X.A (exec st X.env) (SP X pins D) X.xe s
def yi(X:Cx)(st:ul)(t:TS):Prop :=
 ∀(pins:yp) (s:Shared) (σ:St) (H:Hp) (D:Ends),Inv X pins σ H s->t D σ H->wpAny (model X.prog X.w) X.A (execs st X.env) (SP X pins D) X.xe s
theorem cL{α:Type}{t:Sem α}{Q Q':α->Shared->Prop}(h:wpAny M A t Q E s)(hQ:∀ a s,Q a s->Q' a s):wpAny M A t Q' E s:=abv h hQ fun _ _ x=>x
section
def KD(i:Nat):TE:=fun σ H Q=>∃ v,σ[i]?=some (some v)/\Q v H
def tC(v:V):TE:=fun _ H Q=>Q v H
theorem KH{i:Nat}(hN:X.N[i]?=some x)(hv:Sg X.env.scope x)(hd:autoParam ((x == ("__debug__":Str))=false) ra1)(zO:autoParam ((x == ("__classdict__":Str))=false) ra1):PE X (.Name x pos) (KD i):=by
 intro pins s σ H Q I h;obtain⟨v,e,h⟩:=h;obtain⟨m,hn,hl⟩:=I.loc;obtain⟨u,r,l⟩:=hl i x v hN e hv;have fin:EP X pins σ Q u s:=⟨v,H,I,r,h⟩;rcases l with⟨hk,hm⟩ | ⟨hk,c,hc,IP⟩
 ·exact wpAny_Name (wpAny_loadName_local I.ok.kind hk hn hm fin) hd
 ·rcases hk with hk | hk
  ·exact wpAny_Name (wpAny_loadName_cell I.ok.kind hk hc IP fin) hd
  ·exact wpAny_Name (wpAny_loadName_free I.ok.kind hk hc IP fin zO) hd
theorem BD{i j pos}:PE X (.Constant (.int i) j pos) (tC (.int i)):=fun _ _ _ H _ I h=>wpAny_Constant_int ⟨.int i,H,I.tok _,⟨_,rfl⟩,h⟩
theorem IQ{b j pos}:PE X (.Constant (.bool b) j pos) (tC (.bl b)):=fun _ _ _ H _ I h=>Constant_bool ⟨.bl b,H,I,rfl,h⟩
theorem BE{j pos}:PE X (.Constant .none j pos) (tC .dj):=fun _ _ _ H _ I h=>Constant_none ⟨.dj,H,I,rfl,h⟩
theorem BF{x j pos}:PE X (.Constant (.str x) j pos) (tC (.str x)):=fun _ _ _ H _ I h=>Calls.Constant_str ⟨.str x,H,I.tok _,⟨_,rfl⟩,h⟩
def Gl(X:Cx)(x:Str):Prop:=X.env.kindOf x=some .globalImplicit
theorem mP(I:Inv X pins σ H s)(hg:Gl X x)(hm:X.mg x=some u)(h:Q u s)(hd:autoParam ((x == ("__debug__":Str))=false) ra1):wpAny (model X.prog X.w) X.A (eval (.Name x pos) X.env) Q E s :=
 Calls.Name_function_global I.ok.kind hg (Calls.loadGlobal_global (by rw[I.ok.glob];exact I.mod.glob.keeps I.bk) hm h) hd
theorem j2(I:Inv X pins σ H s)(hg:Gl X x)(hm:X.mg x=none)(hv:bootBuiltins x=some u)(h:Q u s)(hn:autoParam (x ≠ "__name__") ra1)(hd:autoParam ((x == ("__debug__":Str))=false) ra1):wpAny (model X.prog X.w) X.A (eval (.Name x pos) X.env) Q E s:=by
 obtain⟨mb,h1,h2⟩:=I.mod.blt;exact Calls.Name_function_global I.ok.kind hg (Calls.loadGlobal_builtin (by rw[I.ok.glob];exact I.mod.glob.keeps I.bk) hm (by rw[I.ok.blt];exact h1.keeps I.bk) ((h2 x hn).trans hv) h) hd
theorem yj(hg:Gl X x)(hm:X.mg x=some u)(r:RelV v u)(hd:autoParam ((x == ("__debug__":Str))=false) ra1):PE X (.Name x pos) (tC v) :=
 fun _ _ _ H _ I h=>mP I hg hm ⟨v,H,I,r,h⟩ hd
theorem FW(hg:Gl X x)(hm:X.mg x=none)(hv:bootBuiltins x=some u)(r:RelV v u)(hn:autoParam (x ≠ "__name__") ra1)(hd:autoParam ((x == ("__debug__":Str))=false) ra1):PE X (.Name x pos) (tC v) :=
 fun _ _ _ H _ I h=>j2 I hg hm hv ⟨v,H,I,r,h⟩ hn hd
variable {a b:Expr}{tb:TE}
def PC(X:Cx)(op:CmpOp)(a b:Expr)(t:TE):Prop :=
 ∀(pins:yp) (s:Shared) (σ:St) (H:Hp) (Q:VK),Inv X pins σ H s->t σ H Q ->
  wpAny (model X.prog X.w) X.A (eval a X.env) (fun v bH=>wpAny (model X.prog X.w) X.A (eval b X.env) (fun u bu=>wpAny (model X.prog X.w) X.A (compareOp op v u) (EP X pins σ Q) X.xe bu) X.xe bH) X.xe s
theorem tq(b:Expr)(h:op≠.In)(h2:op≠.NotIn):behindInMarks op b=false:=by
 have e1:(op == CmpOp.In)=false:=by cases op<;>first | rfl | exact absurd rfl h
 have e2:(op == CmpOp.NotIn)=false:=by cases op<;>first | rfl | exact absurd rfl h2
 cases b<;>simp[behindInMarks,e1,e2]
def FX(ta:TE):TE:=fun σ H Q=>ta σ H fun x H1=>Q (.bl (decide (x=.dj))) H1
def BG(ta:TE):TE:=fun σ H Q=>ta σ H fun x H1=>Q (.bl (!decide (x=.dj))) H1
theorem RelV.tD{x:V}{v:Value}(r:RelV x v):(v == Value.none)=decide (x=.dj):=by
 cases x with
 | dj=>cases r;rfl
 | bl _=>cases r;rfl
 | int _=>obtain⟨t,rfl⟩:=r;rfl
 | str _=>obtain⟨t,rfl⟩:=r;rfl
 | yg _=>obtain⟨t,rfl⟩:=r;rfl
 | FT _=>obtain⟨t,rfl⟩:=r;rfl
 | ref _=>cases r;rfl
 | ty _=>cases r;rfl
theorem BH{j pos'}(ha:PE X a ta):PC X .Is a (.Constant .none j pos') (FX ta):=by
 intro pins s σ H Q I h;refine cL (ha pins s σ H _ I h) fun v s1 ⟨x,H1,I1,r1,q1⟩=>?_;exact Constant_none (is_none_gen ⟨.bl _,H1,I1,by rw[r1.tD];rfl,q1⟩)
theorem FY{j pos'}(ha:PE X a ta):PC X .IsNot a (.Constant .none j pos') (BG ta):=by
 intro pins s σ H Q I h;refine cL (ha pins s σ H _ I h) fun v s1 ⟨x,H1,I1,r1,q1⟩=>?_;exact Constant_none (isnot_none_gen ⟨.bl _,H1,I1,by rw[r1.tD];rfl,q1⟩)
def tB(t:TE):TT:=fun σ H Q=>t σ H fun x H1=>∃ c,x=.bl c/\Q c H1
theorem KI{t:TE}(h:PC X op a b t)(h1:behindInMarks op b=false:=by first | exact tq _ (by decide) (by decide) | rfl):PE X (.Compare a [op] [b] pos) t:=fun pins s σ H Q I hw=>wpAny_Compare1 (h pins s σ H Q I hw) h1
theorem BI{t:TE}(h:PC X op a b t)(h1:behindInMarks op b=false:=by first | exact tq _ (by decide) (by decide) | rfl):PT X (.Compare a [op] [b] pos) (tB t):=by
 intro pins s σ H Q I hw;refine wpAny_isTrue_Compare1 (cL (h pins s σ H _ I hw) fun v s1 h1=>cL h1 fun u s2 h2=>cL h2 fun c s3 ⟨x,H1,I1,r1,q1⟩=>?_) h1;obtain⟨d,rfl,q⟩:=q1;cases r1;exact abz ⟨H1,I1,q⟩
theorem KJ{e:Expr}{t:TE}(h:PE X e t)(he:autoParam (∀ whole,isTrue e X.env whole=(do let v <- whole;standAt e.pos;holding [v] (truthy v))) ra3):PT X e (tB t):=by
 intro pins s σ H Q I hw;refine isTrue_plain (cL (h pins s σ H _ I hw) fun v s1 ⟨x,H1,I1,r1,q1⟩=>?_) (he _);obtain⟨d,rfl,q⟩:=q1;cases r1;exact abz ⟨H1,I1,q⟩
variable {tA Sj:TT}{rest:v6}
def KL(t u:TT):TT:=fun σ H Q=>t σ H fun c H1=>if c=true then u σ H1 Q else Q false H1
def TH(t u:TT):TT:=fun σ H Q=>t σ H fun c H1=>if c=true then Q true H1 else u σ H1 Q
def KN(t:TT):TT:=fun σ H Q=>t σ H fun c H1=>Q (!c) H1
theorem FZ(ha:PT X a tA):PW X (.BoolOp .And [a] pos) tA:=by
 intro wh pins s σ H Q I h;refine isTrue_and (cL (ha pins s σ H Q I h) fun c s1 e=>?_);cases c with
 | true=>exact isTrue_and_nil e
 | false=>exact e
theorem KP(ha:PT X a tA):PW X (.BoolOp .Or [a] pos) tA:=by
 intro wh pins s σ H Q I h;refine isTrue_or (cL (ha pins s σ H Q I h) fun c s1 e=>?_);cases c with
 | false=>exact isTrue_or_nil e
 | true=>exact e
theorem KQ(ha:PT X a tA)(hb:PW X (.BoolOp .And (b::rest) pos) Sj):PW X (.BoolOp .And (a::b::rest) pos) (KL tA Sj):=by
 intro wh pins s σ H Q I h;refine isTrue_and (cL (ha pins s σ H _ I h) fun c s1 ⟨H1,I1,q1⟩=>?_);cases c with
 | true=>exact hb wh pins s1 σ H1 Q I1 q1
 | false=>exact⟨H1,I1,q1⟩
theorem OY(ha:PT X a tA)(hb:PW X (.BoolOp .Or (b::rest) pos) Sj):PW X (.BoolOp .Or (a::b::rest) pos) (TH tA Sj):=by
 intro wh pins s σ H Q I h;refine isTrue_or (cL (ha pins s σ H _ I h) fun c s1 ⟨H1,I1,q1⟩=>?_);cases c with
 | true=>exact⟨H1,I1,q1⟩
 | false=>exact hb wh pins s1 σ H1 Q I1 q1
theorem KR(ha:PT X a tA):PT X (.UnaryOp .Not a pos) (KN tA):=by
 intro pins s σ H Q I h;exact isTrue_not (ha pins s σ H (fun c H1=>Q (!c) H1) I h)
def BJ(ta tb:TE):TE:=fun σ H Q=>ta σ H fun x H1=>∃ c,x=.bl c/\if c=true then tb σ H1 Q else Q (.bl false) H1
def KS(ta tb:TE):TE:=fun σ H Q=>ta σ H fun x H1=>∃ c,x=.bl c/\if c=true then Q (.bl true) H1 else tb σ H1 Q
def BK(ta:TE):TE:=fun σ H Q=>ta σ H fun x H1=>∃ c,x=.bl c/\Q (.bl (!c)) H1
theorem KU{op}{t:TE}(h:PE X a t):PE X (.BoolOp op [a] pos) t:=fun pins s σ H Q I hw=>BoolOp_one (h pins s σ H Q I hw)
theorem KW(ha:PE X a ta)(hb:PE X (.BoolOp .And (b::rest) pos) tb):PE X (.BoolOp .And (a::b::rest) pos) (BJ ta tb):=by
 intro pins s σ H Q I h;refine BoolOp_and (cL (ha pins s σ H _ I h) fun v s1 ⟨x,H1,I1,r1,q1⟩=>?_);obtain⟨c,rfl,q1⟩:=q1;cases r1;refine abz ?_;cases c with
 | true=>exact hb pins s1 σ H1 Q I1 q1
 | false=>exact⟨.bl false,H1,I1,rfl,q1⟩
theorem OZ(ha:PE X a ta)(hb:PE X (.BoolOp .Or (b::rest) pos) tb):PE X (.BoolOp .Or (a::b::rest) pos) (KS ta tb):=by
 intro pins s σ H Q I h;refine BoolOp_or (cL (ha pins s σ H _ I h) fun v s1 ⟨x,H1,I1,r1,q1⟩=>?_);obtain⟨c,rfl,q1⟩:=q1;cases r1;refine abz ?_;cases c with
 | false=>exact hb pins s1 σ H1 Q I1 q1
 | true=>exact⟨.bl true,H1,I1,rfl,q1⟩
theorem KY(ha:PE X a ta):PE X (.UnaryOp .Not a pos) (BK ta):=by
 intro pins s σ H Q I h;refine UnaryOp_ (cL (ha pins s σ H _ I h) fun v s1 ⟨x,H1,I1,r1,q1⟩=>?_);obtain⟨c,rfl,q1⟩:=q1;cases r1;exact not_of (abz ⟨.bl (!c),H1,I1,rfl,q1⟩)
def TJ(t:TT)(ta tb:TE):TE:=fun σ H Q=>t σ H fun c H1=>if c=true then ta σ H1 Q else tb σ H1 Q
theorem BL(hc:PT X c tA)(ha:PE X a ta)(hb:PE X b tb):PE X (.IfExp c a b pos) (TJ tA ta tb):=by
 intro pins s σ H Q I h;refine wpAny_IfExp (cL (hc pins s σ H _ I h) fun d s1 ⟨H1,I1,q1⟩=>?_);cases d with
 | true=>exact ha pins s1 σ H1 Q I1 q1
 | false=>exact hb pins s1 σ H1 Q I1 q1
end
def gb(K:zn)(H:Hp)(a:Addr)(xs:List V):Prop :=
 Rd H a (.lst xs) \/
  ∃(o:Obj) (aV:Array Value) (n:Nat),K.lookup a=some o/\o.cls=.type "list"/\o.dict=none/\o.data=.seq aV n/\aV.size<=sizeLine/\Vals xs aV.toList
def fN(K:zn)(H:Hp)(a:Addr)(xs:List V):Prop :=
 Rd H a (.tup xs) \/
  ∃(o:Obj) (aV:Array Value) (n:Nat),K.lookup a=some o/\o.cls=.type "tuple"/\o.data=.seq aV n/\aV.size<=sizeLine/\Vals xs aV.toList
noncomputable def O0:Value->Option V
 | .none=>some .dj
 | .bool b=>some (.bl b)
 | .int i _=>some (.int i)
 | .str x _=>some (.str x)
 | .bytes b _=>some (.yg b)
 | .float b _=>some (.FT b)
 | .ref a=>some (.ref a)
 | .type n=>some (.ty n)
 | _=>none
theorem RelV.abs{x:V}(r:RelV x u):O0 u=some x:=by
 cases x with
 | dj=>cases r;rfl
 | bl _=>cases r;rfl
 | int _=>obtain⟨t,rfl⟩:=r;rfl
 | str _=>obtain⟨t,rfl⟩:=r;rfl
 | yg _=>obtain⟨t,rfl⟩:=r;rfl
 | FT _=>obtain⟨t,rfl⟩:=r;rfl
 | ref _=>cases r;rfl
 | ty _=>cases r;rfl
theorem RelV.inj{x y:V}{u:Value}(r:RelV x u)(q:RelV y u):x=y:=aaV (r.abs.symm.trans q.abs)
theorem Vals.inj:∀{xs ys:List V} {us:wf},Vals xs us->Vals ys us->xs=ys
 | _,_,_,.nil,.nil=>rfl
 | _,_,_,.cons r t,.cons r' t'=>by rw[r.inj r',Vals.inj t t']
section
variable {xs ys:List V}
theorem gb.of{K:zn}(h:H a=some (.lst xs)):gb K H a xs:=.inl (.inl h)
theorem fN.of{K:zn}(h:H a=some (.tup xs)):fN K H a xs:=.inl (.inl h)
theorem Inv.list(I:Inv X pins σ H s)(h:gb X.K H a xs):∃ aV:List Value,Vals xs aV/\PlainL s.heap a aV.toArray/\xs.length<=sizeLine:=by
 rcases h with h | ⟨o,aV,n,hk,hc,hd,hs,hz,r⟩
 ·obtain⟨z,aV,n,r,e⟩:=h.ok I.cv;exact⟨aV,r,⟨_,n,e,rfl,rfl,rfl⟩,z⟩
 ·refine⟨aV.toList,r,⟨o,n,I.l6 a o hk,hc,hd,by simpa using hs⟩,?_⟩;have e:=r.length;simp only[aaP]at e;omega
theorem Inv.tuple(I:Inv X pins σ H s)(h:fN X.K H a xs):∃ aV:List Value,Vals xs aV/\IsTup s.heap a aV.toArray/\xs.length<=sizeLine:=by
 rcases h with h | ⟨o,aV,n,hk,hc,hs,hz,r⟩
 ·obtain⟨z,aV,r,p⟩:=h.ok I.cv;exact⟨aV,r,p,z⟩
 ·refine⟨aV.toList,r,⟨o,I.l6 a o hk,hc,n,by simpa using hs⟩,?_⟩;have e:=r.length;simp only[aaP]at e;omega
theorem Inv.tE(I:Inv X pins σ H s)(h:gb X.K H a xs)(h':gb X.K H a ys):xs=ys:=by
 obtain⟨aV,r,⟨o,n,e,_,_,d⟩,_⟩:=I.list h;obtain⟨its',r',⟨o',n',e',_,_,d'⟩,_⟩:=I.list h';rw[e]at e';cases e';rw[d]at d';injection d' with d1 _
 have:aV=its':=by simpa using abK Array.toList d1
 subst this;exact r.inj r'
theorem Inv.zP(I:Inv X pins σ H s)(h:fN X.K H a xs)(h':fN X.K H a ys):xs=ys:=by
 obtain⟨aV,r,⟨o,e,_,n,d⟩,_⟩:=I.tuple h;obtain⟨its',r',⟨o',e',_,n',d'⟩,_⟩:=I.tuple h';rw[e]at e';cases e';rw[d]at d';injection d' with d1 _
 have:aV=its':=by simpa using abK Array.toList d1
 subst this;exact r.inj r'
end
noncomputable abbrev Cx.nE(X:Cx)(E:xz):Cx:={ X with xe:=E }
noncomputable abbrev Cx.zQ(X:Cx):Cx:=X.nE fun _ _=>False
theorem Cx.Ok.nE(ok:X.Ok)(E:xz):(X.nE E).Ok :=
 ⟨ok.mod,ok.kind,ok.glob,ok.blt,ok.above,ok.inj,ok.has,ok.OS,ok.hd,ok.frames,ok.Kz,ok.Sh,ok.bs,ok.IJ,ok.Bz,ok.BA,ok.mw,ok.FC⟩
theorem Cx.Ok.i8(ok:(X.nE E).Ok):X.Ok :=
 ⟨ok.mod,ok.kind,ok.glob,ok.blt,ok.above,ok.inj,ok.has,ok.OS,ok.hd,ok.frames,ok.Kz,ok.Sh,ok.bs,ok.IJ,ok.Bz,ok.BA,ok.mw,ok.FC⟩
theorem Inv.nE(I:Inv X pins σ H s)(E:xz):Inv (X.nE E) pins σ H s:=⟨I.ok.nE E,I.os,I.bare,I.base,I.loc,I.cell,I.free,I.iA,I.pin,I.cv,I.len⟩
theorem Inv.i8(I:Inv (X.nE E) pins σ H s):Inv X pins σ H s:=⟨I.ok.i8,I.os,I.bare,I.base,I.loc,I.cell,I.free,I.iA,I.pin,I.cv,I.len⟩
theorem SP.i8{D:Ends}{f:Flow}{s':Shared}(h:SP (X.nE E) pins D f s'):SP X pins D f s':=by
 cases f with
 | next=>obtain⟨bG,H',I,q⟩:=h;exact⟨bG,H',I.i8,q⟩
 | brk=>obtain⟨bG,H',I,q⟩:=h;exact⟨bG,H',I.i8,q⟩
 | cont=>obtain⟨bG,H',I,q⟩:=h;exact⟨bG,H',I.i8,q⟩
 | ret u=>obtain⟨v,bG,H',I,r,q⟩:=h;exact⟨v,bG,H',I.i8,r,q⟩
theorem yi.zQ{st:ul}{t:TS}(h:yi X.zQ st t):yi X st t:=fun pins s σ H D I hw =>
 abv (h pins s σ H D (I.nE _) hw) (fun _ _ q=>q.i8) fun _ _ z=>False.elim z
section
variable {st:Stmt}{rest:ul}{t u:TS}{e:Expr}
def BM:TS:=fun D σ H=>D.nx σ H
def KZ(t u:TS):TS:=fun D σ H=>t { D with nx:=u D } σ H
theorem Ga:yi X [] BM:=fun _ _ σ H _ I h=>acN ⟨σ,H,I,h⟩
theorem BN(h1:PS X st t)(h2:yi X rest u):yi X (st::rest) (KZ t u):=by
 intro pins s σ H D I h;refine wpAny_execs_cons (cL (h1 pins s σ H { D with nx:=u D } I h) fun f s1 q=>?_);cases f with
 | next =>
  obtain⟨bG,H',I',q⟩:=q;exact h2 pins s1 bG H' D I' q
 | ret v=>exact q
 | brk=>exact q
 | cont=>exact q
theorem Gb(h1:PS X st t):yi X [st] t:=by
 intro pins s σ H D I h;refine wpAny_execs_cons (cL (h1 pins s σ H D I h) fun f s1 q=>?_);cases f with
 | next=>exact acN q
 | ret v=>exact q
 | brk=>exact q
 | cont=>exact q
theorem Inv.quiet(I:Inv X pins σ H s):interactive X.env=false:=by simp[interactive,I.ok.kind]
def BO(te:TE):TS:=fun D σ H=>te σ H fun _ H1=>D.nx σ H1
theorem Gd(he:PE X e te)(hs:autoParam (swapsWith e none pos.line X.env=pure false) ra0):PS X (.Expr e pos) (BO te):=by
 intro pins s σ H D I h;exact wpAny_Expr_any (cL (he pins s σ H _ I h) fun v s1 ⟨x,H1,I1,r1,q1⟩=>⟨σ,H1,I1,q1⟩) I.quiet hs
def K0(te:TE):TS:=fun D σ H=>te σ H D.rt
theorem K1(he:PE X e te):PS X (.Return (some e) pos) (K0 te):=by
 intro pins s σ H D I h;exact wpAny_Return_some (cL (he pins s σ H _ I h) fun v s1 ⟨x,H1,I1,r1,q1⟩=>⟨x,σ,H1,I1,r1,q1⟩)
def K2(c:TT)(t u:TS):TS:=fun D σ H=>c σ H fun b H1=>if b=true then t D σ H1 else u D σ H1
theorem O1{a b:ul}{tc:TT}(hc:PT X c tc)(ha:yi X a t)(hb:yi X b u):PS X (.If c a b pos) (K2 tc t u):=by
 intro pins s σ H D I h;refine wpAny_If (cL (hc pins s σ H _ I h) fun d s1 ⟨H1,I1,q1⟩=>?_);cases d with
 | true=>exact ha pins s1 σ H1 D I1 q1
 | false=>exact hb pins s1 σ H1 D I1 q1
end
abbrev TG:=V->St->Hp->(St->Hp->Prop)->Prop
abbrev vA:=List V->St->Hp->(St->Hp->Prop)->Prop
def PG(X:Cx)(target:Expr)(t:TG):Prop :=
 ∀(pins:yp) (s:Shared) (σ:St) (H:Hp) (v:V) (u:Value) (Q:St->Hp->Prop),Inv X pins σ H s->RelV v u->t v σ H Q ->
  wpAny (model X.prog X.w) X.A (assign target X.env u) (fun _ s'=>∃ bG H',Inv X pins bG H' s'/\Q bG H') X.xe s
def Ov(X:Cx)(ts:v6)(t:vA):Prop :=
 ∀(pins:yp) (s:Shared) (σ:St) (H:Hp) (vs:List V) (us:wf) (Q:St->Hp->Prop),Inv X pins σ H s->Vals vs us->t vs σ H Q ->
  wpAny (model X.prog X.w) X.A (assignInOrder ((assignEach ts X.env).map (·.2)) us) (fun _ s'=>∃ bG H',Inv X pins bG H' s'/\Q bG H') X.xe s
abbrev Ge:=V->V->V->Hp->(Hp->Prop)->Prop
def K3(X:Cx)(t:Ge):Prop :=
 ∀(pins:yp) (s:Shared) (σ:St) (H:Hp) (o i v:V) (ov iv u:Value) (Q:Hp->Prop),Inv X pins σ H s->RelV o ov->RelV i iv->RelV v u->t o i v H Q ->
  wpAny (model X.prog X.w) X.A (setItem ov iv u) (fun _ s'=>∃ H',Inv X pins σ H' s'/\Q H') X.xe s
def nF(i:Nat):TG:=fun v σ H Q=>Q (σ.set i (some v)) H
theorem Gf{i:Nat}(hN:X.N.Nodup)(hi:X.N[i]?=some x)(hx:Loc X.env.scope x)(hf:autoParam (X.fn x=true\/X.env.scope.names.lookup x=some .local) ra4):PG X (.Name x pos) (nF i):=by
 intro pins s σ H v u Q I r h;exact wpAny_assign_Name (nB I hN hi hx r (fun s' I'=>⟨_,H,I',h⟩) hf)
def K4:vA:=fun vs σ H Q=>vs=[]/\Q σ H
def BP(t:TG)(u:vA):vA:=fun vs σ H Q=>∃ v r,vs=v::r/\t v σ H fun bG H'=>u r bG H' Q
theorem Gg:Ov X [] K4:=by
 intro pins s σ H vs us Q I r h;obtain⟨e,h⟩:=h;subst e;cases r;exact assignInOrder_nil ⟨σ,H,I,h⟩
theorem BQ{e:Expr}{t:TG}{u:vA}(h1:PG X e t)(h2:Ov X es u)(hs:autoParam ((assignEach (e::es) X.env).map (·.2)=assign e X.env::(assignEach es X.env).map (·.2)) ra0):Ov X (e::es) (BP t u):=by
 intro pins s σ H vs us Q I r h;obtain⟨v,vr,e1,h⟩:=h;subst e1;cases r with
 | cons r rr =>
  rw[hs];refine assignInOrder_cons (cL (h1 pins s σ H _ _ _ I r h) fun _ s1 ⟨Ow,H1,I1,q1⟩=>?_);exact h2 pins s1 Ow H1 _ _ Q I1 rr q1
def O2(K:zn)(n:Nat)(t:vA):TG:=fun v σ H Q=>∃ a xs,v=.ref a/\fN K H a xs/\xs.length=n/\t xs σ H Q
theorem K5{k:Nat}{t:vA}{n:Nat}(hc:X.calm=true)(h:Ov X es t)(hn:autoParam ((assignEach es X.env).length=n) ra0)(yk:autoParam ((assignEach es X.env).findIdx? (·.1)=none) ra0):PG X (.Tuple es k pos) (O2 X.K n t):=by
 intro pins s σ H v u Q I r hw;obtain⟨a,xs,e1,hq,hl,hw⟩:=hw;subst e1;cases r;obtain⟨aV,rv,ht,hz⟩:=I.tuple hq;refine assign_Tuple_tuple (I.ok.hd hc) ht (by simp[hn,<- hl,rv.length]) yk fun h' hx=>?_;have I1:Inv X pins σ H { s with heap:=h' }:=I.kept (t':=s.toks) fun b o e=>hx b o (aaO (aar e)) e;exact h pins _ σ H xs _ Q I1 (by simpa using rv) hw
def K6(to ti:TE)(t:Ge):TG:=fun v σ H Q=>to σ H fun o H1=>ti σ H1 fun i H2=>t o i v H2 fun H3=>Q σ H3
theorem K7{i:Expr}{to ti:TE}{t:Ge}(ho:PE X o to)(hi:PE X i ti)(hs:K3 X t)(ha:∀ v,assign (.Subscript o i pos) X.env v=(do
   let ov <- holding [v] (eval o X.env)
   let iv <- holding [v,ov] (eval i X.env)
   standAt pos
   holding [v,ov,iv] (setItem ov iv v)
   release [v,ov,iv] []):=by intro _;rfl):PG X (.Subscript o i pos) (K6 to ti t):=by
 intro pins s σ H v u Q I r h;rw[ha];refine aaj (abc (cL (ho pins s σ H _ I h) fun ov s1 ⟨x,H1,I1,r1,q1⟩=>?_));refine aaj (abc (cL (hi pins s1 σ H1 _ I1 q1) fun iv s2 ⟨y,H2,I2,r2,q2⟩=>?_));refine aaj (ada (aaj (abc (cL (hs pins s2 σ H2 x y v ov iv u _ I2 r1 r2 r q2) fun _ s3 ⟨H3,I3,q3⟩=>?_))));exact wpAny_release ⟨σ,H3,I3,q3⟩
def vM(te:TE)(g:TG):TS:=fun D σ H=>te σ H fun x H1=>g x σ H1 D.nx
theorem K8{e:Expr}{g:TG}(he:PE X e te)(hg:PG X tg g)(hs:autoParam (swapsWithSole [tg] e pos.line X.env=pure false) ra0)(hw:autoParam (swappedStores [tg] e X.env=pure none) ra0)(h1:autoParam ((assignEach [tg] X.env).map (·.2)=[assign tg X.env]) ra0):PS X (.Assign [tg] e pos) (vM te g):=by
 intro pins s σ H D I h;refine wpAny_Assign_stores (cL (he pins s σ H _ I h) fun v s1 ⟨x,H1,I1,r1,q1⟩=>?_) hs hw;rw[h1];exact cL (hg pins s1 σ H1 x v _ I1 r1 q1) fun _ s2 q=>q
theorem K9{i:Nat}{e:Expr}{pos':Pos}(hN:X.N.Nodup)(hi:X.N[i]?=some x)(hx:Loc X.env.scope x)(he:PE X e te)(hs:autoParam (swapsWith e (some (.Name x pos')) pos.line X.env=pure false) ra0)(hf:autoParam (X.fn x=true\/X.env.scope.names.lookup x=some .local) ra4) :
  PS X (.Assign [.Name x pos'] e pos) (vM te (nF i)):=by
 intro pins s σ H D I h;refine wpAny_Assign_Name (cL (he pins s σ H _ I h) fun v s1 ⟨y,H1,I1,r1,q1⟩=>?_) hs;exact nB I1 hN hi hx r1 (fun s2 I2=>⟨_,H1,I2,q1⟩) hf
def vN(c:TT)(tb:TS):TS:=fun D σ H=>∃ W:Nat->St->Hp->Prop,(∃ m,W m σ H)/\∀ m σ H,W m σ H ->
 c σ H fun b H1=>if b=true then ∃ N:St->Hp->Prop,(∀ bG H',N bG H'->∃ m',m' < m/\W m' bG H')/\tb { D with nx:=N,ct:=N,bk:=D.nx } σ H1 else D.nx σ H1
theorem BR{tc:TT}{tb:TS}(hp:PassesOwn (model X.prog X.w) X.A X.env X.xe)(hc:PT X c tc)(hb:yi X body tb):PS X (.While c body [] pos) (vN tc tb):=by
 intro pins s σ H D I h;obtain⟨W,⟨m0,w0⟩,turn⟩:=h;refine wpAny_While (codeAny_whileLoop (fun n s'=>∃ bG H',Inv X pins bG H' s'/\W n bG H') ?_ m0 ⟨σ,H,I,w0⟩);rintro n s1 ⟨Ow,H1,I1,w1⟩;refine abZ hp (cL (hc pins s1 Ow H1 _ I1 (turn n Ow H1 w1)) fun b s2 ⟨H2,I2,q2⟩=>?_);cases b with
 | true =>
  obtain⟨N,hN,q2⟩:=q2;rw[aaE rfl];refine abZ hp (cL (hb pins s2 Ow H2 _ I2 q2) fun f s3 q3=>?_);cases f with
  | next =>
   obtain⟨yl,H3,I3,n3⟩:=q3;obtain⟨m',hm,w3⟩:=hN yl H3 n3;exact⟨m',hm,yl,H3,I3,w3⟩
  | cont =>
   obtain⟨yl,H3,I3,n3⟩:=q3;obtain⟨m',hm,w3⟩:=hN yl H3 n3;exact⟨m',hm,yl,H3,I3,w3⟩
  | brk=>exact q3
  | ret v=>exact q3
 | false =>
  rw[aaA aav];exact acN ⟨Ow,H2,I2,q2⟩
structure It where
 go:Nat->Hp->Prop
 FF:Nat->Hp->V->Hp->Prop
 stop:Nat->Hp->Prop
def kj(X:Cx)(pins:yp)(H:Hp)(b:Addr):Prop :=
 H b=none/\b≠X.env.locals/\b ∉ X.fs/\(b∈X.ex\/X.bc.heap.objs.size<=b)/\(∀ x c,X.env.cells.lookup x=some c->c≠b)/\∀ p∈X.pn++pins,p.1≠b
theorem Inv.zR(I:Inv X pins σ H s)(hb:s.heap.objs.size<=b)(hn:H' b=none):kj X pins H' b:=by
 refine⟨hn,abO (aaD I.lt hb),I.Tw hb,.inr (aaq I.sz hb),fun x c e z=>?_,fun p hp z=>?_⟩
 ·obtain⟨v,q⟩:=I.cell x c e;exact absurd (aaD q.lt (by rw[z];exact hb)) (aa1 _)
 ·exact absurd (aaD (aar (I.pin p hp).1) (by rw[z];exact hb)) (aa1 _)
structure Turn(P:u8)(w:World)(K:zn)(tg:Expr)(J:It)(fp:ww)(it:Addr)(tn:Nat->Heap->Prop):Prop where
 mem:it∈fp
 obj:∀ i h,tn i h->∀ b∈fp,∃ o,h.get? b=some o/\∀ v,o.data≠.cell v
 keep:∀ i h h',tn i h->(∀ b∈fp,∀ o,h.get? b=some o->h'.get? b=some o)->tn i h'
 item:∀(X:Cx),X.prog=P->X.w=w->X.K=K->X.calm=true->∀(i:Nat) (pins:yp) (s:Shared) (σ:St) (H:Hp) (E:xz),Inv X pins σ H s->(∀ b∈fp,kj X pins H b)->tn i s.heap->J.go i H ->
  wpAny (model P w) X.A (pyNext (.ref it)) (fun r s1=>∃ u,r=some u /\
   wpAny (model P w) X.A (letOwnedTupleGo tg (.ref it) u) (fun _ s2=>∃ x H',Inv X pins σ H' s2/\RelV x u/\J.FF i H x H'/\tn (i+1) s2.heap/\∀ b∈fp,H' b=none) E s1) E s
 done:∀(X:Cx),X.prog=P->X.w=w->X.K=K->X.calm=true->∀(i:Nat) (pins:yp) (s:Shared) (σ:St) (H:Hp) (E:xz),Inv X pins σ H s->(∀ b∈fp,kj X pins H b)->tn i s.heap->J.stop i H ->
  wpAny (model P w) X.A (pyNext (.ref it)) (fun r s1=>r=none/\Inv X pins σ H s1) E s
 self:∀(A:tx) (i:Nat) (s:Shared) (Q:xz) (E:xz),tn i s.heap->Q (.ref it) s->wpAny (model P w) A (pyIter (.ref it)) Q E s
abbrev TI:=St->Hp->(It->Hp->Prop)->Prop
def WH(X:Cx)(pins:yp)(σ:St)(tg:Expr)(R:It->Hp->Prop)(Sk:Value)(s2:Shared):Prop :=
 ∃(it:Addr) (fp:ww) (tn:Nat->Heap->Prop) (J:It) (H':Hp),Sk=.ref it/\Inv X pins σ H' s2/\Turn X.prog X.w X.K tg J fp it tn/\tn 0 s2.heap/\(∀ b∈fp,kj X pins H' b)/\R J H'
def PI(X:Cx)(tg iter:Expr)(wi:TI):Prop :=
 ∀(pins:yp) (s:Shared) (σ:St) (H:Hp) (R:It->Hp->Prop),Inv X pins σ H s->wi σ H R ->
  wpAny (model X.prog X.w) X.A (eval iter X.env) (fun v s1=>wpAny (model X.prog X.w) X.A (pyIter v) (WH X pins σ tg R) X.xe s1) X.xe s
theorem IS{it:Addr}{o:Obj}{n:String}{vs:Array Value}{Q:Unit->Shared->Prop}(ho:s.heap.get? it=some o)(hc:o.cls=.type n)(hd:o.data=.fields vs)(hn:["enumerate", "zip", "dict_itemiterator", "dict_reverseitemiterator", "odict_iterator", "itertools.zip_longest", "itertools.pairwise"].contains n=false)(hQ:Q () s):wpAny M A (letOwnedTupleGo tg (.ref it) u) Q E s:=by
 unfold letOwnedTupleGo;cases tg<;>first
  | exact aam hQ
  | (cases u<;>first
    | exact aam hQ
    |(refine aaj (wpAny_load ho ?_)
      rw[hc,hd]
      show wpAny M A (if(["enumerate", "zip", "dict_itemiterator", "dict_reverseitemiterator", "odict_iterator", "itertools.zip_longest", "itertools.pairwise"].contains n&&vs[0]? == some (rawInt _))=true then _ else _) Q E s
      rw[aaA (by intro h;rw[hn,Bool.false_and]at h;cases h)]
      exact aam hQ))
def TK(K:zn)(a:Addr):It :=
 ⟨fun i H=>∃ xs x,gb K H a xs/\xs[i]?=some x,fun i H x H'=>H'=H/\∀ xs,gb K H a xs->xs[i]?=some x,fun i H=>∃ xs,gb K H a xs/\xs.length<=i⟩
def Sl(lo:Int)(n:Nat):It:=⟨fun i _=>i < n,fun i H x H'=>H'=H/\x=.int (lo+i),fun i _=>n<=i⟩
theorem zS{K:zn}(a it:Addr):Turn P w K tg (TK K a) [it] it (fun i h=>h.IsListIter it a i) where
 mem:=by simp
 obj:=fun i h st b hb=>by
  have e:b=it:=by simpa using hb
  subst e;obtain⟨o,e,c,d⟩:=st;exact⟨o,e,fun v z=>by rw[d]at z;cases z⟩
 keep:=fun i h h' st k=>st.at fun o e=>k it (by simp) o e
 item:=by
  intro X hP hw hK hc i pins s σ H E I hf st hg;subst hP hw hK;obtain⟨xs,x,hq,hx⟩:=hg;obtain⟨aV,rv,p,hz⟩:=I.list hq;obtain⟨u,hu,ru⟩:=rv.get hx;obtain⟨f0,f1,f2,f3,f4,f5⟩:=hf it (by simp);refine wpAny_pyNext_list_item st p.isList (x:=u) (by simpa using hu) fun h' O3 sb=>?_;have I1:Inv X pins σ H { s with heap:=h' }:=I.turned (t':=s.toks) (fun b o hb e=>(sb.2 b hb).trans e) f0 f1 f3 f4 f5;obtain⟨o,e,c,d⟩:=id O3;exact⟨u,rfl,IS (s:={ s with heap:=h' }) e c d (by decide) ⟨x,H,I1,ru,⟨rfl,fun ys hy=>by rw[I.tE hy hq];exact hx⟩,O3,fun b hb=>(hf b hb).1⟩⟩
 done:=by
  intro X hP hw hK hc i pins s σ H E I hf st hg;subst hP hw hK;obtain⟨xs,hq,hx⟩:=hg;obtain⟨aV,rv,p,hz⟩:=I.list hq;obtain⟨f0,f1,f2,f3,f4,f5⟩:=hf it (by simp);have hl:=rv.length;exact wpAny_pyNext_list_end (I.ok.hd hc) st p.isList (by simp;omega) fun h' eb=>⟨rfl,I.turned (t':=s.toks) (fun b o hb e=>eb b o hb e) f0 f1 f3 f4 f5⟩
 self:=fun _ _ _ _ _ st h=>wpAny_pyIter_listiter st h
theorem vO{K:zn}(it:Addr)(lo:Int)(n:Nat):Turn P w K tg (Sl lo n) [it] it (fun i h=>IsRangeIter h it (lo+(i:Nat) * 1) ((n:Int) - (i:Nat)) 1) where
 mem:=by simp
 obj:=fun i h st b hb=>by
  have e:b=it:=by simpa using hb
  subst e;exact⟨_,st,fun v z=>by
   have z':Data.fields _=Data.cell v:=z;cases z'⟩
 keep:=fun i h h' st k=>k it (by simp) _ st
 item:=by
  intro X hP hw hK hc i pins s σ H E I hf st hg;subst hP hw hK;obtain⟨f0,f1,f2,f3,f4,f5⟩:=hf it (by simp);have W:=Walks.range (prog:=X.prog) (w:=X.w) (I.ok.hd hc) it lo 1 n;refine W.item i s _ _ hg st fun v h' tk hv O3 kk=>?_;obtain⟨t,rfl⟩:=hv;have I1:Inv X pins σ H { s with heap:=h',toks:=tk }:=I.turned (fun b o hb e=>kk b o (by simpa using hb) e) f0 f1 f3 f4 f5;refine⟨_,rfl,IS (s:={ s with heap:=h',toks:=tk }) (n := "range_iterator") O3 rfl rfl (by decide) ⟨.int (lo+i),H,I1,⟨t,?_⟩,⟨rfl,rfl⟩,O3,fun b hb=>(hf b hb).1⟩⟩;rw[Int.mul_one]
 done:=by
  intro X hP hw hK hc i pins s σ H E I hf st hg;subst hP hw hK;obtain⟨f0,f1,f2,f3,f4,f5⟩:=hf it (by simp);exact wpAny_pyNext_range_end (I.ok.hd hc) st (by have:n<=i:=hg;omega) fun h' eb=>⟨rfl,I.turned (t':=s.toks) (fun b o hb e=>eb b o hb e) f0 f1 f3 f4 f5⟩
 self:=fun _ _ _ _ _ st h=>wpAny_pyIter_rangeiter st h
def BS(K:zn)(tl:TE):TI:=fun σ H R=>tl σ H fun x H1=>∃ a,x=.ref a/\(∃ xs,gb K H1 a xs)/\R (TK K a) H1
theorem Gh{l:Expr}{tl:TE}(hl:PE X l tl):PI X tg l (BS X.K tl):=by
 intro pins s σ H R I h;refine cL (hl pins s σ H _ I h) fun v s1 ⟨x,H1,I1,r1,q1⟩=>?_;obtain⟨a,e,⟨xs,hq⟩,q⟩:=q1;subst e;cases r1;obtain⟨aV,rv,p,hz⟩:=I1.list hq;refine abA p.isList ?_;refine⟨s1.heap.objs.size,[s1.heap.objs.size],_,_,H1,rfl,I1.kept (t':=s1.toks) fun b o e=>aal _ e,zS a _,⟨_,aau _ rfl,rfl,rfl⟩,fun b hb=>?_,q⟩;have e:b=s1.heap.objs.size:=by simpa using hb
 subst e;exact I1.zR (aao _) (I1.cv.fresh (aao _))
theorem BU{R:It->Hp->Prop}{lo hi:Int}{t u v:Tok}{tk:Nat}(I:Inv X pins σ H s)(h1:-(2 ^ 62)<=lo)(h2:lo < 2 ^ 62)(h3:-(2 ^ 62)<=hi)(h4:hi < 2 ^ 62)(q:R (Sl lo (hi - lo).toNat) H):wpAny (model X.prog X.w) X.A (pyIter (.ref s.heap.objs.size)) (WH X pins σ tg R) E { s with heap:=s.heap.push { cls:=.type "range",data:=.fields #[.int lo t,.int hi u,.int 1 v] },toks:=tk }:=by
 refine wpAny_pyIter_range (IsRange.new ..) (small_one h1 h2 h3 h4) ?_;have I1:Inv X pins σ H { s with heap:=s.heap.push { cls:=.type "range",data:=.fields #[.int lo t,.int hi u,.int 1 v] },toks:=tk }:=I.kept fun b o e=>aal _ e;refine⟨(s.heap.push { cls:=.type "range",data:=.fields #[.int lo t,.int hi u,.int 1 v] }).objs.size,[(s.heap.push { cls:=.type "range",data:=.fields #[.int lo t,.int hi u,.int 1 v] }).objs.size],_,_,H,rfl,
  I1.kept (t':=tk) fun b o e=>aal _ e,vO _ lo (hi - lo).toNat,?_,fun b hb=>?_,q⟩
 ·have e1:lo+((0:Nat):Int) * 1=lo:=by simp
  have e2:(((hi - lo).toNat:Nat):Int) - ((0:Nat):Int)=Builtin.Range.rangeSize lo hi 1:=by rw[rangeSize_one];split<;>omega
  show IsRangeIter _ _ (lo+((0:Nat):Int) * 1) ((((hi - lo).toNat:Nat):Int) - ((0:Nat):Int)) 1;rw[e1,e2];exact aau _ rfl
 ·have e:b=(s.heap.push { cls:=.type "range",data:=.fields #[.int lo t,.int hi u,.int 1 v] }).objs.size:=by simpa using hb
  subst e;exact I1.zR (aao _) (I1.cv.fresh (aao _))
def BV(ta:TA):TI:=fun σ H R=>ta σ H fun vs H1=>∃ j:Int,vs=[.int j]/\-(2 ^ 62)<=j/\j < 2 ^ 62/\R (Sl 0 j.toNat) H1
theorem zT{a:Expr}{ta:TA}(hg:Gl X "range")(hm:X.mg "range"=none)(ha:PA X [a] ta)(hs:autoParam (starEach [a] X.env=[(false,eval a X.env)]) ra0):PI X tg (.Call (.Name "range" p) [a] [] pos) (BV ta):=by
 intro pins s σ H R I h;refine Call_ (j2 I hg hm boot_range (abI (cL (ha pos pins s σ H _ I h) fun us s1 ⟨vs,H1,I1,r1,q1⟩=>?_) hs rfl));obtain⟨j,e,q1,q2,q⟩:=q1;subst e;cases r1 with
 | cons r rr =>
  cases rr;obtain⟨t,rfl⟩:=r;exact call_range_1 (BU I1 (by omega) (by omega) q1 q2 (by simpa using q))
def La(wi:TI)(g:TG)(tb:TS):TS:=fun D σ H=>wi σ H fun J H1=>∃ W:Nat->Nat->St->Hp->Prop,(∃ m,W 0 m σ H1)/\∀ i m σ H,W i m σ H ->
 (J.stop i H/\D.nx σ H)\/(J.go i H/\∃ N:St->Hp->Prop,(∀ bG H',N bG H'->∃ m',m' < m/\W (i+1) m' bG H')/\∀ x H',J.FF i H x H'->g x σ H' fun Bq H2=>tb { D with nx:=N,ct:=N,bk:=D.nx } Bq H2)
def gc(fp:ww)(h:Heap):List (Addr×Obj):=fp.filterMap fun b=>(h.get? b).map fun o=>(b,o)
theorem fA{o:Obj}(hb:b∈fp)(e:h.get? b=some o):(b,o)∈gc fp h:=acU.mpr ⟨b,hb,by rw[e];rfl⟩
theorem pE{p:Addr×Obj}(hp:p∈gc fp h):p.1∈fp/\h.get? p.1=some p.2:=by
 obtain⟨b,hb,e⟩:=acU.mp hp;cases q:h.get? b with
 | none=>rw[q]at e;cases e
 | some o =>
  rw[q]at e;have e':(b,o)=p:=aaV e;subst e';exact⟨hb,q⟩
theorem Inv.pinned(I:Inv X pins σ H s)(hf:∀ b∈fp,kj X pins H b)(ho:∀ b∈fp,∃ o,s.heap.get? b=some o/\∀ v,o.data≠.cell v):Inv X (pins++gc fp s.heap) σ H s :=
 I.yh fun p hp=>(abo.mp hp).elim (fun z=>I.pin p (aaI _ z)) fun z=>by
  obtain⟨hb,e⟩:=pE z;obtain⟨f0,f1,f2,_⟩:=hf p.1 hb;obtain⟨o,e',d⟩:=ho p.1 hb;rw[e]at e';cases e';exact⟨e,f0,f1,f2,d⟩
theorem Inv.kl{pl:yp}(I:Inv X (pins++pl) σ H s):Inv X pins σ H s:=I.yh fun p hp=>I.pin p (aaI _ (acg _ hp))
theorem Lb{iter:Expr}{wi:TI}{g:TG}{tb:TS}(hp:PassesOwn (model X.prog X.w) X.A X.env X.xe)(hc:X.calm=true)(hi:PI X tg iter wi)(hg:PG X tg g)(hb:yi X body tb)(hs:autoParam (∀ x,foldedSetIterable iter X.env x=pure x) ra3):PS X (.For tg iter body [] pos) (La wi g tb):=by
 intro pins s σ H D I h;refine wpAny_For (cL (hi pins s σ H _ I h) fun v s1 h1=>cL h1 fun Sk s2 h2=>?_) hs;obtain⟨it,fp,tn,J,H2,e,I2,T,pG,f2,W,⟨m0,w0⟩,turn⟩:=h2;subst e
 -- O4 stays true of Ox Lc objects through Ox loop
 have vP:∀{H':Hp},(∀ b∈fp,H' b=none)->∀ b∈fp,kj X pins H' b:=fun hn b hb=>⟨hn b hb,(f2 b hb).2⟩;refine codeAny_forLoop_any (fun n s'=>∃ i bG H',Inv X pins bG H' s'/\tn i s'.heap/\(∀ b∈fp,H' b=none)/\W i n bG H') ?_ m0 ⟨0,σ,H2,I2,pG,fun b hb=>(f2 b hb).1,w0⟩;rintro n s3 ⟨i,yl,H3,I3,WI,WJ,w3⟩;rcases turn i n yl H3 w3 with⟨stop,qn⟩ | ⟨go,N,hN,step⟩
 ·refine abZ hp (cL (T.done X rfl rfl rfl hc i pins s3 yl H3 X.xe I3 (vP WJ) WI stop) fun r s4 ⟨hr,I4⟩=>?_);subst hr;exact acN ⟨yl,H3,I4,qn⟩
 ·refine abZ hp (cL (T.item X rfl rfl rfl hc i pins s3 yl H3 X.xe I3 (vP WJ) WI go) fun r s4 ⟨u,hr,h4⟩=>?_);subst hr;refine abZ hp (cL h4 fun _ s5 ⟨x,H5,I5,r5,y5,Oy,Sn⟩=>?_);have O5:=I5.pinned (vP Sn) (T.obj _ _ Oy);refine abZ hp (cL (hg _ s5 yl H5 x u _ O5 r5 (step x H5 y5)) fun _ s6 ⟨YK,H6,I6,q6⟩=>?_);refine abZ hp (cL (hb _ s6 YK H6 _ I6 q6) fun f s7 q7=>?_);have again:∀{BW:St} {H7:Hp},Inv X (pins++gc fp s5.heap) BW H7 s7->N BW H7->∃ m,m < n/\∃ i bG H',Inv X pins bG H' s7/\tn i s7.heap/\(∀ b∈fp,H' b=none)/\W i m bG H':=fun{BW H7} I7 n7=>by
   obtain⟨m',hm,w7⟩:=hN BW H7 n7;refine⟨m',hm,i+1,BW,H7,I7.kl,T.keep _ _ _ Oy fun b hb o e=>(I7.pin (b,o) (aaI _ (aaI _ (fA hb e)))).1,fun b hb=>?_,w7⟩;obtain⟨o,e,d⟩:=T.obj _ _ Oy b hb;exact(I7.pin (b,o) (aaI _ (aaI _ (fA hb e)))).2.1
  cases f with
  | next=>obtain⟨BW,H7,I7,n7⟩:=q7;exact again I7 n7
  | cont=>obtain⟨BW,H7,I7,n7⟩:=q7;exact again I7 n7
  | brk=>obtain⟨BW,H7,I7,q7⟩:=q7;exact⟨BW,H7,I7.kl,q7⟩
  | ret v=>obtain⟨x7,BW,H7,I7,r7,q7⟩:=q7;exact⟨x7,BW,H7,I7.kl,r7,q7⟩
abbrev R2:=V->V->Hp->VK->Prop
def iq(X:Cx)(f:Value->Value->Sem Value)(r:R2):Prop :=
 ∀(pins:yp) (s:Shared) (σ:St) (H:Hp) (x y:V) (v u:Value) (Q:VK),Inv X pins σ H s->RelV x v->RelV y u->r x y H Q ->
  wpAny (model X.prog X.w) X.A (f v u) (EP X pins σ Q) X.xe s
def So(X:Cx)(f:Value->Sem Value)(r:V->Hp->VK->Prop):Prop :=
 ∀(pins:yp) (s:Shared) (σ:St) (H:Hp) (x:V) (v:Value) (Q:VK),Inv X pins σ H s->RelV x v->r x H Q ->
  wpAny (model X.prog X.w) X.A (f v) (EP X pins σ Q) X.xe s
def fO(X:Cx)(f:Value)(r:List V->Hp->VK->Prop):Prop :=
 ∀(pins:yp) (s:Shared) (σ:St) (H:Hp) (xs:List V) (us:wf) (Q:VK),Inv X pins σ H s->Vals xs us->r xs H Q ->
  wpAny (model X.prog X.w) X.A (call f us) (EP X pins σ Q) X.xe s
def zU(r:R2)(ta tb:TE):TE:=fun σ H Q=>ta σ H fun x H1=>tb σ H1 fun y H2=>r x y H2 Q
def Sq(r:V->Hp->VK->Prop)(ta:TE):TE:=fun σ H Q=>ta σ H fun x H1=>r x H1 Q
def rI(C:Int->Int->Prop)(g:Int->Int->V):R2:=fun x y H Q=>∃ i j,x=.int i/\y=.int j/\C i j/\Q (g i j) H
def FG(g:Int->Int->V):R2:=fun x y H Q=>∃ i j,x=.int i/\y=.int j/\Q (g i j) H
def rU(g:Int->V):V->Hp->VK->Prop:=fun x H Q=>∃ i,x=.int i/\Q (g i) H
section
variable {a b:Expr}{tb tc:TE}
theorem Ld(ha:PE X a ta)(hb:PE X b tb){R:V->V->Hp->Prop}(I:Inv X pins σ H s)(h:ta σ H fun x H1=>tb σ H1 fun y H2=>R x y H2)(hf:∀ v u s2 x y H2,Inv X pins σ H2 s2->RelV x v->RelV y u->R x y H2->wpAny (model X.prog X.w) X.A (f v u) Q X.xe s2) :
  wpAny (model X.prog X.w) X.A (eval a X.env) (fun v bH=>wpAny (model X.prog X.w) X.A (eval b X.env) (fun u bu=>wpAny (model X.prog X.w) X.A (f v u) Q X.xe bu) X.xe bH) X.xe s:=by
 refine cL (ha pins s σ H _ I h) fun v s1 ⟨x,H1,I1,r1,q1⟩=>?_;refine cL (hb pins s1 σ H1 _ I1 q1) fun u s2 ⟨y,H2,I2,r2,q2⟩=>?_;exact hf v u s2 x y H2 I2 r1 r2 q2
theorem O6{op:Operator}{r:R2}(ho:iq X (binaryOp op) r)(ha:PE X a ta)(hb:PE X b tb):PE X (.BinOp a op b pos) (zU r ta tb):=by
 intro pins s σ H Q I h;exact wpAny_BinOp (Ld ha hb I h fun v u s2 x y H2 I2 rx ry q=>ho pins s2 σ H2 x y v u Q I2 rx ry q)
theorem O7{op:UnaryOp}{r:V->Hp->VK->Prop}(ho:So X (unaryOp op) r)(ha:PE X a ta):PE X (.UnaryOp op a pos) (Sq r ta):=by
 intro pins s σ H Q I h;exact UnaryOp_ (cL (ha pins s σ H _ I h) fun v s1 ⟨x,H1,I1,r1,q1⟩=>ho pins s1 σ H1 x v Q I1 r1 q1)
theorem Sr{C:Int->Int->Prop}{g:Int->Int->Int}(rule:∀(i j:Int) (t u:Tok) (s:Shared) (Q:xz) (E:xz),C i j->Q (.int (g i j) s.toks) { s with toks:=s.toks+1 }->wpAny (model X.prog X.w) X.A (f (.int i t) (.int j u)) Q E s) :
  iq X f (rI C fun i j=>.int (g i j)):=by
 intro pins s σ H x y v u Q I rx ry h;obtain⟨i,j,rfl,rfl,hc,q⟩:=h;obtain⟨t,rfl⟩:=rx;obtain⟨t',rfl⟩:=ry;exact rule i j t t' s _ _ hc ⟨.int (g i j),H,I.tok _,⟨_,rfl⟩,q⟩
theorem Le{g:Int->Int->Int}(rule:∀(i j:Int) (t u:Tok) (s:Shared) (Q:xz) (E:xz),Q (.int (g i j) s.toks) { s with toks:=s.toks+1 }->wpAny (model X.prog X.w) X.A (f (.int i t) (.int j u)) Q E s) :
  iq X f (FG fun i j=>.int (g i j)):=by
 intro pins s σ H x y v u Q I rx ry h;obtain⟨i,j,rfl,rfl,q⟩:=h;obtain⟨t,rfl⟩:=rx;obtain⟨t',rfl⟩:=ry;exact rule i j t t' s _ _ ⟨.int (g i j),H,I.tok _,⟨_,rfl⟩,q⟩
theorem Gi{g:Int->Int->Bool}(rule:∀(i j:Int) (t u:Tok) (s:Shared) (Q:xz) (E:xz),Q (.bool (g i j)) s->wpAny (model X.prog X.w) X.A (f (.int i t) (.int j u)) Q E s) :
  iq X f (FG fun i j=>.bl (g i j)):=by
 intro pins s σ H x y v u Q I rx ry h;obtain⟨i,j,rfl,rfl,q⟩:=h;obtain⟨t,rfl⟩:=rx;obtain⟨t',rfl⟩:=ry;exact rule i j t t' s _ _ ⟨.bl (g i j),H,I,rfl,q⟩
def TL(i j:Int):Prop:=0<=j/\j<=1000000/\i.natAbs < 2 ^ 64
def Lf(i j:Int):Prop:=(-(2 ^ 64) < i/\i < 2 ^ 64)\/(-(2 ^ 64) < j/\j < 2 ^ 64)
theorem Lf.ok{i j:Int}(h:Lf i j):IntMulOk i j:=by
 rcases h with⟨h1,h2⟩ | ⟨h1,h2⟩
 ·exact .of_left (intBits_le_64 h1 h2)
 ·exact .of_right (intBits_le_64 h1 h2)
theorem bb:iq X (binaryOp .Add) (FG fun i j=>.int (i+j)):=Le fun _ _ _ _ _ _ _ q=>add_int q
theorem gy:iq X (binaryOp .Sub) (FG fun i j=>.int (i - j)):=Le fun _ _ _ _ _ _ _ q=>sub_int q
theorem iK:iq X (binaryOp .Mult) (rI Lf fun i j=>.int (i * j)):=Sr fun _ _ _ _ _ _ _ hc q=>mul_int q hc.ok
theorem gd:iq X (binaryOp .Mod) (rI (fun _ j=>0 < j) fun i j=>.int (i % j)):=Sr fun i j _ _ _ _ _ hc q=>by
 have h1:(0:Int) < j:=hc;exact mod_int' (by omega) (by rw[Int.fmod_eq_emod_of_nonneg i (by omega)];exact q)
theorem lp:iq X (binaryOp .Pow) (rI TL fun i j=>.int (i ^ j.toNat)):=Sr fun _ _ _ _ _ _ _ hc q=>pow_int_small hc.1 hc.2.1 hc.2.2 q
theorem qE:iq X (inplaceOp .Add) (FG fun i j=>.int (i+j)):=Le fun _ _ _ _ _ _ _ q=>iadd_int q
theorem YL{f:Value->Sem Value}{g:Int->Int}(rule:∀(i:Int) (t:Tok) (s:Shared) (Q:xz) (E:xz),Q (.int (g i) s.toks) { s with toks:=s.toks+1 }->wpAny (model X.prog X.w) X.A (f (.int i t)) Q E s) :
  So X f (rU fun i=>.int (g i)):=by
 intro pins s σ H x v Q I rx h;obtain⟨i,rfl,q⟩:=h;obtain⟨t,rfl⟩:=rx;exact rule i t s _ _ ⟨.int (g i),H,I.tok _,⟨_,rfl⟩,q⟩
theorem lq:So X (unaryOp .USub) (rU fun i=>.int (-i)):=YL fun _ _ _ _ _ q=>neg_int q
end
def O8:V->V->Bool
 | .dj,.dj=>true | .dj,.int _=>true | .int _,.dj=>true | .dj,.bl _=>true | .bl _,.dj=>true | .dj,.str _=>true | .str _,.dj=>true
 | .int _,.int _=>true | .bl _,.bl _=>true | .str _,.str _=>true | .yg _,.yg _=>true
 | .int _,.str _=>true | .str _,.int _=>true | .bl _,.str _=>true | .str _,.bl _=>true
 | _,_=>false
def WK:R2:=fun x y H Q=>O8 x y=true/\Q (.bl (decide (x=y))) H
def WL:R2:=fun x y H Q=>O8 x y=true/\Q (.bl (!decide (x=y))) H
theorem ym{i j:Int}:decide (V.int i=V.int j)=(i == j):=by
 rw[acr];simp
theorem BX{i j:Bool}:decide (V.bl i=V.bl j)=(i == j):=by
 rw[acr];simp
theorem yn{i j:Str}:decide (V.str i=V.str j)=(i == j):=by
 rw[acr];simp
theorem yo{i j:Array UInt8}:decide (V.yg i=V.yg j)=(i.toList == j.toList):=by
 rw[acr];cases i;cases j;simp
section
variable {a b:Expr}{tb tc:TE}
theorem bM{Q:VK}{k k':Bool}(I:Inv X pins σ H s)(q:Q (.bl k) H)(e:k=k'):EP X pins σ Q (.bool k') s:=by
 subst e;exact⟨.bl k,H,I,rfl,q⟩
theorem O9:iq X (compareOp .Eq) WK:=by
 intro pins s σ H x y v u Q I rx ry h;obtain⟨hs,q⟩:=h;cases x with
 | dj =>
  cases rx;cases y with
  | dj=>cases ry;exact PySem.EqNone.eq_none_none (bM I q (by simp))
  | bl j=>cases ry;exact PySem.EqNone.eq_none_bool (bM I q (by simp))
  | int j=>obtain⟨t',rfl⟩:=ry;exact PySem.EqNone.eq_none_int (bM I q (by simp))
  | str j=>obtain⟨t',rfl⟩:=ry;exact PySem.EqNone.eq_none_str (bM I q (by simp))
  | _=>exact absurd (show false=true from hs) aav
 | bl i =>
  cases rx;cases y with
  | dj=>cases ry;exact PySem.EqNone.eq_bool_none (bM I q (by simp))
  | bl j=>cases ry;exact eq_bool (bM I q BX)
  | str j=>obtain⟨t',rfl⟩:=ry;exact PySem.EqMixed.eq_bool_str (bM I q (by simp))
  | _=>exact absurd (show false=true from hs) aav
 | int i =>
  obtain⟨t,rfl⟩:=rx;cases y with
  | dj=>cases ry;exact PySem.EqNone.eq_int_none (bM I q (by simp))
  | int j=>obtain⟨t',rfl⟩:=ry;exact eq_int (bM I q ym)
  | str j=>obtain⟨t',rfl⟩:=ry;exact PySem.EqMixed.eq_int_str (bM I q (by simp))
  | _=>exact absurd (show false=true from hs) aav
 | str i =>
  obtain⟨t,rfl⟩:=rx;cases y with
  | dj=>cases ry;exact PySem.EqNone.eq_str_none (bM I q (by simp))
  | bl j=>cases ry;exact PySem.EqMixed.eq_str_bool (bM I q (by simp))
  | int j=>obtain⟨t',rfl⟩:=ry;exact PySem.EqMixed.eq_str_int (bM I q (by simp))
  | str j=>obtain⟨t',rfl⟩:=ry;exact eq_str (bM I q yn)
  | _=>exact absurd (show false=true from hs) aav
 | yg i =>
  obtain⟨t,rfl⟩:=rx;cases y with
  | yg j=>obtain⟨t',rfl⟩:=ry;exact PySem.W.eq_bytes (bM I q yo)
  | _=>exact absurd (show false=true from hs) aav
 | _=>cases y<;>exact absurd (show false=true from hs) aav
theorem Pa:iq X (compareOp .NotEq) WL:=by
 intro pins s σ H x y v u Q I rx ry h;obtain⟨hs,q⟩:=h;cases x with
 | dj =>
  cases rx;cases y with
  | dj=>cases ry;exact PySem.EqNone.ne_none_none (bM I q (by simp))
  | bl j=>cases ry;exact PySem.EqNone.ne_none_bool (bM I q (by simp))
  | int j=>obtain⟨t',rfl⟩:=ry;exact PySem.EqNone.ne_none_int (bM I q (by simp))
  | str j=>obtain⟨t',rfl⟩:=ry;exact PySem.EqNone.ne_none_str (bM I q (by simp))
  | _=>exact absurd (show false=true from hs) aav
 | bl i =>
  cases rx;cases y with
  | dj=>cases ry;exact PySem.EqNone.ne_bool_none (bM I q (by simp))
  | bl j=>cases ry;exact ne_bool (bM I q (abK not BX))
  | str j=>obtain⟨t',rfl⟩:=ry;exact PySem.EqMixed.ne_bool_str (bM I q (by simp))
  | _=>exact absurd (show false=true from hs) aav
 | int i =>
  obtain⟨t,rfl⟩:=rx;cases y with
  | dj=>cases ry;exact PySem.EqNone.ne_int_none (bM I q (by simp))
  | int j=>obtain⟨t',rfl⟩:=ry;exact ne_int (bM I q (abK not ym))
  | str j=>obtain⟨t',rfl⟩:=ry;exact PySem.EqMixed.ne_int_str (bM I q (by simp))
  | _=>exact absurd (show false=true from hs) aav
 | str i =>
  obtain⟨t,rfl⟩:=rx;cases y with
  | dj=>cases ry;exact PySem.EqNone.ne_str_none (bM I q (by simp))
  | bl j=>cases ry;exact PySem.EqMixed.ne_str_bool (bM I q (by simp))
  | int j=>obtain⟨t',rfl⟩:=ry;exact PySem.EqMixed.ne_str_int (bM I q (by simp))
  | str j=>obtain⟨t',rfl⟩:=ry;exact ne_str (bM I q (abK not yn))
  | _=>exact absurd (show false=true from hs) aav
 | yg i =>
  obtain⟨t,rfl⟩:=rx;cases y with
  | yg j=>obtain⟨t',rfl⟩:=ry;exact PySem.W.ne_bytes (bM I q (abK not yo))
  | _=>exact absurd (show false=true from hs) aav
 | _=>cases y<;>exact absurd (show false=true from hs) aav
theorem gz:iq X (compareOp .Lt) (FG fun i j=>.bl (decide (i < j))):=Gi fun _ _ _ _ _ _ _ q=>lt_int q
theorem BY:iq X (compareOp .LtE) (FG fun i j=>.bl (decide (i<=j))):=Gi fun _ _ _ _ _ _ _ q=>le_int q
theorem yq:iq X (compareOp .Gt) (FG fun i j=>.bl (decide (j < i))):=Gi fun _ _ _ _ _ _ _ q=>gt_int q
theorem i9:iq X (compareOp .GtE) (FG fun i j=>.bl (decide (j<=i))):=Gi fun _ _ _ _ _ _ _ q=>ge_int q
theorem BZ(b:Expr)(h:autoParam (op≠.In) ra1)(h2:autoParam (op≠.NotIn) ra1):behindInMarks op b=false:=by
 have e1:(op == CmpOp.In)=false:=by cases op<;>first | rfl | exact absurd rfl h
 have e2:(op == CmpOp.NotIn)=false:=by cases op<;>first | rfl | exact absurd rfl h2
 cases b<;>simp[behindInMarks,e1,e2]
theorem yr{r:R2}(ho:iq X (compareOp op) r)(ha:PE X a ta)(hb:PE X b tb)(hm:behindInMarks op b=false):PE X (.Compare a [op] [b] pos) (zU r ta tb):=by
 intro pins s σ H Q I h;exact wpAny_Compare1 (Ld ha hb I h fun v u s2 x y H2 I2 rx ry q=>ho pins s2 σ H2 x y v u Q I2 rx ry q) hm
def yt(t:TE):TT:=fun σ H Q=>t σ H fun x H'=>∃ k,x=.bl k/\Q k H'
theorem yu{r:R2}(ho:iq X (compareOp op) r)(ha:PE X a ta)(hb:PE X b tb)(hm:behindInMarks op b=false):PT X (.Compare a [op] [b] pos) (yt (zU r ta tb)):=by
 intro pins s σ H Q I h;refine wpAny_isTrue_Compare1 (cL (ha pins s σ H _ I h) fun v s1 ⟨x,H1,I1,r1,q1⟩=>cL (hb pins s1 σ H1 _ I1 q1) fun u s2 ⟨y,H2,I2,r2,q2⟩ =>
  cL (ho pins s2 σ H2 x y v u _ I2 r1 r2 q2) fun c s3 ⟨z,H3,I3,r3,k,e,q3⟩=>?_) hm
 subst e;cases r3;exact abz ⟨H3,I3,q3⟩
def vQ(r r':R2)(ta tb tc:TE):TE:=fun σ H Q=>ta σ H fun x H1=>tb σ H1 fun y H2=>r x y H2 fun z H3=>∃ k,z=.bl k /\
 (if k=true then tc σ H3 fun w' H4=>r' y w' H4 Q else Q (.bl false) H3)
theorem B0{Lg:CmpOp}{r r':R2}(ho:iq X (compareOp op) r)(BB:iq X (compareOp Lg) r')(ha:PE X a ta)(hb:PE X b tb)(hc:PE X c tc)(hm:autoParam (lastMarks [op,Lg] [b,c]=false) ra2):PE X (.Compare a [op,Lg] [b,c] pos) (vQ r r' ta tb tc):=by
 intro pins s σ H Q I h;refine Compare_chain (cL (ha pins s σ H _ I h) fun v s1 ⟨x,H1,I1,r1,q1⟩=>chain_link (cL (hb pins s1 σ H1 _ I1 q1) fun u s2 ⟨y,H2,I2,r2,q2⟩ =>
  cL (ho pins s2 σ H2 x y v u _ I2 r1 r2 q2) fun d s3 ⟨z,H3,I3,r3,k,e,q3⟩=>?_)) hm
 subst e;cases r3;refine abz ?_;cases k with
 | false=>exact ite_ff ⟨.bl false,H3,I3,rfl,q3⟩
 | true=>exact ite_tt (chain_last (cL (hc pins s3 σ H3 _ I3 q3) fun w' s4 ⟨z',H4,I4,r4,q4⟩=>BB pins s4 σ H4 y z' u w' Q I4 r2 r4 q4))
theorem nG:(sizeLine:Nat) < 2 ^ 63:=by rw[sizeLine_eq];decide
theorem vals1{x:V}(r:Vals [x] us):∃ u,us=[u]/\RelV x u:=by
 cases r with
 | cons r1 r2=>cases r2;exact⟨_,rfl,r1⟩
theorem vals2{x:V}(r:Vals [x,y] us):∃ u w',us=[u,w']/\RelV x u/\RelV y w':=by
 cases r with
 | cons r1 r2 =>
  cases r2 with
  | cons r3 r4=>cases r4;exact⟨_,_,rfl,r1,r3⟩
theorem zV(hc:X.calm=true):fO X (.builtin "max") (fun xs H Q=>∃ i j,xs=[.int i,.int j]/\Q (.int (if j > i then j else i)) H):=by
 intro pins s σ H xs us Q I r h;obtain⟨i,j,rfl,q⟩:=h;obtain⟨u,w',rfl,⟨t,rfl⟩,⟨t',rfl⟩⟩:=vals2 r;refine max_two_ints (I.ok.hd hc) fun h' tk k=>⟨_,H,I.kept k,?_,q⟩
 by_cases hj:j > i
 ·rw[aaE hj,aaE hj];exact⟨_,rfl⟩
 ·rw[aaA hj,aaA hj];exact⟨_,rfl⟩
theorem zW:fO X (.type "int") (fun xs H Q=>(∃ i,xs=[.int i]/\Q (.int i) H)\/∃ k,xs=[.bl k]/\Q (.int (if k then 1 else 0)) H):=by
 intro pins s σ H xs us Q I r h;rcases h with⟨i,rfl,q⟩ | ⟨k,rfl,q⟩
 ·obtain⟨u,rfl,t,rfl⟩:=vals1 r;exact call_int_int ⟨.int i,H,I,⟨_,rfl⟩,q⟩
 ·obtain⟨u,rfl,r1⟩:=vals1 r;cases r1;exact call_int_bool ⟨.int (if k then 1 else 0),H,I.tok _,⟨_,rfl⟩,q⟩
end
structure vR(h:Heap)(x dx C:Addr)(mA:xL):Prop where
 obj:h.get? x=some (PySem.W.instObj C dx)
 ns:h.Ns1 dx mA
 ne:dx≠x
theorem zX(n:h.Ns1 dx mA):∃ od,h.get? dx=some od/\∀ name,PySem.W.lookIn name od=some (mA name):=by
 obtain⟨o,es,ep,ho,hd,hk,_,hm⟩:=n;refine⟨o,ho,fun name=>?_⟩;have e:=hm name;unfold nsFind findBy at e;rw[<- Array.find?_toList]at e;unfold PySem.W.lookIn;rw[hd];dsimp only;split
 ·rename_i y q;rw[q]at e;exact abK some e
 ·rename_i q;rw[q]at e;have a:es.toList.any (·.refKey)=false:=by
   rw[List.any_eq_false];intro y hy;obtain⟨z,t,Lh⟩:=hk y (Array.mem_toList_iff.mp hy);simp[DictEntry.refKey,Lh]
  have a':¬ es.toList.any (·.refKey)=true:=by rw[a];exact aav
  rw[aaA a'];exact abK some e
theorem vR.look{x:Addr}(I:vR h x dx C mA):∃ od,PySem.W.InstAt h x (PySem.W.instObj C dx) C (some od)/\∀ name,PySem.W.lookIn name od=some (mA name) :=
 let ⟨od,ho,hl⟩:=zX I.ns
 ⟨od,⟨I.obj,rfl,rfl,ho⟩,hl⟩
section
variable {K:zn}{x f:Addr}{name:Str}{v:Value}
theorem get_map{expr:Bool}(X:K.In s.heap)(I:vR s.heap x dx C mA)(hg:PySem.W.plainGet K C name=true)(hh:PySem.W.hasDictIn K C=true)(ha:PySem.W.findIn K (.ref C) name=some none)(hv:mA name=some v)(YM:PySem.W.handedIn v=true)(h:Q v { s with toks:=s.toks+1 }) :
  wpAny (model prog w) A (getAttr (.ref x) name expr) Q E s:=by
 obtain⟨od,J,hl⟩:=I.look;exact PySem.W.get_value X J (acO hg).1 (PySem.W.findObj_own hh ha rfl (by rw[hl,hv])) YM h
theorem B1{Q:Value×wf->Shared->Prop}(X:K.In s.heap)(I:vR s.heap x dx C mA)(hg:PySem.W.plainGet K C name=true)(hf:PySem.W.findIn K (.ref C) name=some (some (.ref f)))(ht:PySem.W.isFn K (.ref f)=true)(hv:mA name=none)(h:Q (.ref f,[.ref x]) s) :
  wpAny (model prog w) A (getMethod (.ref x) name pl) Q E s:=by
 obtain⟨od,J,hl⟩:=I.look;exact PySem.W.method_fn X J (acO hg).1 (acO hg).2 hf (ab6.mp ht) (by show(PySem.W.lookIn name od).map (·.isSome)=some false;rw[hl,hv];rfl) h
theorem Gj{ns:wv}{Q:Unit->Shared->Prop}(X:K.In s.heap)(I:vR s.heap x dx C mA)(hs:PySem.W.findIn K (.ref C) "__setattr__"=some (some (.builtin "object.__setattr__")))(hp:PySem.W.plainOver K C=true)(ht:PySem.W.takerIn K C name=some none)(hh:PySem.W.hasDictIn K C=true)(hw:PySem.Within mA ns)(hsz:ns.length<=sizeLine)(h:∀ h',vR h' x dx C (fun y=>if y=name then some v else mA y)->Heap.SameBut dx s.heap h'->Q () { s with heap:=h',toks:=s.toks+2 }) :
  wpAny (model prog w) A (setAttr (.ref x) name v) Q E s:=by
 obtain⟨od,J,hl⟩:=I.look;refine PySem.W.set_plain X J hs (PySem.W.osa_open (s:={ s with toks:=s.toks+1 }) (r:=none) X J hp ht fun b=>?_);obtain⟨cd,hc,IK⟩:=PySem.W.any_some hh;have hx:s.heap.get? x=some ⟨.ref C,some dx,.plain,#[]⟩:=I.obj;refine aaj (aam (aaj (aaj (wpAny_loadPart hx (aaj (PySem.W.Looks.here (s:={ s with toks:=s.toks+1 }) (PySem.W.looks_clsIn X hc) ?_))))));rw[IK];refine aam (a:=some dx) (aaj (aam (aaj ?_)));refine wpAny_nsSet1 (s:={ s with toks:=s.toks+1 }) I.ns fun h' Gk mx=>?_;obtain⟨oD,esD,epD,YN,YO,YQ⟩:=Gk.count (PySem.Within.cons name v hw);refine aaj (wpAny_lookBehind YN (by rw[YO];exact pastItsLine_dict (aaq YQ (by rw[aaR];omega))) ?_);exact aam (h _ ⟨(mx.2 _ (acf I.ne)).trans I.obj,Gk,I.ne⟩ mx)
theorem B2{R:Result->Shared->Prop}{vs:wf}(X:K.In s.heap)(hm:PySem.W.makesIn K C=true)(hi:PySem.W.findIn K (.ref C) "__init__"=some (some (.ref f)))(hf:PySem.W.typeIn K (.ref f)=some (.type "function"))(h:codeAny (model prog w) (A.under (.builtin "type.__call__" ⟨.ref C::vs,kw⟩)) (.call (.ref f) ⟨.ref (s.heap.objs.size+1)::vs,kw⟩) (PySem.W.InitBack (s.heap.objs.size+1) R)
   { s with heap:=(s.heap.push PySem.W.emptyDict).push (PySem.W.instObj C s.heap.objs.size) }) :
  codeAny (model prog w) A (.call (.ref C) ⟨vs,kw⟩) R s:=by
 obtain⟨hh,g,d,t,os⟩:=s;exact PySem.W.make_core (PySem.W.makes_of X hm) (PySem.W.looks_findIn X hi) (fun self=>PySem.W.bind_fn X self hf) (.inl rfl) h
end
noncomputable def gO(f:Str)(v:V):List (Str×V)->List (Str×V)
 | []=>[(f,v)]
 | (g,x)::r=>if g=f then(g,v)::r else(g,x)::gO f v r
theorem l7(f g:Str)(v:V):∀ fs:List (Str×V),(gO f v fs).lookup g=if g=f then some v else fs.lookup g
 | []=>by
  show List.lookup g [(f,v)]=_
  by_cases h:g=f
  ·have hb:(g == f)=true:=ab6.mpr h;simp only[List.lookup,hb,aaE h]
  ·have hb:(g == f)=false:=ab4.mpr h;simp only[List.lookup,hb,aaA h]
 | (k,x)::r=>by
  have ih:=l7 f g v r;rw[show gO f v ((k,x)::r)=(if k=f then(k,v)::r else(k,x)::gO f v r) from rfl]
  by_cases hk:k=f
  ·rw[aaE hk]
   by_cases h:g=k
   ·have hb:(g == k)=true:=ab6.mpr h;simp only[List.lookup,hb,aaE (h.trans hk)]
   ·have hb:(g == k)=false:=ab4.mpr h;simp only[List.lookup,hb,aaA (fun e:g=f=>h (e.trans hk.symm))]
  ·rw[aaA hk]
   by_cases h:g=k
   ·have hb:(g == k)=true:=ab6.mpr h;simp only[List.lookup,hb,aaA (fun e:g=f=>hk (h.symm.trans e))]
   ·have hb:(g == k)=false:=ab4.mpr h;simp only[List.lookup,hb];exact ih
theorem lr(f:Str)(v:V):∀ fs:List (Str×V),f∈(gO f v fs).map (·.1)/\∀ g,g∈fs.map (·.1)->g∈(gO f v fs).map (·.1)
 | []=>⟨by simp[gO],fun g h=>by simp at h⟩
 | (k,x)::r=>by
  obtain⟨i1,i2⟩:=lr f v r;rw[show gO f v ((k,x)::r)=(if k=f then(k,v)::r else(k,x)::gO f v r) from rfl]
  by_cases hk:k=f
  ·rw[aaE hk];subst hk;exact⟨by simp,fun g h=>by simpa using h⟩
  ·rw[aaA hk];refine⟨?_,fun g h=>?_⟩
   ·rw[aaz];exact aax _ i1
   ·rw[aaz]at h ⊢;rcases aan.mp h with e | e
    ·exact aan.mpr (.inl e)
    ·exact aax _ (i2 g e)
theorem l9(f:Str)(v:V):∀ fs:List (Str×V),(gO f v fs).length<=fs.length+1
 | []=>by simp[gO]
 | (k,x)::r=>by
  have ih:=l9 f v r;rw[show gO f v ((k,x)::r)=(if k=f then(k,v)::r else(k,x)::gO f v r) from rfl]
  by_cases hk:k=f
  ·rw[aaE hk,aaR,aaR];omega
  ·rw[aaA hk,aaR,aaR];omega
theorem i7.some_of{o:wP}(r:i7 (some v) o):∃ u,o=some u/\RelV v u:=by
 cases o with
 | none=>exact(show False from r).elim
 | some u=>exact⟨u,rfl,r⟩
theorem i7.none_of{o:wP}(r:i7 none o):o=none:=by
 cases o with
 | none=>rfl
 | some u=>exact(show False from r).elim
theorem zY(r:RelV v u):PySem.W.handedIn u=true:=by
 cases v with
 | dj=>cases (show u=Value.none from r);rfl
 | bl b=>cases (show u=Value.bool b from r);rfl
 | int i=>obtain⟨t,e⟩:=(show ∃ t,u=Value.int i t from r);cases e;rfl
 | str x=>obtain⟨t,e⟩:=(show ∃ t,u=Value.str x t from r);cases e;rfl
 | yg b=>obtain⟨t,e⟩:=(show ∃ t,u=Value.bytes b t from r);cases e;rfl
 | FT b=>obtain⟨t,e⟩:=(show ∃ t,u=Value.float b t from r);cases e;rfl
 | ref a=>cases (show u=Value.ref a from r);rfl
 | ty n=>cases (show u=Value.type n from r);rfl
section
variable {fs gq:List (Str×V)}
theorem mQ(cv:eC P w H h)(e:H a=some (.ins C dx fs)):∃ mA,vR h a dx C mA/\(∀ f,i7 (fs.lookup f) (mA f))/\PySem.Within mA (fs.map (·.1))/\fs.length<=1000/\H dx=some (.own a):=by
 obtain⟨d,z,ne,ob,mA,n,r,q⟩:=(show cq P w H h a (.ins C dx fs) from cv a _ e);exact⟨mA,⟨ob,n,ne⟩,r,q,z,d⟩
end
structure my(K:zn)(C:Addr):Prop where
 pg:PySem.W.plainGet K C Str.empty=true
 hd:PySem.W.hasDictIn K C=true
 po:PySem.W.plainOver K C=true
 sa:PySem.W.findIn K (.ref C) "__setattr__"=some (some (.builtin "object.__setattr__"))
theorem my.get{K:zn}{C:Addr}(c:my K C)(f:Str):PySem.W.plainGet K C f=true:=c.pg
def cI(K:zn)(C:Addr)(f:Str):Prop:=PySem.W.findIn K (.ref C) f=some none
theorem cI.Pb{K:zn}{f:Str}(n:cI K C f):PySem.W.takerIn K C f=some none:=by
 unfold PySem.W.takerIn;rw[show PySem.W.findIn K (.ref C) f=some none from n]
 rfl
structure Meth(K:zn)(C:Addr)(m:Str)(f:Addr):Prop where
 at_:PySem.W.findIn K (.ref C) m=some (some (.ref f))
 fn:PySem.W.isFn K (.ref f)=true
 kp:PySem.W.keepIn K (.ref f)=true
section
variable {fs:List (Str×V)}{f:Str}
theorem nH{b:Bool}(I:Inv X pins σ H s)(e:H a=some (.ins C dx fs))(c:my X.K C)(n:cI X.K C f)(l:fs.lookup f=some v)(h:∀ u s',Inv X pins σ H s'->RelV v u->Q u s'):wpAny (model X.prog X.w) A (getAttr (.ref a) f b) Q E s:=by
 obtain⟨mA,O,r,_,_,_⟩:=mQ I.cv e;obtain⟨u,hu,ru⟩:=i7.some_of (v:=v) (o:=mA f) (by rw[<- l];exact r f);exact get_map I.l6 O (c.get f) c.hd n hu (zY ru) (h u _ (I.tok _) ru)
theorem nI{m:Str}{g:Addr}{Q:Value×wf->Shared->Prop}(I:Inv X pins σ H s)(e:H a=some (.ins C dx fs))(c:my X.K C)(k:Meth X.K C m g)(l:fs.lookup m=none)(h:Q (.ref g,[.ref a]) s):wpAny (model X.prog X.w) A (getMethod (.ref a) m pl) Q E s:=by
 obtain⟨mA,O,r,_,_,_⟩:=mQ I.cv e;have hn:mA m=none:=i7.none_of (by rw[<- l];exact r m);exact B1 I.l6 O (c.get m) k.at_ k.fn hn h
theorem nJ{Q:Unit->Shared->Prop}(I:Inv X pins σ H s)(e:H a=some (.ins C dx fs))(c:my X.K C)(n:cI X.K C f)(hl:fs.length < 1000)(ry:RelV y u)(h:∀ s',Inv X pins σ (upd H a (.ins C dx (gO f y fs))) s'->Q () s'):wpAny (model X.prog X.w) A (setAttr (.ref a) f u) Q E s:=by
 obtain⟨mA,O,r,wi,_,ho⟩:=mQ I.cv e;have hz:(fs.map (·.1)).length<=sizeLine:=by rw[aak,sizeLine_eq];omega
 refine Gj I.l6 O c.sa c.po n.Pb c.hd wi hz fun h' O' sb=>h _ ?_;have hd:∃ o,h'.get? dx=some o:=let ⟨o,_,_,e',_⟩:=O'.ns;⟨o,e'⟩;refine I.write (x:=a) (e:=dx) (by rw[e];exact True.intro) (.inr ho) (fun b q hb z=>(sb.2 b hb).trans z) hd ?_;refine⟨by rw[bw O.ne];exact ho,?_,O.ne,O'.obj,_,O'.ns,fun g=>?_,fun g hg=>?_⟩
 ·have:=l9 f y fs;omega
 ·show i7 ((gO f y fs).lookup g) (if g=f then some u else mA g);rw[l7]
  by_cases q:g=f
  ·rw[aaE q,aaE q];exact ry
  ·rw[aaA q,aaA q];exact r g
 ·by_cases q:g=f
  ·rw[q];exact(lr f y fs).1
  ·refine(lr f y fs).2 g (wi g fun z=>hg ?_);show(if g=f then some u else mA g)=none;rw[aaA q];exact z
theorem Inv.made(I:Inv X pins σ H s):Inv X pins σ (upd (upd H s.heap.objs.size (.own (s.heap.objs.size+1))) (s.heap.objs.size+1) (.ins C s.heap.objs.size []))
  { s with heap:=(s.heap.push PySem.W.emptyDict).push (PySem.W.instObj C s.heap.objs.size) }:=by
 have e1:(s.heap.push PySem.W.emptyDict).get? s.heap.objs.size=some PySem.W.emptyDict:=aau s.heap rfl;have e2:((s.heap.push PySem.W.emptyDict).push (PySem.W.instObj C s.heap.objs.size)).get? (s.heap.objs.size+1)=some (PySem.W.instObj C s.heap.objs.size):=by
  have:=aau (s.heap.push PySem.W.emptyDict) (o:=PySem.W.instObj C s.heap.objs.size) rfl
  rwa [aba]at this
 have e3:(s.heap.push PySem.W.emptyDict).Ns s.heap.objs.size (fun _=>none):=⟨PySem.W.emptyDict,#[],_,e1,rfl,(fun e he=>absurd he (by simp)),fun _=>rfl⟩;have I1:=I.laid (a:=s.heap.objs.size) (o:=.own (s.heap.objs.size+1)) (h':=s.heap.push PySem.W.emptyDict) (t':=s.toks) (fun b u q=>aal _ q) (aao _) ⟨_,e1⟩;refine I1.laid (a:=s.heap.objs.size+1) (o:=.ins C s.heap.objs.size []) (t':=s.toks) (fun b u q=>aal _ q) (ab8 (aba _ _)) ?_;have ne:s.heap.objs.size≠s.heap.objs.size+1:=aaO (abN _);refine⟨by rw[bw ne,cn],aaK _,ne,e2,fun _=>none,(Heap.Ns1.of_empty e3).at fun o q=>aal _ q,fun _=>True.intro,fun y hy=>absurd rfl hy⟩
theorem Gm{env:Env}{e:Expr}(hb:attributeBase e f env (eval e env)=eval e env)(h:wpAny (model prog w) A (eval e env) (fun o bH=>wpAny (model prog w) A (getAttr o f true) Q E bH) E s):wpAny (model prog w) A (eval (.Attribute e f pos) env) Q E s :=
 Attribute_any_ h (by rw[arm_eval_Attribute,hb])
end
def Li(K:zn)(ta:TE)(f:Str):TE:=fun σ H Q=>ta σ H fun x H1=>∃ a C dx fs v,x=.ref a/\H1 a=some (.ins C dx fs)/\my K C/\cI K C f/\fs.lookup f=some v/\Q v H1
noncomputable def Lj(K:zn)(ta tv:TE)(f:Str):TS:=fun D σ H=>tv σ H fun y H1=>ta σ H1 fun x H2=>∃ a C dx fs,x=.ref a/\H2 a=some (.ins C dx fs)/\my K C/\cI K C f/\fs.length < 1000 /\
 D.nx σ (upd H2 a (.ins C dx (gO f y fs)))
def TM(X:Cx)(op:Operator)(rd:V->V->Hp->VK->Prop):Prop :=
 ∀(pins:yp) (s:Shared) (σ:St) (H:Hp) (x y:V) (u v:Value) (Q:VK),Inv X pins σ H s->RelV x u->RelV y v->rd x y H Q->wpAny (model X.prog X.w) X.A (inplaceOp op u v) (EP X pins σ Q) X.xe s
noncomputable def qG(K:zn)(ta tv:TE)(rd:V->V->Hp->VK->Prop)(f:Str):TS:=fun D σ H=>ta σ H fun x H1=>∃ a C dx fs v,x=.ref a/\H1 a=some (.ins C dx fs)/\my K C/\cI K C f/\fs.lookup f=some v /\
 tv σ H1 fun y H2=>rd v y H2 fun z H3=>∃ TN gq,H3 a=some (.ins C TN gq)/\gq.length < 1000/\D.nx σ (upd H3 a (.ins C TN (gO f z gq)))
section
variable {e value:Expr}{f:Str}{pos' B3:Pos}{tv:TE}
theorem Lk(he:PE X e ta)(hb:attributeBase e f X.env (eval e X.env)=eval e X.env):PE X (.Attribute e f pos) (Li X.K ta f):=by
 intro pins s σ H Q I h;refine Gm hb (cL (he pins s σ H _ I h) fun u s1 ⟨x,H1,I1,rx,a,C,dx,fs,v,ex,ea,c,n,l,q⟩=>?_);subst ex;obtain rfl:u=Value.ref a:=rx;exact nH I1 ea c n l fun u' s2 I2 ru=>⟨v,H1,I2,ru,q⟩
theorem Ll(ha:PE X o ta)(hv:PE X value tv)(hs:swapsWith value (some (.Attribute o f pos')) pos.line X.env=pure false):PS X (.Assign [.Attribute o f pos'] value pos) (Lj X.K ta tv f):=by
 intro pins s σ H D I h;refine plainObj_wpAny_Assign_Attribute (cL (hv pins s σ H _ I h) fun u s1 ⟨y,H1,I1,ry,q⟩=>cL (ha pins s1 σ H1 _ I1 q) fun ov s2 ⟨x,H2,I2,rx,a,C,dx,fs,ex,ea,c,n,l,q2⟩=>?_) hs;subst ex;obtain rfl:ov=Value.ref a:=rx;exact nJ I2 ea c n l ry fun s3 I3=>⟨σ,_,I3,q2⟩
theorem zZ{op:Operator}{rd:V->V->Hp->VK->Prop}(ha:PE X o ta)(hv:PE X value tv)(TQ:TM X op rd):PS X (.AugAssign (.Attribute o f B3) op value pos) (qG X.K ta tv rd f):=by
 intro pins s σ H D I h;refine wpAny_AugAssign_AttributeAny (cL (ha pins s σ H _ I h) fun ov s1 ⟨x,H1,I1,rx,a,C,dx,fs,v,ex,ea,c,n,l,q⟩=>?_);subst ex;obtain rfl:ov=Value.ref a:=rx;refine nH I1 ea c n l fun u s2 I2 ru=>cL (hv pins s2 σ H1 _ I2 q) fun w3 s3 ⟨y,H2,I3,ry,q3⟩=>cL (TQ pins s3 σ H2 v y u w3 _ I3 ru ry q3) fun w4 s4 ⟨z,H3,I4,rz,TN,gq,YR,l',q4⟩=>?_;exact nJ I4 YR c n l' rz fun s5 I5=>⟨σ,_,I5,q4⟩
end
section
variable {c:Value}{b:Bool}
inductive kn (K:zn) (H:Hp):V->Value->Prop where
 | dj:kn K H .dj (.type "NoneType")
 | bl (x:Bool):kn K H (.bl x) (.type "bool")
 | int (i:Int):kn K H (.int i) (.type "int")
 | str (x:Str):kn K H (.str x) (.type "str")
 | FT (x:UInt64):kn K H (.FT x) (.type "float")
 | lst {a:Addr} {xs:List V} (e:H a=some (.lst xs)):kn K H (.ref a) (.type "list")
 | jV {a:Addr} {o:Obj} {xs:List V} (e:H a=some (.jV o (.lst xs))):kn K H (.ref a) (.type "list")
 | tup {a:Addr} {xs:List V} (e:H a=some (.tup xs)):kn K H (.ref a) (.type "tuple")
 | dK {a:Addr} {kvs:List (Key×V)} (e:H a=some (.dK kvs)):kn K H (.ref a) (.type "dict")
 | dT {a:Addr} {kvs:List (List Key×V)} (e:H a=some (.dT kvs)):kn K H (.ref a) (.type "dict")
 | ins {a C dx:Addr} {fs:List (Str×V)} (e:H a=some (.ins C dx fs)) (cl:my K C) (ha:PySem.W.findIn K (.ref C) "__class__"=some (some (.builtin "object.__class__")))
   (hn:PySem.W.specialIn K (.builtin "object.__class__") "__get__"=some (some (.builtin "getset_descriptor.__get__"))) (WM:PySem.W.takesIn K (.builtin "object.__class__")=some true)
   (hm:PySem.W.mroIn K C (.type "object")=some true):kn K H (.ref a) (.ref C)
theorem Aa{x:V}{t:Value}(I:Inv X pins σ H s)(rx:RelV x u)(ty:kn X.K H x t)(e:PySem.W.kitOne X.K t c=some b)(h:∀ tk,Q (.bool b) { s with toks:=tk }) :
  wpAny (model X.prog X.w) A (call (.builtin "isinstance") [u,c]) Q E s:=by
 cases ty with
 | dj=>cases (show u=Value.none from rx);exact abh PySem.W.kitx_none I.l6 True.intro e (fun z=>nomatch z) h
 | bl y=>cases (show u=Value.bool y from rx);exact abh PySem.W.kitx_bool I.l6 True.intro e (fun z=>nomatch z) h
 | int i=>obtain⟨t,q⟩:=(show ∃ t,u=Value.int i t from rx);cases q;exact abh PySem.W.kitx_int I.l6 True.intro e (fun z=>nomatch z) h
 | str y=>obtain⟨t,q⟩:=(show ∃ t,u=Value.str y t from rx);cases q;exact abh PySem.W.kitx_str I.l6 True.intro e (fun z=>nomatch z) h
 | FT y=>obtain⟨t,q⟩:=(show ∃ t,u=Value.float y t from rx);cases q;exact abh PySem.W.kitx_float I.l6 True.intro e (fun z=>nomatch z) h
 | @lst a xs ea =>
  cases (show u=Value.ref a from rx);obtain⟨_,_,n,_,h1⟩:=(show cq X.prog X.w H s.heap a (.lst xs) from I.cv a _ ea);exact abh PySem.W.kitx_list I.l6 ⟨_,h1,rfl⟩ e (fun z=>nomatch z) h
 | @jV a ob xs ea =>
  cases (show u=Value.ref a from rx);obtain⟨_,_,_,n,_,h1⟩:=(show cq X.prog X.w H s.heap a (.jV ob (.lst xs)) from I.cv a _ ea);exact abh PySem.W.kitx_list I.l6 ⟨_,h1,rfl⟩ e (fun z=>nomatch z) h
 | @tup a xs ea =>
  cases (show u=Value.ref a from rx);obtain⟨_,_,_,p⟩:=(show cq X.prog X.w H s.heap a (.tup xs) from I.cv a _ ea);obtain⟨o,h1,h2,_⟩:=p;exact abh PySem.W.kitx_tuple I.l6 ⟨o,h1,h2⟩ e (fun z=>nomatch z) h
 | @dK a kvs ea =>
  cases (show u=Value.ref a from rx);obtain⟨_,_,vs,_,p⟩:=(show cq X.prog X.w H s.heap a (.dK kvs) from I.cv a _ ea);obtain⟨o,es,ep,h1,h2,_⟩:=p;exact abh PySem.W.kitx_dict I.l6 ⟨o,h1,h2.1⟩ e (fun z=>nomatch z) h
 | @dT a kvs ea =>
  cases (show u=Value.ref a from rx);obtain⟨_,_,xs,_,o,es,ep,h1,h2,_⟩:=(show cq X.prog X.w H s.heap a (.dT kvs) from I.cv a _ ea);exact abh PySem.W.kitx_dict I.l6 ⟨o,h1,h2.1⟩ e (fun z=>nomatch z) h
 | @ins a C dx fs ea cl ha hn WM hm =>
  cases (show u=Value.ref a from rx);obtain⟨mA,O,_⟩:=mQ I.cv ea;obtain⟨od,J,_⟩:=O.look;exact abh (PySem.W.kitx_own (cl.get _) cl.hd ha hn WM hm) I.l6 J e (fun z=>nomatch z) h
end
structure cT(k:Nat)(A:tx):Prop where
 hd:A.handled=none
 dp:A.depth+3 * k+5 < recursionLimit
 un:A.units+16 * k+200 < cLine
theorem cT.mono{j k:Nat}(r:cT k A)(h:j<=k):cT j A:=⟨r.hd,by have:=r.dp;omega,by have:=r.un;omega⟩
theorem cT.deeper{k:Nat}(r:cT (k+1) A)(env:Env):cT k (A.deeper env) :=
 ⟨r.hd,by have:=r.dp;show A.depth+1+3 * k+5 < _;omega,by have:=r.un;show A.units+3+16 * k+200 < _;omega⟩
theorem vS:(A.under (.builtin "type.__call__" ⟨.ref C::us,kw⟩)).depth=A.depth+1:=by
 first | rfl | simp[Around.under,Code.weight,Code.isCreation,Code.isGuard,Code.isCaller,Code.frames,Code.isFrame,guardIds]
theorem vT:(A.under (.builtin "type.__call__" ⟨.ref C::us,kw⟩)).units=A.units+1:=by
 first | rfl | simp[Around.under,Code.cUnits,Code.frames,Code.isFrame]
theorem cT.make{k:Nat}(r:cT (k+1) A)(C:Addr)(us:wf)(kw:List (Str×Value)):cT k (A.under (.builtin "type.__call__" ⟨.ref C::us,kw⟩)) :=
 ⟨r.hd,by have:=r.dp;rw[vS];omega,by have:=r.un;rw[vT];omega⟩
theorem cT.depth{k:Nat}(r:cT k A):A.depth < recursionLimit:=by have:=r.dp;omega
theorem cT.units{k:Nat}(r:cT k A):A.units+64 < cLine:=by have:=r.un;omega
def qH:TA:=fun _ H Q=>Q [] H
def nK(ta:TE)(tr:TA):TA:=fun σ H Q=>ta σ H fun x H1=>tr σ H1 fun xs H2=>Q (x::xs) H2
section
variable {e:Expr}{t:TA}
theorem vU:PA X [] qH:=fun _ _ _ _ H Q I h=>ac2 ⟨[],H,I,.nil,h⟩
theorem mR(ha:PE X e te)(hr:PA X es t)(hs:autoParam (starEach (e::es) X.env=(false,eval e X.env)::starEach es X.env) ra0):PA X (e::es) (nK te t):=by
 intro pos pins s σ H Q I h;rw[hs];show wpAny _ _ (spliced ((false,eval e X.env)::backTo pos (starEach es X.env))) _ _ s;refine acV (cL (ha pins s σ H _ I h) fun u s1 ⟨x,H1,I1,r1,q1⟩=>?_);exact cL (hr pos pins s1 σ H1 _ I1 q1) fun us s2 ⟨xs,H2,I2,r2,q2⟩=>⟨x::xs,H2,I2,.cons r1 r2,q2⟩
def Lm(t:TA):TE:=fun σ H Q=>t σ H fun xs H1=>xs.length<=sizeLine/\∀ p,H1 p=none->Q (.ref p) (upd H1 p (.tup xs))
def B4(t:TA):TE:=fun σ H Q=>t σ H fun xs H1=>xs.length<=sizeLine/\∀ p,H1 p=none->Q (.ref p) (upd H1 p (.lst xs))
theorem Ln{x1}(h:PA X es t):PE X (.Tuple es x1 pos) (Lm t):=by
 intro pins s σ H Q I hq;refine wpAny_Tuple_spliced (cL (h pos pins s σ H _ I hq) fun us s1 ⟨xs,H1,I1,r,z,q⟩=>⟨by rw[<- r.length];exact z,?_⟩);have hf:H1 s1.heap.objs.size=none:=I1.cv.fresh (aao _);refine⟨.ref s1.heap.objs.size,upd H1 s1.heap.objs.size (.tup xs),I1.laid (t':=s1.toks) (fun b u e=>aal _ e) (aao _) ?_,rfl,q _ hf⟩;exact⟨z,us,r,⟨_,aau _ rfl,rfl,_,rfl⟩⟩
theorem Lo(h:PA X es t):PE X (.List es pos) (B4 t):=by
 intro pins s σ H Q I hq;refine wpAny_List_spliced (cL (h pos pins s σ H _ I hq) fun us s1 ⟨xs,H1,I1,r,z,q⟩=>⟨by rw[<- r.length];exact z,?_⟩);have hf:H1 s1.heap.objs.size=none:=I1.cv.fresh (aao _);refine⟨.ref s1.heap.objs.size,upd H1 s1.heap.objs.size (.lst xs),I1.laid (t':=s1.toks) (fun b u e=>aal _ e) (aao _) ?_,rfl,q _ hf⟩;exact⟨z,us,0,r,aau _ rfl⟩
end
abbrev Sp:=List V->Hp->VK->XK->Prop
abbrev Ab:=List Env->Hp->Shared->XK->Value->Shared->Prop
variable {CX:Ab}
structure vV(P:u8)(w:World)(K:zn)(mg:xL)(base:Heap)(A:tx)(outer:List Env)(s:Shared)(H:Hp):Prop where
 frames:A.frames=some outer
 mod:Mod K mg base
 bs:∀ b o,base.get? b=some o->s.heap.get? b=some o/\H b=none
 IJ:base.objs.size<=s.heap.objs.size
 mw:s.heap.FunFrames base outer
 FC:∀ b∈gR outer,H b=none
 cv:eC P w H s.heap
 bare:AllBare s.gens
def CE(outer:List Env)(P:u8)(w:World)(H:Hp)(s:Shared)(Q:VK)(u:Value)(s':Shared):Prop :=
 ∃ v H',s'.os=s.os/\AllBare s'.gens/\Un (gR outer) [] H H' s.heap s'.heap/\eC P w H' s'.heap/\RelV v u/\Q v H'
def CR(CX:Ab)(outer:List Env)(P:u8)(w:World)(H:Hp)(s:Shared)(Q:VK)(E:XK)(r:Result)(s':Shared):Prop :=
 match r with
 | .ok (.ret u)=>CE outer P w H s Q u s'
 | .ok _=>False
 | .error e=>CX outer H s E e s'
structure ba(P:u8)(w:World)(K:zn)(mg:xL)(base:Heap)(CX:Ab)(k:Nat)(f:Addr)(fd:wT)(ps:wv)(sp:Sp):Prop where
 len:∀ vs H Q E,sp vs H Q E->vs.length=ps.length
 run:∀(A:tx) (outer:List Env) (s:Shared) (H:Hp) (args:Args) (us:wf) (vs:List V) (Q:VK) (E:XK),cT k A->vV P w K mg base A outer s H->BindsTo s fd args (ps.zip us)->Vals vs us->sp vs H Q E ->
  codeAny (model P w) A (.call (.ref f) args) (CR CX outer P w H s Q E) s
theorem ba.mono{P:u8}{w:World}{K:zn}{mg:xL}{base:Heap}{CX:Ab}{j k:Nat}{f:Addr}{fd:wT}{ps:wv}{sp:Sp}(F:ba P w K mg base CX j f fd ps sp)(h:j<=k) :
  ba P w K mg base CX k f fd ps sp:=⟨F.len,fun A outer s H args us vs Q E hr=>F.run A outer s H args us vs Q E (hr.mono h)⟩
theorem vV.make{K:zn}{outer:List Env}(e:vV P w K mg base A outer s H)(C:Addr)(us:wf)(kw:List (Str×Value)) :
  vV P w K mg base (A.under (.builtin "type.__call__" ⟨.ref C::us,kw⟩)) outer s H:=⟨by first | exact e.frames | (simpa [Around.under,Code.envs,Code.isFrame,pushEnvs] using e.frames),e.mod,e.bs,e.IJ,e.mw,e.FC,e.cv,e.bare⟩
theorem Inv.Pc(I:Inv X pins σ H s):vV X.prog X.w X.K X.mg X.base X.A X.stack s H :=
 ⟨I.ok.frames,I.ok.mod,I.bs,aaq I.ok.IJ I.sz,I.stack,I.qD,I.cv,I.bare⟩
theorem Inv.after{Q:VK}(I:Inv X pins σ H s)(h:CE X.stack X.prog X.w H s Q u s'):EP X pins σ Q u s':=by
 obtain⟨v,H',os,bare,un,cv,r,q⟩:=h;obtain⟨hh,g,d,t,YS⟩:=s';obtain rfl:YS=s.os:=os;exact⟨v,H',I.call (h':=hh) (g':=g) (d':=d) (t':=t) (ch:=[]) un cv bare (fun b z=>absurd z (by simp)),r,q⟩
def yv(sp:Sp)(aK:List V)(E:XK)(t:TA):TE:=fun σ H Q=>t σ H fun vs H1=>sp (vs++aK) H1 Q E
def tF(C:Addr)(m:Str)(sp:Sp)(aK:List V)(E:XK)(ta:TE)(t:TA):TE:=fun σ H Q=>ta σ H fun x H1=>∃ a dx fs,x=.ref a/\H1 a=some (.ins C dx fs)/\fs.lookup m=none /\
 t σ H1 fun vs H2=>sp (x::(vs++aK)) H2 Q E
def B5(C:Addr)(sp:Sp)(aK:List V)(E:XK)(t:TA):TE:=fun σ H Q=>t σ H fun vs H1=>∀ x dx,H1 x=none->H1 dx=none->dx≠x ->
 sp (.ref x::(vs++aK)) (upd (upd H1 dx (.own x)) x (.ins C dx [])) (fun v H2=>v=.dj/\Q (.ref x) H2) E
def Binds(K:zn)(fd:wT)(ps:wv)(ds:wf):Prop :=
 ∀(s:Shared) (us:wf),K.In s.heap->(us++ds).length=ps.length->BindsTo s fd ⟨us,[]⟩ (ps.zip (us++ds))
theorem Binds.all{K:zn}(h:∀ us:List Value,us.length=ps.length->bindArgs fd ⟨us,[]⟩=pure (ps.zip us)):Binds K fd ps []:=fun s us _ hl=>by
 rw[ab0]at hl ⊢;exact .of_eq (h us hl)
def Passes(CX:Ab)(X:Cx)(E:XK):Prop:=∀(pins:yp) (σ:St) (H:Hp) (s:Shared) (e:Value) (s':Shared),Inv X pins σ H s->CX X.stack H s E e s'->X.xe e s'
section
variable {k:Nat}{f:Addr}{sp:Sp}{aK:List V}{ds:wf}{E:XK}{m:Str}{apos:Pos}{e:Expr}{t:TA}
theorem vW{Q:VK}(F:ba X.prog X.w X.K X.mg X.base CX k f fd ps sp)(hr:cT k X.A)(hb:Binds X.K fd ps ds)(hd:Vals aK ds)(hx:Passes CX X E)(I:Inv X pins σ H s)(r:Vals vs us)(h:sp (vs++aK) H Q E):wpAny (model X.prog X.w) X.A (call (.ref f) us) (EP X pins σ Q) X.xe s:=by
 have r2:Vals (vs++aK) (us++ds):=r.append hd;have hl:(us++ds).length=ps.length:=by rw[<- r2.length];exact F.len _ _ _ _ h
 refine wpAny_call (ab9 (F.run X.A X.stack s H ⟨us,[]⟩ (us++ds) (vs++aK) Q E hr I.Pc (hb s us I.l6 hl) r2 h) fun r s' hq=>?_);cases r with
 | error e=>exact hx pins σ H s e s' I hq
 | ok fl =>
  cases fl with
  | ret u=>exact I.after hq
  | next=>exact False.elim hq
  | brk=>exact False.elim hq
  | cont=>exact False.elim hq
theorem Gn(F:ba X.prog X.w X.K X.mg X.base CX k f fd ps sp)(hr:cT k X.A)(hg:Gl X x)(hm:X.mg x=some (.ref f))(hk:PySem.W.keepIn X.K (.ref f)=true)(hb:Binds X.K fd ps ds)(hd:Vals aK ds)(hx:Passes CX X E)(ha:PA X (e::es) t)(tG:autoParam ((x == ("__debug__":Str))=false) ra1)(he:autoParam (starEach (e::es) X.env=(false,eval e X.env)::starEach es X.env) ra0)(nL:autoParam ((backTo pos (starEach es X.env)).any (·.1)=false) ra0) :
  PE X (.Call (.Name x p) (e::es) [] pos) (yv sp aK E t):=by
 intro pins s σ H Q I h;refine abP (mP I hg hm ?_ tG);refine acW (h₀:=X.base) I.ok.mod.Ou hk (cL (ha pos pins s σ H _ I h) fun us s1 ⟨vs,H1,I1,r,q⟩=>⟨I1.l6,?_⟩) he nL;exact vW F hr hb hd hx I1 r q
theorem Gp(he:PE X o ta)(c:my X.K C)(hm:Meth X.K C m f)(F:ba X.prog X.w X.K X.mg X.base CX k f fd ps sp)(hr:cT k X.A)(hb:Binds X.K fd ps ds)(hd:Vals aK ds)(hx:Passes CX X E)(ha:PA X (e::es) t)(yk:autoParam (starEach (e::es) X.env=(false,eval e X.env)::starEach es X.env) ra0)(nL:autoParam ((backTo pos (starEach es X.env)).any (·.1)=false) ra0)(ht:eval (.Call (.Attribute o m apos) (e::es) [] pos) X.env=(do
   let ov <- eval o X.env
   standAt apos.atName
   let (f,first) <- holding [ov] (getMethod ov m pl)
   callWith pos f first (backTo pos (starEach (e::es) X.env)) (backToKw pos (keywordEach [] X.env))):=by rfl) :
  PE X (.Call (.Attribute o m apos) (e::es) [] pos) (tF C m sp aK E ta t):=by
 intro pins s σ H Q I h;refine PySem.W.methodCall_KW (pl:=pl) (cL (he pins s σ H _ I h) fun u s1 ⟨x,H1,I1,rx,a,dx,fs,ex,ea,l,q⟩=>?_) ht;subst ex;obtain rfl:u=Value.ref a:=rx;refine nI I1 ea c hm l ?_;refine acW (first:=[.ref a]) (h₀:=X.base) I.ok.mod.Ou hm.kp (cL (ha pos pins s1 σ H1 _ I1 q) fun us s2 ⟨vs,H2,I2,r,q2⟩=>⟨I2.l6,?_⟩) yk nL;exact vW (us:=.ref a::us) (vs:=.ref a::vs) F hr hb hd hx I2 (.cons rfl r) q2
theorem B6(he:PE X o ta)(c:my X.K C)(hm:Meth X.K C m f)(F:ba X.prog X.w X.K X.mg X.base CX k f fd ps sp)(hr:cT k X.A)(hb:Binds X.K fd ps ds)(hd:Vals aK ds)(hx:Passes CX X E)(ht:eval (.Call (.Attribute o m apos) [] [] pos) X.env=(do
   let ov <- eval o X.env
   standAt apos.atName
   let (f,first) <- holding [ov] (getMethod ov m pl)
   callWith pos f first (backTo pos (starEach [] X.env)) (backToKw pos (keywordEach [] X.env))):=by rfl) :
  PE X (.Call (.Attribute o m apos) [] [] pos) (tF C m sp aK E ta qH):=by
 intro pins s σ H Q I h;refine PySem.W.methodCall_KW (pl:=pl) (cL (he pins s σ H _ I h) fun u s1 ⟨x,H1,I1,rx,a,dx,fs,ex,ea,l,q⟩=>?_) ht;subst ex;obtain rfl:u=Value.ref a:=rx;refine nI I1 ea c hm l ?_;exact PySem.W.callWith_K0 (first:=[.ref a]) I1.l6 hm.kp (vW (us:=[.ref a]) (vs:=[.ref a]) F hr hb hd hx I1 (.cons rfl .nil) q)
structure Mk(K:zn)(C f:Addr):Prop where
 makes:PySem.W.makesIn K C=true
 init:PySem.W.findIn K (.ref C) "__init__"=some (some (.ref f))
 fn:PySem.W.isFn K (.ref f)=true
 kp:PySem.W.keepIn K (.ref C)=true
theorem B7{Q:VK}(M:Mk X.K C f)(F:ba X.prog X.w X.K X.mg X.base CX k f fd ps sp)(hr:cT (k+1) X.A)(hb:Binds X.K fd ps ds)(hd:Vals aK ds)(hx:Passes CX X E)(I:Inv X pins σ H s)(r:Vals vs us)(h:∀ x dx,H x=none->H dx=none->dx≠x->sp (.ref x::(vs++aK)) (upd (upd H dx (.own x)) x (.ins C dx [])) (fun v H2=>v=.dj/\Q (.ref x) H2) E) :
  wpAny (model X.prog X.w) X.A (call (.ref C) us) (EP X pins σ Q) X.xe s:=by
 have hq:=h (s.heap.objs.size+1) s.heap.objs.size (I.cv.fresh (abB _)) (I.cv.fresh (aao _)) (aaO (abN _));have I2:=Inv.made (C:=C) I;have r2:Vals (V.ref (s.heap.objs.size+1)::(vs++aK)) (Value.ref (s.heap.objs.size+1)::(us++ds)):=.cons rfl (r.append hd);have hl:(Value.ref (s.heap.objs.size+1)::us++ds).length=ps.length:=by
  have e:=r2.length;rw[F.len _ _ _ _ hq]at e;exact e.symm
 refine wpAny_call (B2 (f:=f) I.l6 M.makes M.init (ab6.mp M.fn) (ab9 (F.run _ X.stack _ _ ⟨Value.ref (s.heap.objs.size+1)::us,[]⟩ (Value.ref (s.heap.objs.size+1)::(us++ds)) _ _ E (hr.make C us [])
  (I2.Pc.make C us []) (hb _ (Value.ref (s.heap.objs.size+1)::us) I2.l6 hl) r2 hq) fun r s' Pd=>?_))
 cases r with
 | error e=>exact hx pins σ _ _ e s' I2 Pd
 | ok fl =>
  cases fl with
  | ret u =>
   obtain⟨v,H',I3,rv,ev,q3⟩:=I2.after Pd;subst ev;exact⟨rv,⟨V.ref (s.heap.objs.size+1),H',I3,rfl,q3⟩⟩
  | next=>exact False.elim Pd
  | brk=>exact False.elim Pd
  | cont=>exact False.elim Pd
theorem Gq(M:Mk X.K C f)(F:ba X.prog X.w X.K X.mg X.base CX k f fd ps sp)(hr:cT (k+1) X.A)(hg:Gl X x)(hm:X.mg x=some (.ref C))(hb:Binds X.K fd ps ds)(hd:Vals aK ds)(hx:Passes CX X E)(ha:PA X (e::es) t)(tG:autoParam ((x == ("__debug__":Str))=false) ra1)(he:autoParam (starEach (e::es) X.env=(false,eval e X.env)::starEach es X.env) ra0)(nL:autoParam ((backTo pos (starEach es X.env)).any (·.1)=false) ra0) :
  PE X (.Call (.Name x p) (e::es) [] pos) (B5 C sp aK E t):=by
 intro pins s σ H Q I h;refine abP (mP I hg hm ?_ tG);refine acW (h₀:=X.base) I.ok.mod.Ou M.kp (cL (ha pos pins s σ H _ I h) fun us s1 ⟨vs,H1,I1,r,q⟩=>⟨I1.l6,?_⟩) he nL;exact B7 M F hr hb hd hx I1 r q
end
section
variable {k:Nat}{f:Addr}{ks:wv}{sp:Sp}{E:XK}{m:Str}{apos YT:Pos}{e:Expr}{kws:List Keyword}{t tk:TA}{nm:Option Str}
variable {g:wf->wf->wf}{gV:List V->List V->List V}
end
structure aB(N P:wv)(sc:Scope):Prop where
 kind:sc.kind=.function
 co:sc.isCoroutine=false
 gen:sc.isGenerator=false
 nd:N.Nodup
 pre:N.take P.length=P
 par:∀ x∈P,sc.names.lookup x=some .local\/sc.names.lookup x=some .cell
 Lp:∀ y∈sc.names,y.2≠.free
theorem pH{kindOf:Str->Option NameKind}{x:Str}:∀{binds:List (Str×Value)} {m:xL},(∀ v,(x,v) ∉ binds)->bindL kindOf binds m x=m x
 | [],_,_=>rfl
 | (n,v)::r,m,h=>by
  unfold bindL;rw[pH fun w hw=>h w (aax _ hw)];split
  ·have:x≠n:=by rintro rfl;exact h v aaF
   simp[this]
  ·rfl
theorem pI{kindOf:Str->Option NameKind}{x:Str}:∀{binds:List (Str×Value)} {m:xL},(∀ v,(x,v) ∉ binds)->bindC kindOf binds m x=m x
 | [],_,_=>rfl
 | (n,v)::r,m,h=>by
  unfold bindC;rw[pI fun w hw=>h w (aax _ hw)];split
  ·rfl
  ·have:x≠n:=by rintro rfl;exact h v aaF
   simp[this]
theorem pJ{kindOf:Str->Option NameKind}{x:Str}{v:Value}:∀{P:wv} {vs:wf} {i:Nat} {m:xL},P.Nodup->P[i]?=some x->vs[i]?=some v->kindOf x=some .local ->
  bindL kindOf (P.zip vs) m x=some v
 | [],_,_,_,_,h,_,_=>by simp at h
 | _::_,[],_,_,_,_,h,_=>by simp at h
 | p::P,w::vs,0,m,nd,h1,h2,hk=>by
  simp at h1 h2;subst h1;subst h2;show bindL kindOf ((p,w)::P.zip vs) m p=_;unfold bindL;rw[pH fun v hv=>(aca.mp nd).1 (adj hv).1,aaE hk];simp
 | p::P,w::vs,i+1,m,nd,h1,h2,hk=>by
  show bindL kindOf ((p,w)::P.zip vs) m x=_;unfold bindL;exact pJ (i:=i) (aca.mp nd).2 (by simpa using h1) (by simpa using h2) hk
theorem pK{kindOf:Str->Option NameKind}{x:Str}{v:Value}:∀{P:wv} {vs:wf} {i:Nat} {m:xL},P.Nodup->P[i]?=some x->vs[i]?=some v->kindOf x≠some .local ->
  bindC kindOf (P.zip vs) m x=some v
 | [],_,_,_,_,h,_,_=>by simp at h
 | _::_,[],_,_,_,_,h,_=>by simp at h
 | p::P,w::vs,0,m,nd,h1,h2,hk=>by
  simp at h1 h2;subst h1;subst h2;show bindC kindOf ((p,w)::P.zip vs) m p=_;unfold bindC;rw[pI fun v hv=>(aca.mp nd).1 (adj hv).1,aaA hk];simp
 | p::P,w::vs,i+1,m,nd,h1,h2,hk=>by
  show bindC kindOf ((p,w)::P.zip vs) m x=_;unfold bindC;exact pK (i:=i) (aca.mp nd).2 (by simpa using h1) (by simpa using h2) hk
noncomputable def start(N:wv)(vs:List V):St:=vs.map some++List.replicate (N.length - vs.length) none
noncomputable def gf(CX:Ab)(P:u8)(w:World)(K:zn)(mg:xL)(base:Heap)(N:wv)(qual:Str)(scope:Scope)(f:Addr)(cd:Value)(A:tx)(outer:List Env)(s:Shared)(H:Hp)(E:XK):Cx where
 prog:=P
 w:=w
 K:=K
 mg:=mg
 base:=base
 A:=A.deeper (envOfC qual scope s.heap.objs.size f cd)
 N:=N
 bc:=s
 bE:=H
 env:=envOfC qual scope s.heap.objs.size f cd
 outer:=outer
 stack:=envOfC qual scope s.heap.objs.size f cd::outer
 ex:=[]
 calm:=true
 fn:=fun _=>true
 pn:=[]
 xe:=fun e s'=>wpAny (model P w) (A.deeper (envOfC qual scope s.heap.objs.size f cd)) (leaving (envOfC qual scope s.heap.objs.size f cd) e) (fun _ Oz=>CX outer H s E e Oz) (fun e' Oz=>CX outer H s E e' Oz) s'
theorem tH{sc:Scope}{n:Nat}(h:sc.names.lookup x=some .cell):∃ c,(cellsFrom n sc.names []).lookup x=some c:=by
 have q:=PySem.W.cellsFrom_some sc.names n [] (.inl h);exact abn.mp q
theorem Ac{K:zn}{qual:Str}{scope:Scope}{f:Addr}{cd:Value}{outer:List Env}{s1:Shared}{E:XK}(S:aB N ps scope)(hd:A.handled=none)(e0:vV P w K mg base A outer s H)(hl:vs.length=ps.length)(r:Vals vs us)(x:InCallC s s.heap.objs.size (bindL (envOfC qual scope s.heap.objs.size f cd).kindOf (ps.zip us) fun _=>none) (cellsFrom (s.heap.objs.size+1) scope.names []) (bindC (envOfC qual scope s.heap.objs.size f cd).kindOf (ps.zip us) fun _=>none) s1) :
  Inv (gf CX P w K mg base N qual scope f cd A outer s H E) [] (start N vs) H s1:=by
 have nL:ps.length<=N.length:=by have:=abK List.length S.pre;rw[abk]at this;omega
 obtain⟨h1,tk,rfl,hk⟩:=x.done;have Pe:∀ b:Addr,b ∉ (gf CX P w K mg base N qual scope f cd A outer s H E).ex:=fun b z=>absurd (show b∈([]:ww) from z) (by simp);refine⟨⟨e0.mod,S.kind,rfl,rfl,aao _,fun y z c h1 h2=>?_,fun y hy=>?_,fun y c _ h=>?_,fun _=>hd,Around.frames_deeper e0.frames,.inr ⟨rfl,rfl⟩,fun b z=>absurd z (Pe b),e0.bs,e0.IJ,fun b _ _=>Pe b,fun b z=>absurd z (Pe b),e0.mw,e0.FC⟩,
  rfl,e0.bare,Un.kept hk,⟨_,x.toInCall.ns,fun i y v h1 h2 h3=>?_⟩,fun y c h=>⟨_,x.cell y c h⟩,e0.cv.fresh (aao _),fun y c h=>?_,fun p hp=>absurd (show p∈([]:yp) from hp) (by simp),e0.cv.kept hk,?_⟩
 ·exact name_of_addr x.apart (ab5 h1) (ab5 h2)
 ·have hy:scope.names.lookup y=some .cell\/scope.names.lookup y=some .free:=hy;rcases hy with hy | hy
  ·exact tH hy
  ·exact absurd rfl (S.Lp _ (ab5 hy))
 ·exact aaH (x.above y c (ab5 h))
 ·have hi:i < vs.length:=by
   unfold start at h2
   by_cases hi:i < vs.length
   ·exact hi
   ·rw[List.getElem?_append_right (by simpa using hi)]at h2;rw[List.getElem?_replicate]at h2;split at h2<;>cases h2
  have ha:vs[i]?=some v:=by
   unfold start at h2;rw[List.getElem?_append_left (by simpa using hi),aap]at h2;cases e:vs[i]? with
   | none=>rw[e]at h2;cases h2
   | some a=>rw[e]at h2;cases h2;rfl
  obtain⟨u,hu,rv⟩:=r.get ha;have hp:ps[i]?=some y:=by
   rw[<- S.pre,List.getElem?_take_of_lt (by omega)];exact h1
  have WN:ps.Nodup:=by rw[<- S.pre];exact S.nd.sublist (List.take_sublist _ _)
  refine⟨u,rv,?_⟩;rcases S.par y (abw hp)with k | k
  ·exact .inl ⟨k,pJ WN hp hu k⟩
  ·obtain⟨c,e⟩:=tH (n:=s.heap.objs.size+1) k;refine .inr ⟨.inl k,c,e,?_⟩;have q:=x.cell y c e;rw[pK WN hp hu (by show scope.names.lookup y≠_;rw[k];decide)]at q;exact q
 ·exact e0.cv.fresh (aaH (x.above y c (ab5 h)))
 ·unfold start;show _=N.length;rw[aaQ,aak,acE];omega
theorem IT{K:zn}{k:Nat}{f:Addr}{name qual:Str}{params:Arguments}{scope:Scope}{dV kV doc pm bz ct oc:Value}{an od:wS}{vX:Array wP}{sp:Sp}(lk:K.lookup f=some ⟨oc,od,.func (PySem.W.fnOf name qual params body scope dV kV doc pm an bz ct),vX⟩)(zO:PySem.W.codeIn K bz qual=true)(S:aB N ps scope)(len:∀ vs H Q E,sp vs H Q E->vs.length=ps.length)(dJ:∀(A:tx) (outer:List Env) (s:Shared) (H:Hp) (vs:List V) (Q:VK) (E:XK),cT k (A.deeper (envOfC qual scope s.heap.objs.size f bz))->sp vs H Q E ->
   ∃ t,yi (gf CX P w K mg base N qual scope f bz A outer s H E) body t/\t { nx:=fun _ H'=>Q .dj H',rt:=Q } (start N vs) H) :
  ba P w K mg base CX (k+1) f (PySem.W.fnOf name qual params body scope dV kV doc pm an bz ct) ps sp:=by
 refine⟨len,fun A outer s H args us vs Q E hr e0 hb r vY=>?_⟩;have hl:=len _ _ _ _ vY;have KX:K.In s.heap:=e0.mod.Ou.keeps fun b o e=>(e0.bs b o e).1;have lim:s.heap.NoLimit:=e0.mod.nolimit.keeps fun b o e=>(e0.bs b o e).1;have Pf:∀ y∈ps.zip us,scope.names.lookup y.1=some .local\/(scope.names.lookup y.1=some .cell/\((cellsFrom (s.heap.objs.size+1) scope.names []).lookup y.1).isSome=true):=fun⟨n,v⟩ hy=>by
  rcases S.par n (adj hy).1 with q | q
  ·exact .inl q
  ·exact .inr ⟨q,PySem.W.cellsFrom_some _ _ _ (.inl q)⟩
 refine codeAny_call_function hr.depth (KX _ _ lk) rfl S.co S.gen rfl (PySem.W.codeRec_of KX zO) (hb _ _ _ _ ?_);refine wpAny_newFunctionEnv_cells S.kind Pf fun env he s1 x=>?_;subst he;refine⟨lim.keeps x.toInCall.keep,codeAny_func ?_⟩;obtain⟨t,ht,hq⟩:=dJ A outer s H vs Q E (hr.deeper _) vY;have I:Inv (gf CX P w K mg base N qual scope f bz A outer s H E) [] (start N vs) H s1:=Ac S hr.hd e0 hl r x;refine abv (ht [] s1 (start N vs) H _ I hq) (fun fl s' hs=>?_) fun e s' hs=>hs;have fin:∀{bG:St} {H':Hp} {v:V} {u:Value},Inv (gf CX P w K mg base N qual scope f bz A outer s H E) [] bG H' s'->RelV v u->Q v H'->CE outer P w H s Q u s' :=
  fun{bG H' v u} J rv q=>⟨v,H',J.os,J.bare,J.base,J.cv,rv,q⟩
 cases fl with
 | ret u =>
  obtain⟨v,bG,H',J,rv,q⟩:=hs;exact fin J rv q
 | next =>
  obtain⟨bG,H',J,q⟩:=hs;exact fin (v:=V.dj) (u:=Value.none) J rfl q
 | brk =>
  obtain⟨_,_,_,q⟩:=hs;exact False.elim q
 | cont =>
  obtain⟨_,_,_,q⟩:=hs;exact False.elim q
section
variable {e:Expr}{t:TA}{id T:String}{r:List V->Hp->VK->Prop}
def Lq(r:List V->Hp->VK->Prop)(t:TA):TE:=fun σ H Q=>t σ H fun vs H1=>r vs H1 Q
theorem tI(hc:fO X (.builtin id) r)(hg:Gl X x)(hm:X.mg x=none)(hv:bootBuiltins x=some (.builtin id))(ha:PA X (e::es) t)(hn:autoParam (x ≠ "__name__") ra1)(tG:autoParam ((x == ("__debug__":Str))=false) ra1)(he:autoParam (starEach (e::es) X.env=(false,eval e X.env)::starEach es X.env) ra0)(nL:autoParam ((backTo pos (starEach es X.env)).any (·.1)=false) ra0):PE X (.Call (.Name x p) (e::es) [] pos) (Lq r t):=by
 intro pins s σ H Q I h;refine abP (j2 I hg hm hv ?_ hn tG);exact acF (cL (ha pos pins s σ H _ I h) fun us s1 ⟨vs,H1,I1,r1,q1⟩=>hc pins s1 σ H1 vs us Q I1 r1 q1) he nL
theorem Ad(hc:fO X (.type T) r)(hg:Gl X x)(hm:X.mg x=none)(hv:bootBuiltins x=some (.type T))(ha:PA X (e::es) t)(hn:autoParam (x ≠ "__name__") ra1)(tG:autoParam ((x == ("__debug__":Str))=false) ra1)(he:autoParam (starEach (e::es) X.env=(false,eval e X.env)::starEach es X.env) ra0)(nL:autoParam ((backTo pos (starEach es X.env)).any (·.1)=false) ra0):PE X (.Call (.Name x p) (e::es) [] pos) (Lq r t):=by
 intro pins s σ H Q I h;refine abP (j2 I hg hm hv ?_ hn tG);exact abI (cL (ha pos pins s σ H _ I h) fun us s1 ⟨vs,H1,I1,r1,q1⟩=>hc pins s1 σ H1 vs us Q I1 r1 q1) he nL
end
section
variable {κ:Type}[DecidableEq κ]
def gP(kvs:List (κ×V))(k:κ):Option V:=(kvs.find? fun kv=>decide (kv.1=k)).map (·.2)
def putK(kvs:List (κ×V))(k:κ)(v:V):List (κ×V) :=
 if(kvs.any fun kv=>decide (kv.1=k))=true then kvs.map (fun kv=>if kv.1=k then(kv.1,v)else kv)else kvs++[(k,v)]
theorem kq{p:κ×V}{r:List (κ×V)}{k:κ}(e:p.1=k):gP (p::r) k=some p.2:=by simp[gP,abp,e]
theorem ja{p:κ×V}{r:List (κ×V)}{k:κ}(e:¬ p.1=k):gP (p::r) k=gP r k:=by simp[gP,abp,e]
theorem tJ(k:κ):∀ kvs:List (κ×V),(kvs.any fun kv=>decide (kv.1=k))=(gP kvs k).isSome
 | []=>rfl
 | p::r=>by
  rw[abl]
  by_cases e:p.1=k
  ·simp only[kq e,aa6 e,Bool.true_or,Option.isSome_some]
  ·rw[ja e,aat e,Bool.false_or];exact tJ k r
theorem jb(kvs:List (κ×V))(k:κ)(v:V):(putK kvs k v).length<=kvs.length+1:=by
 unfold putK;split
 ·rw[aak];omega
 ·rw[aaQ,aaR,ab1];omega
theorem i7.Ae{o:Option V}{u:wP}(r:i7 o u):o.isSome=u.isSome:=by
 cases o with
 | none=>cases u with
  | none=>rfl
  | some _=>exact(show False from r).elim
 | some _=>cases u with
  | none=>exact(show False from r).elim
  | some _=>rfl
theorem KV.val{kvs:List (κ×V)}{vs:List (κ×Value)}(r:KV kvs vs)(k:κ):i7 (gP kvs k) (valueAt vs k):=by
 unfold KV at r;induction r with
 | nil=>exact True.intro
 | @cons p q ps qs h t ih =>
  obtain⟨h1,h2⟩:=h
  by_cases e:p.1=k
  ·have e':q.1=k:=h1.symm.trans e;have b:valueAt (q::qs) k=some q.2:=by simp[valueAt,abp,e']
   rw[kq e,b];exact h2
  ·have e':¬ q.1=k:=fun z=>e (h1.trans z);have b:valueAt (q::qs) k=valueAt qs k:=by simp[valueAt,abp,e']
   rw[ja e,b];exact ih
theorem KV.any{kvs:List (κ×V)}{vs:List (κ×Value)}(r:KV kvs vs)(k:κ):(kvs.any fun kv=>decide (kv.1=k))=vs.any fun kv=>decide (kv.1=k):=by
 unfold KV at r;induction r with
 | nil=>rfl
 | cons h t ih=>rw[abl,abl,ih,h.1]
theorem KV.Lr{kvs:List (κ×V)}{vs:List (κ×Value)}(r:KV kvs vs)(k:κ)(ry:RelV y u) :
  KV (kvs.map fun kv=>if kv.1=k then(kv.1,y)else kv) (vs.map fun kv=>if kv.1=k then(kv.1,u)else kv):=by
 unfold KV at r ⊢;induction r with
 | nil=>exact .nil
 | @cons p q ps qs h t ih =>
  rw[aaz,aaz];refine .cons ?_ ih;obtain⟨h1,h2⟩:=h
  by_cases e:p.1=k
  ·rw[aaE e,aaE (h1.symm.trans e)];exact⟨h1,ry⟩
  ·rw[aaA e,aaA (fun z=>e (h1.trans z))];exact⟨h1,h2⟩
theorem KV.put{kvs:List (κ×V)}{vs:List (κ×Value)}(r:KV kvs vs)(k:κ)(ry:RelV y u):KV (putK kvs k y) (stored vs k u):=by
 unfold putK stored;rw[r.any k]
 by_cases e:(vs.any fun kv=>decide (kv.1=k))=true
 ·rw[aaE e,aaE e];exact r.Lr k ry
 ·rw[aaA e,aaA e];exact Paired.snoc r ⟨rfl,ry⟩
theorem KV.keys{kvs:List (κ×V)}{vs:List (κ×Value)}(r:KV kvs vs):kvs.map (·.1)=vs.map (·.1):=by
 unfold KV at r;induction r with
 | nil=>rfl
 | cons h t ih=>rw[aaz,aaz,ih,h.1]
theorem KV.length{kvs:List (κ×V)}{vs:List (κ×Value)}(r:KV kvs vs):kvs.length=vs.length:=Paired.length r
end
theorem pL{k:Key}(r:RelV (kV k) u):(bX P w).is k u=true:=by
 cases k with
 | inl i=>obtain⟨t,e⟩:=(show ∃ t,u=Value.int i t from r);subst e;exact sZ P w i t
 | inr x=>obtain⟨t,e⟩:=(show ∃ t,u=Value.str x t from r);subst e;exact tf P w x t
theorem pM{P:u8}{w:World}:∀{ks:List Key} {us:wf},Vals (ks.map kV) us->ItemsAre (bX P w) ks us
 | [],_,r=>by rw[acn]at r;cases r;exact .nil
 | k::ks,_,r=>by
  rw[aaz]at r;cases r with
  | cons h t=>exact .cons (pL h) (pM t)
abbrev KT(H:Hp):List (List Key×V)->List (List Key×Addr×Value)->Prop:=Paired fun p q=>p.1=q.1/\H q.2.1=some (.tup (p.1.map kV))/\RelV p.2 q.2.2
theorem KT.val(r:KT H kvs xs)(k:List Key):i7 (gP kvs k) ((atKey xs k).map (·.2)):=by
 induction r with
 | nil=>exact True.intro
 | @cons p q ps qs h t ih =>
  obtain⟨h1,_,h2⟩:=h
  by_cases e:p.1=k
  ·have e':q.1=k:=h1.symm.trans e;have b:atKey (q::qs) k=some q.2:=by simp[atKey,abp,e']
   rw[kq e,b];exact h2
  ·have e':¬ q.1=k:=fun z=>e (h1.trans z);have b:atKey (q::qs) k=atKey qs k:=by simp[atKey,abp,e']
   rw[ja e,b];exact ih
theorem KT.Lr(r:KT H kvs xs)(k:List Key)(ry:RelV y u) :
  KT H (kvs.map fun kv=>if kv.1=k then(kv.1,y)else kv) (xs.map (putAt k u)):=by
 induction r with
 | nil=>exact .nil
 | @cons p q ps qs h t ih =>
  rw[aaz,aaz];refine .cons ?_ ih;obtain⟨h1,h2,h3⟩:=h;unfold putAt
  by_cases e:p.1=k
  ·rw[aaE e,aaE (h1.symm.trans e)];exact⟨h1,h2,ry⟩
  ·rw[aaA e,aaA (fun z=>e (h1.trans z))];exact⟨h1,h2,h3⟩
theorem KT.put(r:KT H kvs xs)(k:List Key)(hb:H b=some (.tup (k.map kV)))(ry:RelV y u) :
  KT H (putK kvs k y) (storedH xs k b u):=by
 have e:(kvs.any fun kv=>decide (kv.1=k))=(atKey xs k).isSome:=by
  rw[tJ,(r.val k).Ae,Option.isSome_map]
 unfold putK storedH;rw[e]
 by_cases q:(atKey xs k).isSome=true
 ·rw[aaE q,aaE q];exact r.Lr k ry
 ·rw[aaA q,aaA q];exact Paired.snoc r ⟨rfl,hb,ry⟩
theorem KT.keeps(r:KT H kvs xs)(ht:∀ b ys,H b=some (.tup ys)->H' b=some (.tup ys)):KT H' kvs xs :=
 Paired.Kx r fun _ _ z=>⟨z.1,ht _ _ z.2.1,z.2.2⟩
theorem IU{u:HO}(ok:eC P w H h)(e:Rd H a u):cq P w H h a u:=e.ok ok
theorem B8{kvs:List (Key×V)}(ok:eC P w H h)(e:Rd H a (.dK kvs)):kvs.length<=sizeLine/\(a == sysModules)=false/\∃ vs,KV kvs vs/\h.DictOf (bX P w) a vs :=
 show cq P w H h a (.dK kvs) from IU ok e
theorem tL{kvs:List (Key×V)}(ok:eC P w H h)(e:H a=some (.dK kvs)):kvs.length<=sizeLine/\(a == sysModules)=false/\∃ vs,KV kvs vs/\h.DictOf (bX P w) a vs:=B8 ok (.inl e)
theorem vZ{ks:List Key}(ok:eC P w H h)(e:H a=some (.tup (ks.map kV))):(tupleKind (bX P w)).is h ks a:=by
 obtain⟨_,aV,r,o,h1,h2,n,h3⟩:=(show cq P w H h a (.tup (ks.map kV)) from ok a _ e);exact⟨o,aV.toArray,n,h1,h2,h3,by simpa using pM r⟩
theorem B9(ok:eC P w H h)(e:Rd H a (.dT kvs)):kvs.length<=sizeLine/\(a == sysModules)=false /\
  ∃ xs,KT H kvs xs/\h.DictOfH (tupleKind (bX P w)) a xs:=by
 obtain⟨z,y,xs,r,o,es,ep,h1,h2,h3,h4,h5⟩:=(show cq P w H h a (.dT kvs) from IU ok e);refine⟨z,y,xs,r,o,es,ep,h1,h2,h3,h4,fun x hx=>?_,h5⟩;have all:∀{l:List (List Key×V)} {m:List (List Key×Addr×Value)},KT H l m->∀ x∈m,(tupleKind (bX P w)).is h x.1 x.2.1:=by
  intro l m q;induction q with
  | nil=>intro x hx;exact nomatch hx
  | @cons p q ps qs hq t ih =>
   intro x hx;rcases aan.mp hx with e | hx
   ·subst e;exact vZ ok (by rw[<- hq.1];exact hq.2.1)
   ·exact ih x hx
 exact all r x hx
theorem Pg(ok:eC P w H h)(e:H a=some (.dT kvs)):kvs.length<=sizeLine/\(a == sysModules)=false /\
  ∃ xs,KT H kvs xs/\h.DictOfH (tupleKind (bX P w)) a xs:=B9 ok (.inl e)
def o9(H:Hp)(a:Addr)(y:V)(r:Option V):Prop :=
 (∃ kvs k,Rd H a (.dK kvs)/\y=kV k/\r=gP kvs k)\/∃ kvs k b,Rd H a (.dT kvs)/\y=.ref b/\H b=some (.tup (k.map kV))/\r=gP kvs k
def qI(H:Hp)(a:Addr)(y v:V)(H':Hp):Prop :=
 (∃ kvs k,H a=some (.dK kvs)/\y=kV k/\kvs.length < sizeLine/\H'=upd H a (.dK (putK kvs k v))) \/
 ∃ kvs k b,H a=some (.dT kvs)/\y=.ref b/\H b=some (.tup (k.map kV))/\kvs.length < sizeLine/\H'=upd H a (.dT (putK kvs k v))
theorem o9.k{H:Hp}{a:Addr}{kvs:List (Key×V)}{k:Key}(e:H a=some (.dK kvs)):o9 H a (kV k) (gP kvs k):=.inl ⟨kvs,k,.inl e,rfl,rfl⟩
theorem o9.t{k:List Key}(e:H a=some (.dT kvs))(eb:H b=some (.tup (k.map kV))):o9 H a (.ref b) (gP kvs k):=.inr ⟨kvs,k,b,.inl e,rfl,eb,rfl⟩
theorem qI.k{H:Hp}{a:Addr}{kvs:List (Key×V)}{k:Key}{v:V}(e:H a=some (.dK kvs))(hl:kvs.length < sizeLine):qI H a (kV k) v (upd H a (.dK (putK kvs k v))):=.inl ⟨kvs,k,e,rfl,hl,rfl⟩
theorem qI.t{k:List Key}(e:H a=some (.dT kvs))(eb:H b=some (.tup (k.map kV)))(hl:kvs.length < sizeLine) :
  qI H a (.ref b) v (upd H a (.dT (putK kvs k v))):=.inr ⟨kvs,k,b,e,rfl,eb,hl,rfl⟩
section
variable {r:Value}{o:Option V}
theorem Inv.big(I:Inv X pins σ H s):sysModules < s.heap.objs.size:=by
 have h:mainGlobals < s.heap.objs.size:=(I.mod.glob.keeps I.bk).lt;exact Nat.lt_trans (by decide) h
theorem Af(hu:A.units+1 < cLine)(I:Inv X pins σ H s)(g:o9 H a y (some v))(ry:RelV y u)(h:∀ w' s',Inv X pins σ H s'->RelV v w'->Q w' s') :
  wpAny (model X.prog X.w) A (getItem (.ref a) u) Q E s:=by
 rcases g with⟨kvs,k,e,ey,l⟩ | ⟨kvs,k,b,e,ey,eb,l⟩
 ·subst ey;obtain⟨z,hd,vs,rel,dd⟩:=B8 I.cv e;obtain⟨w',hw,v7⟩:=i7.some_of (v:=v) (o:=valueAt vs k) (by rw[l];exact rel.val k);exact wpAny_getItem_of (pL ry) dd.mapOf hw (h w' _ (I.tok _) v7)
 ·subst ey;cases (show u=Value.ref b from ry);obtain⟨z,hd,xs,rel,dd⟩:=B9 I.cv e;obtain⟨w',hw,v7⟩:=i7.some_of (v:=v) (o:=(atKey xs k).map (·.2)) (by rw[l];exact rel.val k);obtain⟨p,hp,Ss⟩:=aaw.mp hw;refine wpAny_getItem_heap (tupleKind_room_in1 hu) (vZ I.cv eb) dd hp ?_;rw[Ss];exact h w' _ (I.tok _) v7
theorem mS{ob:HO}(I:Inv X pins σ H s)(mu:OQ (H a))(hs:Heap.SameBut a s.heap h')(he:∃ q,h'.get? a=some q)(new:cq X.prog X.w (upd H a ob) h' a ob) :
  Inv X pins σ (upd H a ob) { s with heap:=h',toks:=t' } :=
 I.write (x:=a) (e:=a) mu (.inl rfl) (fun b q hb z=>(hs.2 b hb).trans z) he new
theorem v8{kvs:List (Key×V)}{vs:List (Key×Value)}(z:kvs.length<=sizeLine)(hd:(a == sysModules)=false)(rel:KV kvs vs)(dd:h'.DictOf (bX P w) a vs) :
  cq P w H' h' a (.dK kvs):=⟨z,hd,vs,rel,dd⟩
theorem Ag{Q:Unit->Shared->Prop}(hu:A.units+1 < cLine)(I:Inv X pins σ H s)(g:qI H a y v H')(ry:RelV y u)(rv:RelV v r)(h:∀ s',Inv X pins σ H' s'->Q () s') :
  wpAny (model X.prog X.w) A (setItem (.ref a) u r) Q E s:=by
 rcases g with⟨kvs,k,e,ey,l,eH⟩ | ⟨kvs,k,b,e,ey,eb,l,eH⟩
 ·subst ey eH;obtain⟨z,hd,vs,rel,dd⟩:=tL I.cv e;have hz:vs.length<=sizeLine:=by rw[<- rel.length];exact z
  have hl:(putK kvs k v).length<=sizeLine:=by have:=jb kvs k v;omega
  refine wpAny_setItem_pairs (hsz:=hz) (pL ry) dd fun h' FH hs=>h _ ?_;have he:∃ q,h'.get? a=some q:=let ⟨q,_,_,hq,_⟩:=FH;⟨q,hq⟩;exact mS I (by rw[e];exact True.intro) hs he (v8 hl hd (rel.put k rv) FH)
 ·subst ey eH;cases (show u=Value.ref b from ry);obtain⟨z,hd,xs,rel,dd⟩:=Pg I.cv e;have hz:xs.length<=sizeLine:=by rw[<- Paired.length rel];exact z
  have hl:(putK kvs k v).length<=sizeLine:=by have:=jb kvs k v;omega
  refine wpAny_setItem_heap (hsz:=hz) (tupleKind_room_in1 hu) (vZ I.cv eb) dd fun h' FH hs=>h _ ?_;obtain⟨q,es,ep,hq,h2,h3,h4,_,h5⟩:=FH;refine mS I (by rw[e];exact True.intro) hs ⟨q,hq⟩ ⟨hl,hd,_,(rel.put k eb rv).keeps fun c ys ec=>?_,q,es,ep,hq,h2,h3,h4,h5⟩;rw[bw (ON ec e (fun z=>nomatch z))];exact ec
end
def Ah(i:Expr):Prop:=∀ ov iv,subscripted i false ov iv=operate [ov,iv] (getItem ov iv)
theorem yw{env:Env}{value slice:Expr}{T id:String}(hl:typeLookup (.type T) "__getitem__"=pure (some (.builtin id)))(hs:Ah slice)(h:wpAny (model prog w) A (eval value env) (fun o bH=>wpAny (model prog w) A (eval slice env) (fun i bu=>bu.TypeIs o T/\wpAny (model prog w) A (getItem o i) Q E bu) E bH) E s) :
  wpAny (model prog w) A (eval (.Subscript value slice pos) env) Q E s:=by
 refine Subscript_ (abv h (fun o bH fQ=>abv fQ (fun i bu iL=>?_) fun _ _ x=>x) fun _ _ x=>x);obtain⟨hT,iL⟩:=iL;unfold subscriptTail;refine aaj ?_;rw[getitemInPython_of_ne hT.not_modules];refine aaj (wpAny_specialOf hT hl ?_);have fin:wpAny (model prog w) A (subscripted slice false o i) (fun r s₃=>wpAny (model prog w) A (letTemporaryGo value o r >>= fun _=>pure r) Q E s₃) E bu:=by
  rw[hs o i];exact wpAny_operating (abv iL (fun r s₃ nM=>aaj (wpAny_letTemporaryGo (aam nM))) fun _ _ x=>x)
 first
  | exact aam (aaj fin)
  | exact aaj (aam (aaj fin))
  | exact aaj fin
theorem tM{o:Option V}(I:Inv X pins σ H s)(g:o9 H a y o):s.TypeIs (.ref a) "dict":=by
 rcases g with⟨kvs,k,e,_,_⟩ | ⟨kvs,k,b,e,_,_,_⟩
 ·obtain⟨_,_,vs,_,dd⟩:=B8 I.cv e;exact dd.typeIs
 ·obtain⟨_,_,xs,_,dd⟩:=B9 I.cv e;exact dd.typeIs
def Ca(td ty:TE):TE:=fun σ H Q=>td σ H fun x H1=>ty σ H1 fun y H2=>∃ a v,x=.ref a/\o9 H2 a y (some v)/\Q v H2
def Cb(td ty tv:TE):TS:=fun D σ H=>tv σ H fun v H1=>td σ H1 fun x H2=>ty σ H2 fun y H3=>∃ a H4,x=.ref a/\qI H3 a y v H4/\D.nx σ H4
section
variable {i e value:Expr}{pos' B3:Pos}{td ty tv:TE}
theorem Gr(hu:X.A.units+1 < cLine)(ho:PE X o td)(hi:PE X i ty)(hs:Ah i):PE X (.Subscript o i pos) (Ca td ty):=by
 intro pins s σ H Q I h;refine yw acY.lookup hs (cL (ho pins s σ H _ I h) fun u s1 ⟨x,H1,I1,rx,q1⟩=>cL (hi pins s1 σ H1 _ I1 q1) fun iv s2 ⟨y,H2,I2,ry,a,v,ex,g,q2⟩=>?_);subst ex;obtain rfl:u=Value.ref a:=rx;exact⟨tM I2 g,Af hu I2 g ry fun w' s3 I3 v7=>⟨v,H2,I3,v7,q2⟩⟩
theorem Gs(hu:X.A.units+1 < cLine)(ho:PE X o td)(hi:PE X i ty)(hv:PE X value tv)(hs:swapsWith value (some (.Subscript o i pos')) pos.line X.env=pure false) :
  PS X (.Assign [.Subscript o i pos'] value pos) (Cb td ty tv):=by
 intro pins s σ H D I h;refine wpAny_Assign_Subscript (cL (hv pins s σ H _ I h) fun r s1 ⟨v,H1,I1,rv,q1⟩=>cL (ho pins s1 σ H1 _ I1 q1) fun u s2 ⟨x,H2,I2,rx,q2⟩=>cL (hi pins s2 σ H2 _ I2 q2) fun iv s3 ⟨y,H3,I3,ry,a,H4,ex,g,q3⟩=>?_) hs;subst ex;obtain rfl:u=Value.ref a:=rx;exact Ag hu I3 g ry rv fun s4 I4=>⟨σ,H4,I4,q3⟩
end
theorem Cd(h:Heap)(hb:sysModules < h.objs.size):cq P w H (h.push { cls:=.type "dict",data:=.dict #[] }) h.objs.size (.dK []) :=
 ⟨aaK _,ab4.mpr (acf (aaO hb)),[],.nil,Heap.DictOf.new h⟩
def qJ:List (TE×TE)->St->Hp->(List (V×V)->Hp->Prop)->Prop
 | [],_,H,Q=>Q [] H
 | (tk,tv)::r,σ,H,Q=>tk σ H fun x H1=>tv σ H1 fun y H2=>qJ r σ H2 fun ps H3=>Q ((x,y)::ps) H3
abbrev VV:List (V×V)->List (Value×Value)->Prop:=Paired fun p q=>RelV p.1 q.1/\RelV p.2 q.2
def Ph(X:Cx)(pos:Pos)(keys:List (Option Expr))(values:v6)(tN:List (TE×TE)):Prop :=
 ∀(pins:yp) (s:Shared) (σ:St) (H:Hp) (Q:List (V×V)->Hp->Prop),Inv X pins σ H s->qJ tN σ H Q ->
  wpAny (model X.prog X.w) X.A (evalPairs (pairTrees keys values X.env pos)) (fun vs s'=>∃ ps H',Inv X pins σ H' s'/\VV ps vs/\Q ps H') X.xe s
theorem Gu:Ph X pos [] [] []:=fun pins s σ H Q I h=>pairTrees_nil_walk ⟨[],H,I,.nil,h⟩
theorem Ce{k v:Expr}{ks:List (Option Expr)}{vs:v6}{tk tv:TE}{tN:List (TE×TE)}(hk:PE X k tk)(hv:PE X v tv)(hr:Ph X pos ks vs tN) :
  Ph X pos (some k::ks) (v::vs) ((tk,tv)::tN):=fun pins s σ H Q I h =>
 pairTrees_cons_walk (cL (hk pins s σ H _ I h) fun u s1 ⟨x,H1,I1,rx,q1⟩=>cL (hv pins s1 σ H1 _ I1 q1) fun w2 s2 ⟨y,H2,I2,ry,q2⟩ =>
  cL (hr pins s2 σ H2 _ I2 q2) fun ws s3 ⟨ps,H3,I3,rel,q3⟩=>⟨(x,y)::ps,H3,I3,.cons ⟨rx,ry⟩ rel,q3⟩)
def iM(kvs more:List (Key×V)):List (Key×V):=more.foldl (fun acc kv=>putK acc kv.1 kv.2) kvs
theorem KV.merge:∀{more:List (Key×V)} {rs:List (Key×Value)} {kvs:List (Key×V)} {vs:List (Key×Value)},KV more rs->KV kvs vs->KV (iM kvs more) (merged vs rs):=by
 intro more rs kvs vs r;unfold KV at r;induction r generalizing kvs vs with
 | nil=>intro q;exact q
 | @cons p q ps qs h t ih =>
  intro r0;have e:KV (putK kvs p.1 p.2) (stored vs q.1 q.2):=by
   have:=r0.put p.1 h.2;rw[<- h.1];exact this
  exact ih e
theorem hV:∀(more kvs:List (Key×V)),(iM kvs more).length<=kvs.length+more.length
 | [],kvs=>by show kvs.length<=kvs.length+0;omega
 | p::r,kvs=>by
  have h1:=hV r (putK kvs p.1 p.2);have h2:=jb kvs p.1 p.2;show(iM (putK kvs p.1 p.2) r).length<=_;rw[aaR];omega
theorem nN{P:u8}{w:World}:∀{kvs:List (Key×V)} {ws:List (Value×Value)},VV (kvs.map fun kv=>(kV kv.1,kv.2)) ws->∃ rs,Carries (bX P w) ws rs/\KV kvs rs
 | [],_,r=>by rw[acn]at r;cases r;exact⟨[],True.intro,.nil⟩
 | p::kvs,_,r=>by
  rw[aaz]at r;cases r with
  | @cons a b as bs h t =>
   obtain⟨rs,c,q⟩:=nN (P:=P) (w:=w) t;obtain⟨b1,b2⟩:=b;exact⟨(p.1,b2)::rs,⟨pL h.1,rfl,c⟩,.cons ⟨rfl,h.2⟩ q⟩
def Cf(tN:List (TE×TE)):TE:=fun σ H Q=>∀ p,H p=none->qJ tN σ (upd H p (.dK [])) fun ps H2=>H2 p=some (.dK [])/\∃ kvs:List (Key×V),ps=kvs.map (fun kv=>(kV kv.1,kv.2))/\kvs.length<=15/\Q (.ref p) (upd H2 p (.dK (iM [] kvs)))
theorem Gv{keys:List (Option Expr)}{values:v6}{tN:List (TE×TE)}(h:Ph X pos keys values tN)(kr:keys.all (·.isSome)=true)(hl:keys.length=values.length)(h0:keys≠[])(TR:keys.length<=15):PE X (.Dict keys values pos) (Cf tN):=by
 intro pins s σ H Q I q;have hn:=I.cv.fresh (aao s.heap.objs.size);have I1:=I.laid (a:=s.heap.objs.size) (o:=.dK []) (h':=s.heap.push { cls:=.type "dict",data:=.dict #[] }) (t':=s.toks) (fun _ _ q=>aal _ q) (aao _) (Cd s.heap I.big);refine wpAny_Dict_walk (knd:=bX X.prog X.w) kr hl h0 TR (cL (h pins _ σ _ _ I1 (q _ hn)) fun ws s2 ⟨ps,H2,I2,rel,e,kvs,ep,lk,q2⟩=>?_);subst ep;obtain⟨rs,c,rk⟩:=nN (P:=X.prog) (w:=X.w) rel;obtain⟨z,hd,vs0,r0,dd⟩:=tL I2.cv e;cases r0;refine⟨rs,c,dd,fun h' FH hs=>⟨.ref s.heap.objs.size,_,?_,rfl,q2⟩⟩;have hz:(iM [] kvs).length<=sizeLine:=by
  have h1:=hV kvs [];rw[ab1]at h1;rw[sizeLine_eq];omega
 have he:∃ q,h'.get? s.heap.objs.size=some q:=let ⟨q,_,_,hq,_⟩:=FH;⟨q,hq⟩;exact mS I2 (by rw[e];exact True.intro) hs he (v8 hz hd (rk.merge .nil) FH)
end L2
namespace HT
open PySem PyProof.Rows
section
open PySem.SeqAt
open PySem.AutoSeq1 (wpAny_loadPart')
open PySem.MeetsSeq PySem.MeetsSeq2 PySem.MeetsSeq3
end
section
variable {prog:u8}{w:World}{A:tx}{E:xz}{s:Shared}
theorem Gw{t b:Addr}{vs ws:wf}{Q:xz}(ht:IsTup s.heap t vs.toArray)(hb:IsTup s.heap b ws.toArray)(hv:vs≠[])(h1:ws=[]->Q (.ref t) s)(h2:ws≠[]->Q (.ref s.heap.objs.size) { s with heap:=s.heap.push { cls:=.type "tuple",data:=.seq (vs++ws).toArray } })(hsz:vs.length+ws.length<=sizeLine):wpAny (model prog w) A (binaryOp .Add (.ref t) (.ref b)) Q E s:=by
 obtain⟨⟨cls,dd,data,sl⟩,ho,hc,n,hd⟩:=id ht;obtain⟨⟨TU,OA,data2,Su⟩,ku,Br,n2,hd2⟩:=id hb;simp only at hc hd Br hd2;subst hc hd Br hd2;have e:vs.toArray++ws.toArray=(vs++ws).toArray:=by simp
 by_cases hw:ws=[]
 ·exact concat_meets ⟨_,ho,rfl⟩ ⟨_,ku,rfl⟩ noFill_tuple_add seq_tuple_add acz acs (aco _ _)
   (tuple_addW1 t b vs.toArray ws.toArray n n2 dd OA sl Su (by simpa using hv) (by simp[hw])) ⟨ho,ku,h1 hw⟩
 ·refine concat_meets ⟨_,ho,rfl⟩ ⟨_,ku,rfl⟩ noFill_tuple_add seq_tuple_add acz acs (aco _ _)
   (tuple_addW2 t b vs.toArray ws.toArray n n2 dd OA sl Su (by simpa using hv) (by simpa using hw) (by rw[aay,aay];exact hsz)) ⟨ho,ku,?_⟩
  rw[e];exact h2 hw
def de(n d:Nat):v0->Nat
 | none=>d
 | some v=>if v < 0 then(v+(n:Int)).toNat else min v.toNat n
theorem nP(n d:Nat):de n d none=d:=rfl
theorem jC(n d k:Nat):de n d (some (k:Int))=min k n:=by
 show(if(k:Int) < 0 then((k:Int)+(n:Int)).toNat else min (k:Int).toNat n)=min k n;rw[aaA (by omega),aaY]
theorem Ls(n d:Nat)(hd:d<=n)(o:v0):de n d o<=n:=by
 cases o with
 | none=>exact hd
 | some v =>
  show(if v < 0 then(v+(n:Int)).toNat else min v.toNat n)<=n
  by_cases hv:v < 0
  ·rw[aaE hv];omega
  ·rw[aaA hv];exact acI _ _
theorem yx(v:Int)(n d:Nat):(if v < 0 then max (v+(n:Int)) 0 else min v (n:Int))=((de n d (some v):Nat):Int):=by
 show(if v < 0 then max (v+(n:Int)) 0 else min v (n:Int))=(((if v < 0 then(v+(n:Int)).toNat else min v.toNat n):Nat):Int)
 by_cases hv:v < 0
 ·simp only[aaE hv];omega
 ·simp only[aaA hv];omega
theorem v9(lo hi:v0)(n:Nat):Builtin.Slice.sliceAdjust lo hi 1 (n:Int)=(((de n 0 lo:Nat):Int),((de n n hi:Nat):Int)):=by
 have h1:¬ ((1:Int) < 0):=by omega
 unfold Builtin.Slice.sliceAdjust;simp only[h1,adb];refine Prod.ext ?_ ?_
 ·cases lo with
  | none=>rfl
  | some v=>exact yx v n 0
 ·cases hi with
  | none=>rfl
  | some v=>exact yx v n n
theorem wa(i j:Nat):Builtin.Slice.slicePlaces (i:Int) (j:Int) 1=j - i:=by
 unfold Builtin.Slice.slicePlaces;have h1:(1:Int) > 0:=by omega
 simp only[h1,acu,Int.ediv_one];split<;>omega
theorem nQ{v:Value}{o:v0}{Q:v0->Shared->Prop}(p:IsPart v o)(h:Q o s):wpAny (model prog w) A (Builtin.Slice.slicePartIndex v) Q E s:=by
 cases p with
 | none=>exact slicePart_none h
 | int i t=>exact slicePart_int h
theorem iB{sl:Addr}{vl vu:Value}{lo hi:v0}{n:Nat}{Q:Int×Int×Nat->Shared->Prop}(hs:s.heap.IsSliceOf sl vl vu .none)(pl:IsPart vl lo)(pu:IsPart vu hi)(h:Q (((de n 0 lo:Nat):Int),1,de n n hi - de n 0 lo) s):wpAny (model prog w) A (Builtin.Slice.sliceApplied (.ref sl) (pure (n:Int))) Q E s:=by
 obtain⟨os,Lu,Sv,Pj⟩:=id hs;unfold Builtin.Slice.sliceApplied Builtin.Slice.sliceFields;refine aaj (aaj (abq Lu Pj (x:=vl) rfl (aaj (abq Lu Pj (x:=vu) rfl (aaj (abq Lu Pj (x:=.none) rfl (aam ?_)))))));refine aaj (slicePart_none ?_);show wpAny _ _ (if((1:Int) == 0)=true then _ else _) _ _ s;rw[aaA (by decide)];refine aaj (nQ pl (aaj (nQ pu (aaj (aam ?_)))));show wpAny _ _ (match Builtin.Slice.sliceAdjust lo hi 1 (n:Int)with | (lo,hi)=>pure (lo,(1:Int),Builtin.Slice.slicePlaces lo hi 1)) _ _ s;rw[v9 lo hi n];show wpAny _ _ (pure (((de n 0 lo:Nat):Int),(1:Int),Builtin.Slice.slicePlaces ((de n 0 lo:Nat):Int) ((de n n hi:Nat):Int) 1)) _ _ s;rw[wa];exact aam h
theorem Cg(xs:Array Value)(i k:Nat):((List.range k).filterMap fun(m:Nat)=>xs[((i:Int)+(m:Int) * 1).toNat]?).toArray=((xs.toList.drop i).take k).toArray:=by
 have e:(fun(m:Nat)=>xs[((i:Int)+(m:Int) * 1).toNat]?)=fun m=>xs[i+m]?:=by
  funext m;have:((i:Int)+(m:Int) * 1).toNat=i+m:=by omega
  rw[this]
 rw[e];have:=pick_run xs i k;rw[List.filterMap_map]at this;have e2:((fun x=>xs[x]?) ∘ fun x=>i+x)=fun m=>xs[i+m]?:=rfl;rw[e2]at this;rw[this]
theorem kx{t sl:Addr}{items:Array Value}{vl vu:Value}{lo hi:v0}{Q:xz}(ht:IsTup s.heap t items)(hs:s.heap.IsSliceOf sl vl vu .none)(pl:IsPart vl lo)(pu:IsPart vu hi)(hw:¬ (de items.size 0 lo=0/\de items.size items.size hi=items.size))(h:Q (.ref s.heap.objs.size) { s with heap:=s.heap.push { cls:=.type "tuple",data:=.seq ((items.toList.drop (de items.size 0 lo)).take (de items.size items.size hi - de items.size 0 lo)).toArray } })(hsz:items.size<=sizeLine):wpAny (model prog w) A (getItem (.ref t) (.ref sl)) Q E s:=by
 have yy:sizeOk (.seq ((items.toList.drop (de items.size 0 lo)).take (de items.size items.size hi - de items.size 0 lo)).toArray):=by
  show((items.toList.drop (de items.size 0 lo)).take (de items.size items.size hi - de items.size 0 lo)).toArray.size<=sizeLine;rw[aay,abk,abE,aaP];omega
 have hj:de items.size items.size hi<=items.size:=Ls _ _ (aao _) hi;obtain⟨os,Lu,Sv,Pj⟩:=id hs;have TV:s.TypeIs (.ref sl) "slice":=⟨os,Lu,Sv⟩;unfold getItem
 try with_reducible refine abc ?_
 first | refine aaj (aam ?_) | skip
 refine aaj (wpAny_sequenceKey ht.typeIs (by decide) ?_);refine aaj (aa9 (name:=Str.ofString "__getitem__") ht.typeIs aa5
  (abe aa5 ht.typeIs entry_tuple_getitem ?_ (args_tuple_getitem _ _)))
 show wpAny _ _ (Builtin.Tuple.tupleItemsOf (.ref t) >>= _) _ _ s;refine aaj (tupleItemsOf_ ht ?_);refine aaj (acX TV ?_);rw[aaE (by decide)];refine aaj (iB hs pl pu ?_);have TX:¬ ((((de items.size 0 lo:Nat):Int) == 0&&(1:Int) == 1&&(de items.size items.size hi - de items.size 0 lo) == items.size)=true):=by
  intro q;rw[aaC,aaC]at q;have q1:((de items.size 0 lo:Nat):Int)=0:=eq_of_beq q.1.1;have q2:de items.size items.size hi - de items.size 0 lo=items.size:=eq_of_beq q.2;exact hw ⟨by omega,by omega⟩
 show wpAny _ _ (if(((de items.size 0 lo:Nat):Int) == 0&&(1:Int) == 1&&(de items.size items.size hi - de items.size 0 lo) == items.size)=true then _ else _) _ _ s;rw[aaA TX,Cg]
 first
  | exact aaj (m:=Builtin.Tuple.tupleExact _) (abb (aam ⟨_,rfl,aam h⟩) yy)
  | exact aaj (m:=Builtin.Tuple.tupleExact _) (abb (aaj (aam (aam ⟨_,rfl,aam h⟩))) yy)
  | exact aaj (aaj (m:=Builtin.Tuple.tupleExact _) (abb (aam (aam ⟨_,rfl,aam h⟩)) yy))
  | exact aaj (aaj (m:=Builtin.Tuple.tupleExact _) (abb (aam ⟨_,rfl,aam h⟩) yy))
end
end HT
namespace L2
open PySem PySem.Spec PyProof.Rows
variable {X:Cx}{xs:List V}{n:Nat}{α:Type}{pins:yp}{s:Shared}{aV:wf}{A:tx}{v:Value}
abbrev TO:=St->Hp->(Option Int->Hp->Prop)->Prop
def PO(X:Cx)(e:Option Expr)(t:TO):Prop :=
 ∀(pins:yp) (s:Shared) (σ:St) (H:Hp) (Q:v0->Hp->Prop),Inv X pins σ H s->t σ H Q ->
  wpAny (model X.prog X.w) X.A (evalPart e X.env) (fun u s'=>∃ o H',Inv X pins σ H' s'/\IsPart u o/\Q o H') X.xe s
def qK:TO:=fun _ H Q=>Q none H
def Ci(t:TE):TO:=fun σ H Q=>t σ H fun x H1=>∃ i,x=.int i/\Q (some i) H1
theorem intsAre_of{ns:wn}:∀{us:wf},Vals (ns.map V.int) us->IntsAre us ns:=by
 induction ns with
 | nil=>intro us r;rw[acn]at r;cases r;exact .nil
 | cons n ns ih =>
  intro us r;rw[aaz]at r;cases r with
  | cons r1 r2 =>
   obtain⟨t,e⟩:=r1;subst e;exact .cons n t (ih r2)
section
variable {e:Expr}{te:TE}{lo hi:Option Expr}{tl th:TO}{pos p2:Pos}
theorem Gx:PO X none qK:=by
 intro pins s σ H Q I h;rw[evalPart_none];exact aam ⟨none,H,I,.none,h⟩
theorem Gy(h:PE X e te):PO X (some e) (Ci te):=by
 intro pins s σ H Q I hw;rw[evalPart_some];refine cL (h pins s σ H _ I hw) fun u s1 ⟨x,H1,I1,r1,q1⟩=>?_;obtain⟨i,rfl,q⟩:=q1;obtain⟨t,rfl⟩:=r1;exact⟨some i,H1,I1,.int i t,q⟩
def Pk(X:Cx)(r:V->v0->v0->Hp->VK->Prop):Prop :=
 ∀(pins:yp) (s:Shared) (σ:St) (H:Hp) (x:V) (v vl vu:Value) (lo hi:v0) (sl:Addr) (Q:VK),Inv X pins σ H s->RelV x v->s.heap.IsSliceOf sl vl vu .none->IsPart vl lo->IsPart vu hi->r x lo hi H Q ->
  ∃ T id,typeLookup (.type T) "__getitem__"=pure (some (.builtin id))/\s.TypeIs v T/\wpAny (model X.prog X.w) X.A (getItem v (.ref sl)) (EP X pins σ Q) X.xe s
def TY(r:V->v0->v0->Hp->VK->Prop)(te:TE)(tl th:TO):TE:=fun σ H Q=>te σ H fun x H1=>tl σ H1 fun l H2=>th σ H2 fun u H3=>r x l u H3 Q
theorem Cj{r:V->v0->v0->Hp->VK->Prop}(hr:Pk X r)(he:PE X e te)(hl:PO X lo tl)(hu:PO X hi th):PE X (.Subscript e (.Slice lo hi none p2) pos) (TY r te tl th):=by
 intro pins s σ H Q I h;refine Subscript_ (cL (he pins s σ H _ I h) fun v s1 ⟨x,H1,I1,r1,q1⟩=>?_);refine wpAny_Slice (cL (hl pins s1 σ H1 _ I1 q1) fun vl s2 ⟨l,H2,I2,pl,q2⟩=>cL (hu pins s2 σ H2 _ I2 q2) fun vu s3 ⟨u,H3,I3,pu,q3⟩=>?_);rw[evalPart_none];refine aam ?_;have I4:Inv X pins σ H3 { s3 with heap:=s3.heap.push { cls:=.type "slice",data:=.fields #[vl,vu,.none] } }:=I3.kept (t':=s3.toks) fun b ob q=>aal _ q;obtain⟨T,id,hT,ht,hg⟩:=hr pins { s3 with heap:=s3.heap.push { cls:=.type "slice",data:=.fields #[vl,vu,.none] } } σ H3 x v vl vu l u s3.heap.objs.size Q I4 r1 (Heap.IsSliceOf.new ..) pl pu q3;show wpAny (model X.prog X.w) X.A (subscriptTail e (.Slice lo hi none p2) v (.ref s3.heap.objs.size)) (EP X pins σ Q) X.xe { s3 with heap:=s3.heap.push { cls:=.type "slice",data:=.fields #[vl,vu,.none] } };exact tail_any (ops:=[.ref s3.heap.objs.size,v]) ht hT hg (by with_unfolding_all rfl)
def lx(xs:List V)(lo hi:v0):List V:=(xs.drop (HT.de xs.length 0 lo)).take (HT.de xs.length xs.length hi - HT.de xs.length 0 lo)
theorem md(xs:List V)(lo hi:v0):(lx xs lo hi).length<=xs.length:=by
 unfold lx;rw[abk,abE];omega
def Pl(K:zn):V->v0->v0->Hp->VK->Prop:=fun x lo hi H Q=>∃ a xs,x=.ref a/\fN K H a xs /\
 ¬ (HT.de xs.length 0 lo=0/\HT.de xs.length xs.length hi=xs.length)/\∀ p,H p=none->Q (.ref p) (upd H p (.tup (lx xs lo hi)))
theorem nR:Pk X (Pl X.K):=by
 intro pins s σ H x v vl vu lo hi sl Q I rx hs pl pu h;obtain⟨a,xs,rfl,hx,hw,q⟩:=h;cases rx;obtain⟨aV,r,ht,hz⟩:=I.tuple hx;have hlen:aV.toArray.size=xs.length:=by rw[aay];exact r.length.symm
 refine⟨"tuple",_,aa5.lookup,ht.typeIs,?_⟩;refine HT.kx ht hs pl pu (by rw[hlen];exact hw) ?_ (by rw[hlen];exact hz);rw[hlen];refine⟨.ref s.heap.objs.size,_,I.laid (t':=s.toks) (o:=.tup (lx xs lo hi)) (fun b ob q=>aal _ q) (aao _) ?_,rfl,q _ (I.cv.fresh (aao _))⟩;exact⟨aaq (md xs lo hi) hz,_,(r.drop (HT.de xs.length 0 lo)).take (HT.de xs.length xs.length hi - HT.de xs.length 0 lo),IsTup.new _ _⟩
theorem Vals.mU{us:wf}(r:Vals xs us):us=[]↔xs=[]:=by
 cases r with
 | nil=>simp
 | cons _ _=>simp
end
def Ai(n:Nat)(i:Int):Option Nat:=if 0<=i then(if i < n then some i.toNat else none)else if -(n:Int)<=i then some (i+n).toNat else none
def iy{α:Type}(xs:List α)(i:Int):Option α:=(Ai xs.length i).bind fun j=>xs[j]?
theorem yz{i:Int}{j:Nat}(h:Ai n i=some j):seqIndex? i n=some j/\j < n/\-(n:Int)<=i/\i < n:=by
 unfold Ai at h
 by_cases h0:0<=i
 ·rw[aaE h0]at h
  by_cases h1:i < n
  ·rw[aaE h1]at h;have e:i.toNat=j:=aaV h;exact⟨by rw[seqIndex_of h0 h1,e],by omega,by omega,h1⟩
  ·rw[aaA h1]at h;cases h
 ·rw[aaA h0]at h
  by_cases h1:-(n:Int)<=i
  ·rw[aaE h1]at h;have e:(i+n).toNat=j:=aaV h;exact⟨by rw[seqIndex_neg (by omega) h1,e],by omega,h1,by omega⟩
  ·rw[aaA h1]at h;cases h
theorem qL{xs:List α}{i:Int}{v:α}(h:iy xs i=some v):∃ j,seqIndex? i xs.length=some j/\xs[j]?=some v/\j < xs.length/\-(xs.length:Int)<=i/\i < xs.length:=by
 unfold iy at h;cases e:Ai xs.length i with
 | none=>rw[e]at h;cases h
 | some j =>
  rw[e]at h;obtain⟨h1,h2,h3,h4⟩:=yz e;exact⟨j,h1,h,h2,h3,h4⟩
theorem bY{xs:List α}{j:Nat}{v:α}(h:xs[j]?=some v):iy xs (j:Int)=some v:=by
 have hj:j < xs.length:=(aas.mp h).1;have e:Ai xs.length (j:Int)=some j:=by
  unfold Ai;rw[aaE (by omega),aaE (by omega)];simp
 unfold iy;rw[e];exact h
def yA(b:Expr):Prop:=∀ o i,subscripted b false o i=operate [o,i] (getItem o i)
def Gz(X:Cx)(r:R2):Prop :=
 ∀(value slice:Expr) (pins:yp) (s:Shared) (σ:St) (H:Hp) (x y:V) (v u:Value) (Q:VK),Inv X pins σ H s->RelV x v->RelV y u->r x y H Q ->
  subscripted slice false v u=operate [v,u] (getItem v u)->wpAny (model X.prog X.w) X.A (subscriptTail value slice v u) (EP X pins σ Q) X.xe s
def Sw(X:Cx)(id:String)(r:V->List V->Hp->VK->Prop):Prop :=
 ∀(pins:yp) (s:Shared) (σ:St) (H:Hp) (x:V) (xs:List V) (v:Value) (us:wf) (Q:VK),Inv X pins σ H s->RelV x v->Vals xs us->r x xs H Q ->
  wpAny (model X.prog X.w) X.A (call (.builtin id) (v::us)) (EP X pins σ Q) X.xe s
section
variable {a b:Expr}{ta tb:TE}{pos:Pos}
theorem Gz.or{r r':R2}(h:Gz X r)(h':Gz X r'):Gz X (fun x y H Q=>r x y H Q\/r' x y H Q):=by
 intro value slice pins s σ H x y v u Q I rx ry q hs;rcases q with q | q
 ·exact h value slice pins s σ H x y v u Q I rx ry q hs
 ·exact h' value slice pins s σ H x y v u Q I rx ry q hs
theorem Pm{r:R2}(hr:Gz X r)(ha:PE X a ta)(hb:PE X b tb)(hs:yA b):PE X (.Subscript a b pos) (zU r ta tb):=by
 intro pins s σ H Q I h;exact Subscript_ (Ld ha hb I h fun v u s2 x y H2 I2 rx ry q=>hr a b pins s2 σ H2 x y v u Q I2 rx ry q (hs _ _))
def Pn(K:zn):R2:=fun x y H Q=>∃ p xs i v,x=.ref p/\y=.int i/\gb K H p xs/\iy xs i=some v/\Q v H
def Po(K:zn):R2:=fun x y H Q=>∃ p xs i v,x=.ref p/\y=.int i/\fN K H p xs/\iy xs i=some v/\Q v H
def Pp:R2:=fun x y H Q=>∃ z i c,x=.str z/\y=.int i/\z.length<=sizeLine/\iy z.cps.toList i=some c/\Q (.str ⟨#[c]⟩) H
theorem GA:Gz X (Pn X.K):=by
 intro value slice pins s σ H x y v u Q I rx ry h hs;obtain⟨p,xs,i,z,rfl,rfl,hq,he,q⟩:=h;cases rx;obtain⟨t,rfl⟩:=ry;obtain⟨aV,r,pl,hz⟩:=I.list hq;obtain⟨j,h1,h2,h3,h4,h5⟩:=qL he;obtain⟨w,ew,v7⟩:=r.get h2;have hl:=r.length;have hn:=nG;have fin:EP X pins σ Q w s:=⟨z,H,I,v7,q⟩
 by_cases h0:0<=i
 ·have hj:i.toNat=j:=by
   rw[seqIndex_of h0 h5]at h1;exact aaV h1
  exact item_listR pl.isList h0 (by omega) (by rw[hj];simpa using ew) fin hs
 ·have hj:(i+(aV.toArray.size:Int)).toNat=j:=by
   rw[seqIndex_neg (by omega) h4]at h1;rw[aay,<- hl];exact aaV h1
  exact subscriptTail_builtinR (x:=w) pl.isList.typeIs slot_list_getitem.lookup
   (wpAny_getItem_list_neg (Q:=fun r s'=>r=w/\EP X pins σ Q r s') pl.isList (by omega) (by rw[aay]<;>omega) (by omega) (by rw[hj];simpa using ew) ⟨rfl,fin⟩) hs
theorem Lv:Gz X (Po X.K):=by
 intro value slice pins s σ H x y v u Q I rx ry h hs;obtain⟨p,xs,i,z,rfl,rfl,hq,he,q⟩:=h;cases rx;obtain⟨t,rfl⟩:=ry;obtain⟨aV,r,pl,hz⟩:=I.tuple hq;obtain⟨j,h1,h2,h3,h4,h5⟩:=qL he;obtain⟨w,ew,v7⟩:=r.get h2;have hl:=r.length;have hn:=nG;have fin:EP X pins σ Q w s:=⟨z,H,I,v7,q⟩;exact subscriptTail_builtinR (x:=w) pl.typeIs aa5.lookup
  (getItem_tuple (j:=j) (Q:=fun r s'=>r=w/\EP X pins σ Q r s') pl (by omega) (by omega) (by rw[aay,<- hl];exact h1) (by simpa using ew) ⟨rfl,fin⟩) hs
theorem Lw:Gz X Pp:=by
 intro value slice pins s σ H x y v u Q I rx ry h hs;obtain⟨z,i,c,rfl,rfl,hz,he,q⟩:=h;obtain⟨t,rfl⟩:=rx;obtain⟨t',rfl⟩:=ry;obtain⟨j,h1,h2,h3,h4,h5⟩:=qL he;have hl:z.cps.toList.length=z.length:=by simp[Str.length]
 rw[hl]at h1 h4 h5;have hn:=nG;exact tail_any (typeIs_str s z t) slot_str_getitem.lookup (getItem_str (c:=c) (by
  have e1:decide (i < -(2 ^ 63:Int))=false:=aat (by omega);have e2:decide (i ≥ 2 ^ 63)=false:=aat (by omega);rw[e1,e2,Bool.or_false]) (by rw[h1];simpa using h2) ⟨.str ⟨#[c]⟩,H,I.tok _,⟨_,rfl⟩,q⟩) hs
def Sx(K:zn):R2:=fun x y H Q=>Pn K x y H Q\/Po K x y H Q\/Pp x y H Q
theorem Lx:Gz X (Sx X.K):=GA.or (Lv.or Lw)
theorem wb(aV:wf)(n j:Nat)(u:Value):Obj.mapSeq (·.setIfInBounds j u) { cls:=.type "list",data:=.seq aV.toArray n }={ cls:=.type "list",data:=.seq (aV.set j u).toArray n }:=by
 simp[Obj.mapSeq]
theorem Inv.lst{pins:yp}{σ:St}{H:Hp}{s:Shared}{p:Addr}{xs:List V}(I:Inv X pins σ H s)(h:H p=some (.lst xs)) :
  ∃(aV:wf) (n:Nat),Vals xs aV/\s.heap.get? p=some { cls:=.type "list",data:=.seq aV.toArray n }/\xs.length<=sizeLine:=by
 obtain⟨z,aV,n,r,e⟩:=I.cv p _ h;exact⟨aV,n,r,e,z⟩
theorem Inv.Ly{σ:St}{H:Hp}{p:Addr}{ys:List V}{its':wf}{n':Nat}{f:Obj->Obj}(I:Inv X pins σ H s)(h:H p=some (.lst xs))(ho:s.heap.get? p=some { cls:=.type "list",data:=.seq aV.toArray n })(hf:f { cls:=.type "list",data:=.seq aV.toArray n }={ cls:=.type "list",data:=.seq its'.toArray n' })(r:Vals ys its')(hz:ys.length<=sizeLine)(t:Nat) :
  Inv X pins σ (upd H p (.lst ys)) { s with heap:=s.heap.update p f,toks:=t }:=by
 have e:(s.heap.update p f).get? p=some { cls:=.type "list",data:=.seq its'.toArray n' }:=by
  rw[aa7 f ho (by rw[hf]<;>rfl),hf]
 refine I.write (x:=p) (e:=p) (by rw[h];trivial) (.inl rfl) (fun b u hb q=>(ab7 _ _ (acf hb)).trans q) ⟨_,e⟩ ?_;exact⟨hz,its',n',r,e⟩
def IV:V->V->V->Hp->(Hp->Prop)->Prop:=fun o i v H Q=>∃ p xs k j,o=.ref p/\i=.int k/\H p=some (.lst xs)/\Ai xs.length k=some j/\Q (upd H p (.lst (xs.set j v)))
theorem set_list:K3 X IV:=by
 intro pins s σ H o i v ov iv u Q I ro ri rv h;obtain⟨p,xs,k,j,rfl,rfl,hp,hj,q⟩:=h;cases ro;obtain⟨t,rfl⟩:=ri;obtain⟨aV,n,r,ho,hz⟩:=I.lst hp;obtain⟨h1,h2,h3,h4⟩:=yz hj;have hl:=r.length;have hn:=nG;have I':Inv X pins σ (upd H p (.lst (xs.set j v))) { s with heap:=s.heap.update p (Obj.mapSeq (·.setIfInBounds j u)) } :=
  I.Ly hp ho (wb aV n j u) (r.set rv j) (by rw[adk];exact hz) s.toks
 by_cases h0:0<=k
 ·have hk:k.toNat=j:=by
   rw[seqIndex_of h0 h4]at h1;exact aaV h1
  exact PySem.W.ki_setAt ho h0 (by omega) (by rw[aay,<- hl];exact h4) (by rw[hk];exact⟨_,I',q⟩)
 ·have hk:(k+(aV.toArray.size:Int)).toNat=j:=by
   rw[seqIndex_neg (by omega) h3]at h1;rw[aay,<- hl];exact aaV h1
  exact PySem.W.ki_setBack ho (by omega) (by rw[aay,<- hl];exact h3) (by omega) (by rw[hk];exact⟨_,I',q⟩)
theorem qM(lo hi:v0)(n:Nat):(sliceBounds lo hi none n).1=((HT.de n 0 lo:Nat):Int)/\(sliceBounds lo hi none n).2.1=((HT.de n n hi:Nat):Int)/\(sliceBounds lo hi none n).2.2=1:=by
 refine⟨?_,?_,rfl⟩
 ·cases lo with
  | none=>simp[sliceBounds,HT.de]
  | some i =>
   simp only[sliceBounds,HT.de,Option.getD_none,show(1:Int) > 0 by decide,acu]
   by_cases h:i < 0
   ·simp only[h,acu]<;>omega
   ·simp only[h,adb]<;>omega
 ·cases hi with
  | none=>simp[sliceBounds,HT.de]
  | some i =>
   simp only[sliceBounds,HT.de,Option.getD_none,show(1:Int) > 0 by decide,acu]
   by_cases h:i < 0
   ·simp only[h,acu]<;>omega
   ·simp only[h,adb]<;>omega
theorem pb(aV:wf)(lo hi:v0):slicePick aV.toArray lo hi none=((aV.drop (HT.de aV.length 0 lo)).take (HT.de aV.length aV.length hi - HT.de aV.length 0 lo)).toArray:=by
 obtain⟨h1,h2,h3⟩:=qM lo hi aV.toArray.size;unfold slicePick;rw[h1,h2,h3];simp only[sliceRange_one,pick_run,aay]<;>rfl
def Pq(K:zn):V->v0->v0->Hp->VK->Prop:=fun x lo hi H Q=>∃ a xs,x=.ref a/\gb K H a xs/\∀ p,H p=none->Q (.ref p) (upd H p (.lst (lx xs lo hi)))
theorem qO:Pk X (Pq X.K):=by
 intro pins s σ H x v vl vu lo hi sl Q I rx hs pl pu h;obtain⟨a,xs,rfl,hx,q⟩:=h;cases rx;obtain⟨aV,r,ht,hz⟩:=I.list hx;have hlen:=r.length;refine⟨"list",_,slot_list_getitem.lookup,ht.isList.typeIs,?_⟩;refine wpAny_getItem_list_slice ht.isList hs pl pu .none (by simp) ?_ (by rw[aay]<;>omega);rw[pb,<- hlen];refine⟨.ref s.heap.objs.size,_,I.laid (t':=s.toks) (o:=.lst (lx xs lo hi)) (fun b ob q=>aal _ q) (aao _) ?_,rfl,q _ (I.cv.fresh (aao _))⟩;exact⟨aaq (md xs lo hi) hz,_,0,(r.drop (HT.de xs.length 0 lo)).take (HT.de xs.length xs.length hi - HT.de xs.length 0 lo),aau _ rfl⟩
def eE:V->Bool
 | .dj=>true
 | .bl _=>true
 | .int _=>true
 | .str _=>true
 | _=>false
noncomputable def GB:V->V->Bool
 | .dj,.dj=>true
 | .bl a,.bl b=>a == b
 | .bl a,.int b=>(if a then 1 else 0) == b
 | .int a,.bl b=>a == (if b then 1 else 0)
 | .int a,.int b=>a == b
 | .str a,.str b=>a == b
 | _,_=>false
theorem Lz{y x:V}{u:Value}(ry:RelV y u)(rx:RelV x v)(fy:eE y=true)(fx:eE x=true):SeqAt.EqAt A s u v (GB y x):=by
 cases y with
 | dj =>
  cases ry;cases x with
  | dj=>cases rx;exact SeqAt.EqAt.same _
  | bl b=>cases rx;exact SeqAt.EqAt.none_bool b
  | int b=>obtain⟨t,rfl⟩:=rx;exact SeqAt.EqAt.none_int b t
  | str b=>obtain⟨t,rfl⟩:=rx;exact SeqAt.EqAt.none_str b t
  | _=>exact absurd (show false=true from fx) aav
 | bl a =>
  cases ry;cases x with
  | dj=>cases rx;exact SeqAt.EqAt.bool_none a
  | bl b=>cases rx;exact SeqAt.EqAt.bool_bool a b
  | int b=>obtain⟨t,rfl⟩:=rx;exact SeqAt.EqAt.bool_int a b t
  | str b=>obtain⟨t,rfl⟩:=rx;exact SeqAt.EqAt.bool_str a b t
  | _=>exact absurd (show false=true from fx) aav
 | int a =>
  obtain⟨t',rfl⟩:=ry;cases x with
  | dj=>cases rx;exact SeqAt.EqAt.int_none a t'
  | bl b=>cases rx;exact SeqAt.EqAt.int_bool a t' b
  | int b=>obtain⟨t,rfl⟩:=rx;exact SeqAt.EqAt.int_int a t' b t
  | str b=>obtain⟨t,rfl⟩:=rx;exact SeqAt.EqAt.int_str a t' b t
  | _=>exact absurd (show false=true from fx) aav
 | str a =>
  obtain⟨t',rfl⟩:=ry;cases x with
  | dj=>cases rx;exact SeqAt.EqAt.str_none a t'
  | bl b=>cases rx;exact SeqAt.EqAt.str_bool a t' b
  | int b=>obtain⟨t,rfl⟩:=rx;exact SeqAt.EqAt.str_int a t' b t
  | str b=>obtain⟨t,rfl⟩:=rx;exact SeqAt.EqAt.str_str a t' b t
  | _=>exact absurd (show false=true from fx) aav
 | _=>exact absurd (show false=true from fy) aav
noncomputable def we(x:V)(u:Value):Bool:=match u with
 | .none=>GB .dj x
 | .bool b=>GB (.bl b) x
 | .int i _=>GB (.int i) x
 | .str z _=>GB (.str z) x
 | _=>false
theorem Ck{x y:V}{u:Value}(r:RelV y u)(f:eE y=true):we x u=GB y x:=by
 cases y with
 | dj=>cases r;rfl
 | bl b=>cases r;rfl
 | int i=>obtain⟨t,rfl⟩:=r;rfl
 | str z=>obtain⟨t,rfl⟩:=r;rfl
 | _=>exact absurd (show false=true from f) aav
theorem ky{x:V}:∀{xs:List V} {us:wf},Vals xs us->xs.all eE=true->us.any (we x)=xs.any fun y=>GB y x
 | _,_,.nil,_=>rfl
 | y::xs,u::us,.cons r t,f=>by
  rw[aaX,aaC]at f;rw[abl,abl,Ck r f.1,ky t f.2]
theorem jc{A:tx}{s:Shared}{x:V}{v:Value}(rx:RelV x v)(fx:eE x=true):∀{xs:List V} {us:wf},Vals xs us->xs.all eE=true->∀ u∈us,SeqAt.EqAt A s u v (we x u)
 | _,_,.nil,_=>fun u hu=>by cases hu
 | y::xs,u::us,.cons r t,f=>fun u' hu=>by
  rw[aaX,aaC]at f;rcases aan.mp hu with rfl | hu
  ·rw[Ck r f.1];exact Lz r rx f.1 fx
  ·exact jc rx fx t f.2 u' hu
noncomputable def Sy(x:V)(xs:List V):Bool:=xs.any fun y=>GB y x
noncomputable def TZ(K:zn)(neg:Bool):R2:=fun x y H Q=>∃ p xs,y=.ref p/\(gb K H p xs\/fN K H p xs)/\eE x=true/\xs.all eE=true/\Q (.bl (if neg then !Sy x xs else Sy x xs)) H
theorem Aj:iq X (compareOp .In) (TZ X.K false):=by
 intro pins s σ H x y v u Q I rx ry h;obtain⟨p,xs,rfl,hq,fx,fs,q⟩:=h;cases ry;rcases hq with hq | hq
 ·obtain⟨aV,r,pl,hz⟩:=I.list hq;refine SeqAt.in_listAt (we x) pl.isList (fun w hw=>jc rx fx r fs w (by simpa using hw)) ⟨.bl _,H,I,rfl,?_⟩;rw[show aV.toArray.any (we x)=aV.any (we x) by simp,ky r fs];exact q
 ·obtain⟨aV,r,pl,hz⟩:=I.tuple hq;refine SeqAt.in_tupleAt (we x) pl (fun w hw=>jc rx fx r fs w (by simpa using hw)) ⟨.bl _,H,I,rfl,?_⟩;rw[show aV.toArray.any (we x)=aV.any (we x) by simp,ky r fs];exact q
theorem qP:iq X (compareOp .NotIn) (TZ X.K true):=by
 intro pins s σ H x y v u Q I rx ry h;obtain⟨p,xs,rfl,hq,fx,fs,q⟩:=h;cases ry;rcases hq with hq | hq
 ·obtain⟨aV,r,pl,hz⟩:=I.list hq;refine SeqAt.notIn_listAt (we x) pl.isList (fun w hw=>jc rx fx r fs w (by simpa using hw)) ⟨.bl _,H,I,rfl,?_⟩;rw[show aV.toArray.any (we x)=aV.any (we x) by simp,ky r fs];exact q
 ·obtain⟨aV,r,pl,hz⟩:=I.tuple hq;refine SeqAt.notIn_tupleAt (we x) pl (fun w hw=>jc rx fx r fs w (by simpa using hw)) ⟨.bl _,H,I,rfl,?_⟩;rw[show aV.toArray.any (we x)=aV.any (we x) by simp,ky r fs];exact q
theorem qQ:fO X (.builtin "len") (fun xs H Q=>∃ p ys,xs=[.ref p]/\(gb X.K H p ys\/fN X.K H p ys)/\Q (.int ys.length) H):=by
 intro pins s σ H xs us Q I r h;obtain⟨p,ys,rfl,hq,q⟩:=h;obtain⟨u,rfl,rx⟩:=vals1 r;cases rx;have hn:=nG;rcases hq with hq | hq
 ·obtain⟨aV,r',pl,hz⟩:=I.list hq;have hlen:=r'.length;exact Calls.call_len_list pl.isList (by simp only[aay]<;>omega) ⟨.int ys.length,H,I.tok _,⟨s.toks+1,by rw[aay,hlen]⟩,q⟩
 ·obtain⟨aV,r',pl,hz⟩:=I.tuple hq;have hlen:=r'.length;exact len_tuple pl (by simp only[aay]<;>omega) ⟨.int ys.length,H,I.tok _,⟨s.toks+1,by rw[aay,hlen]⟩,q⟩
theorem qR:fO X (.type "list") (fun xs H Q=>∃ p ys,xs=[.ref p]/\(gb X.K H p ys\/fN X.K H p ys)/\∀ l,H l=none->Q (.ref l) (upd H l (.lst ys))):=by
 intro pins s σ H xs us Q I r h;obtain⟨p,ys,rfl,hq,q⟩:=h;obtain⟨u,rfl,rx⟩:=vals1 r;cases rx;have fin:∀(aV:wf),Vals ys aV->ys.length<=sizeLine->∀(h':Heap) (c':Nat),(∀ b o',s.heap.get? b=some o'->h'.get? b=some o') ->
   h'.get? s.heap.objs.size=some { cls:=.type "list",dict:=none,data:=.seq aV.toArray c',slots:=#[] }->EP X pins σ Q (.ref s.heap.objs.size) { s with heap:=h' }:=fun aV r' hz h' c' kp e =>
  ⟨.ref s.heap.objs.size,_,I.laid (t':=s.toks) kp (aao _) (show cq X.prog X.w _ h' _ (.lst ys) from ⟨hz,aV,c',r',e⟩),rfl,q _ (I.cv.fresh (aao _))⟩
 rcases hq with hq | hq
 ·obtain⟨aV,r',pl,hz⟩:=I.list hq;have hlen:=r'.length;obtain⟨o,ho,hc,n,hd⟩:=pl.isList;exact call_list_seq p (.inl rfl) ho hc hd (fun h' c' kp e=>fin aV r' hz h' c' kp e) (by simp only[aay]<;>omega)
 ·obtain⟨aV,r',pl,hz⟩:=I.tuple hq;have hlen:=r'.length;obtain⟨o,ho,hc,n,hd⟩:=pl;exact call_list_seq p (.inr rfl) ho hc hd (fun h' c' kp e=>fin aV r' hz h' c' kp e) (by simp only[aay]<;>omega)
theorem pd:fO X (.type "tuple") (fun xs H Q=>∃ p ys,xs=[.ref p]/\((gb X.K H p ys/\∀ l,H l=none->Q (.ref l) (upd H l (.tup ys)))\/(fN X.K H p ys/\Q (.ref p) H))):=by
 intro pins s σ H xs us Q I r h;obtain⟨p,ys,rfl,h⟩:=h;obtain⟨u,rfl,rx⟩:=vals1 r;cases rx;rcases h with⟨hq,q⟩ | ⟨hq,q⟩
 ·obtain⟨aV,r',pl,hz⟩:=I.list hq;have hlen:=r'.length;refine call_tuple_list pl.isList (fun h' kp=>?_) (by simp only[aay]<;>omega);have I1:Inv X pins σ H { s with heap:=h' }:=I.kept (t':=s.toks) kp;have I2:Inv X pins σ (upd H h'.objs.size (.tup ys)) { s with heap:=h'.push { cls:=.type "tuple",data:=.seq aV.toArray } } :=
   I1.laid (t':=s.toks) (fun b o e=>aal _ e) (aao _) (show cq X.prog X.w _ _ _ (.tup ys) from ⟨hz,aV,r',IsTup.new _ _⟩)
  exact⟨.ref h'.objs.size,_,I2,rfl,q _ (I1.cv.fresh (aao _))⟩
 ·obtain⟨aV,r',pl,hz⟩:=I.tuple hq;exact call_tuple_same pl ⟨.ref p,H,I,rfl,q⟩
def T2(K:zn)(T:String)(x:V)(H:Hp):Prop:=match x with
 | .str _=>T = "str"
 | .int _=>T = "int"
 | .ref p=>(T = "list"/\∃ xs,gb K H p xs)\/(T = "tuple"/\∃ o,K.lookup p=some o/\o.cls=.type "tuple"/\o.dict=none) \/
   (T = "dict"/\((∃ kvs,H p=some (.dK kvs))\/∃ kvs,H p=some (.dT kvs)))\/(T = "set"/\∃ S n,H p=some (.set S n))
 | _=>False
theorem LB{σ:St}{H:Hp}{T:String}{x:V}(I:Inv X pins σ H s)(r:RelV x v)(ty:T2 X.K T x H) :
  s.TypeIs v T/\∀ a,v=.ref a->∃ ob,s.heap.get? a=some ob/\ob.dict=none:=by
 cases x with
 | str z =>
  obtain⟨t,rfl⟩:=r;cases (show T = "str" from ty);exact⟨typeIs_str s z t,fun _ e=>nomatch e⟩
 | int i =>
  obtain⟨t,rfl⟩:=r;cases (show T = "int" from ty);exact⟨typeIs_int s i t,fun _ e=>nomatch e⟩
 | ref p =>
  cases r;rcases ty with⟨rfl,xs,hq⟩ | ⟨rfl,o,hk,hc,hd⟩ | ⟨rfl,hk⟩ | ⟨rfl,S,n,hk⟩
  ·obtain⟨aV,_,pl,_⟩:=I.list hq;refine⟨pl.isList.typeIs,fun a e=>?_⟩;cases e;obtain⟨o,n,e,c,hd,_⟩:=pl;exact⟨o,e,hd⟩
  ·refine⟨⟨o,I.l6 p o hk,hc⟩,fun a e=>?_⟩;cases e;exact⟨o,I.l6 _ o hk,hd⟩
  ·have z:∃ o,s.heap.get? p=some o/\o.ExactDict:=by
    rcases hk with⟨kvs,hk⟩ | ⟨kvs,hk⟩
    ·obtain⟨_,_,_,_,o,_,_,e,ex,_⟩:=I.cv p _ hk;exact⟨o,e,ex⟩
    ·obtain⟨_,_,_,_,o,_,_,e,ex,_⟩:=I.cv p _ hk;exact⟨o,e,ex⟩
   obtain⟨o,e,ex⟩:=z;refine⟨⟨o,e,ex.1⟩,fun a e2=>?_⟩;cases e2;exact⟨o,e,ex.2.1⟩
  ·obtain⟨o,_,_,_,e,ex,_⟩:=I.cv p _ hk;refine⟨⟨o,e,ex.1⟩,fun a e2=>?_⟩;cases e2;exact⟨o,e,ex.2.1⟩
 | _=>exact False.elim ty
def T3(K:zn)(T:String)(r:V->List V->Hp->VK->Prop)(to:TE)(t:TA):TE:=fun σ H Q=>to σ H fun x H1=>T2 K T x H1/\t σ H1 fun xs H2=>r x xs H2 Q
variable {o e:Expr}{es:v6}{to:TE}{t:TA}{name:Str}{apos gg:Pos}{T id:String}{r:V->List V->Hp->VK->Prop}
theorem Pt(pa:PlainAttrs T)(slot:Slot T name id)(T4:typeOf (.builtin id)=pure (.type "method_descriptor"))(hm:Sw X id r)(ho:PE X o to)(ha:PA X (e::es) t)(Cm:autoParam (attributeBase o name X.env (eval o X.env)=eval o X.env) ra0)(LC:((backTo gg (starEach (e::es) X.env)).all (fun x=>!x.1)&&(backToKw gg (keywordEach [] X.env)).all (fun x=>x.1.isSome)
   && decide ((e::es).length+([]:List Keyword).length+(if([]:List Keyword).isEmpty then 0 else 1) < 30))=true:=by rfl)(Cn:(apos.endLine == gg.line)=true:=by rfl)(hs:starEach (e::es) X.env=(false,eval e X.env)::starEach es X.env:=by rfl)(LD:(backTo gg (starEach es X.env)).any (·.1)=false:=by rfl) :
  PE X (.Call (.Attribute o name apos) (e::es) [] gg) (T3 X.K T r to t):=by
 intro pins s σ H Q I h;refine wpAny_Call_method_late Cm LC Cn rfl (cL (ho pins s σ H _ I h) fun v s1 ⟨x,H1,I1,r1,ty,q1⟩=>?_);obtain⟨h1,h2⟩:=LB I1 r1 ty;refine⟨T,id,pa,slot,T4,h1,h2,?_⟩;have hA:=ha gg pins s1 σ H1 _ I1 q1;rw[hs]at hA ⊢;refine Calls.callWith_builtin (by show(false||(backTo gg (starEach es X.env)).any (·.1))=false;rw[LD]<;>rfl) (Calls.evalArgs_plain ?_);exact cL hA fun us s2 ⟨vs,H2,I2,r2,q2⟩=>hm pins s2 σ H2 x vs v us Q I2 r1 r2 q2
end
def T5(X:Cx)(id:String)(r:V->List V->Hp->VK->Prop):Prop :=
 ∀(pins:yp) (s:Shared) (σ:St) (H:Hp) (x:V) (xs:List V) (v:Value) (us:wf) (Q:VK),Inv X pins σ H s->RelV x v->Vals xs us->r x xs H Q ->
  wpAny (model X.prog X.w) X.A (call (.builtin id) (v::us)) (EP X pins σ Q) X.xe s
theorem Vals.one:∀{x:V} {us:wf},Vals [x] us->∃ u,us=[u]/\RelV x u
 | _,_,.cons r .nil=>⟨_,rfl,r⟩
theorem Vals.two:∀{x y:V} {us:wf},Vals [x,y] us->∃ u v,us=[u,v]/\RelV x u/\RelV y v
 | _,_,_,.cons r (.cons q .nil)=>⟨_,_,rfl,r,q⟩
theorem Vals.eraseIdx:∀{xs:List V} {us:wf} (i:Nat),Vals xs us->Vals (xs.eraseIdx i) (us.eraseIdx i)
 | _,_,_,.nil=>.nil
 | _,_,0,.cons _ t=>t
 | _,_,i+1,.cons r t=>.cons r (Vals.eraseIdx i t)
theorem Vals.rep{xs:List V}{us:wf}(h:Vals xs us):∀ k:Nat,Vals (List.replicate k xs).flatten (List.replicate k us).flatten
 | 0=>.nil
 | k+1=>by
  rw[abC,abC,ab2,ab2];exact Vals.append h (Vals.rep h k)
theorem pN{α:Type}:∀(l:List α) (i:Nat),(l.eraseIdx i).length<=l.length
 | [],_=>aao _
 | _::_,0=>abB _
 | _::r,i+1=>Nat.succ_le_succ (pN r i)
theorem foldl_rep(aV:wf):∀(k:Nat) (acc:wf),
  List.foldl (fun x1 x2=>x1++x2) acc.toArray (List.replicate k aV.toArray)=(acc++(List.replicate k aV).flatten).toArray
 | 0,acc=>by simp
 | k+1,acc=>by
  have e:acc.toArray++aV.toArray=(acc++aV).toArray:=by simp
  have e2:(acc++aV)++(List.replicate k aV).flatten=acc++(List.replicate (k+1) aV).flatten:=by
   rw[abC,ab2,ac3]
  rw[<- e2,<- foldl_rep aV k (acc++aV),<- e,abC,List.foldl_cons]
section
variable {σ:St}{H:Hp}{l b:Addr}{ys zs:List V}
theorem Inv.Pu{its':wf}{f:Array Value->Array Value}{t':Nat}(I:Inv X pins σ H s)(hH:H l=some (.lst xs))(e:s.heap.get? l=some { cls:=.type "list",data:=.seq aV.toArray n })(hf:f aV.toArray=its'.toArray)(hv:Vals ys its')(hz:ys.length<=sizeLine) :
  Inv X pins σ (upd H l (.lst ys)) { s with heap:=s.heap.update l (Obj.mapSeq f),toks:=t' }:=by
 have q:=PySem.IsL.update e f;rw[hf]at q;refine I.write (x:=l) (e:=l) (by rw[hH];exact trivial) (.inl rfl) (fun b' u hb hu=>(ab7 s.heap (Obj.mapSeq f) (acf hb)).trans hu) ⟨_,q⟩ ?_;exact⟨hz,its',_,hv,q⟩
theorem Inv.Pw{t':Nat}(I:Inv X pins σ H s)(hv:Vals ys aV)(hz:ys.length<=sizeLine) :
  Inv X pins σ (upd H s.heap.objs.size (.lst ys)) { s with heap:=s.heap.push { cls:=.type "list",data:=.seq aV.toArray },toks:=t' } :=
 I.laid (fun _ _ q=>aal _ q) (aao _) ⟨hz,aV,0,hv,aau _ rfl⟩
theorem Inv.fresh(I:Inv X pins σ H s):H s.heap.objs.size=none:=I.cv.fresh (aao _)
theorem Inv.Co(I:Inv X pins σ H s)(hH:H l=some (.lst xs)):xs.length<=sizeLine/\∃(aV:wf) (n:Nat),Vals xs aV/\xs.length=aV.length/\s.heap.get? l=some { cls:=.type "list",data:=.seq aV.toArray n }:=by
 obtain⟨z,aV,n,r,e⟩:=I.cv l _ hH;exact⟨z,aV,n,r,r.length,e⟩
theorem Cp(h:n<=sizeLine):Builtin.List.listTooLong n=false:=by
 unfold Builtin.List.listTooLong;exact aat (by omega)
end
def yB:V->List V->Hp->VK->Prop:=fun x vs H Q=>∃ l xs y,x=.ref l/\vs=[y]/\H l=some (.lst xs)/\xs.length < sizeLine/\Q .dj (upd H l (.lst (xs++[y])))
theorem cY:T5 X "list.append" yB:=by
 intro pins s σ H x vs v us Q I rx rv h;obtain⟨l,xs,y,rfl,rfl,hH,hz,q⟩:=h;cases rx;obtain⟨u,rfl,ru⟩:=rv.one;obtain⟨z,aV,n,r,hl,e⟩:=I.Co hH;refine ads aaS ⟨_,e,rfl⟩ F.entry_list_append (F.args_list_append_2 _ _) (PySem.list_append l aV.toArray n u (by rw[aay];omega)) ⟨e,?_⟩;refine⟨.dj,_,I.Pu (its':=aV++[u]) hH e (by simp) (r.append (.cons ru .nil)) ?_,rfl,q⟩;rw[aaQ,List.length_singleton];omega
def Cq:V->List V->Hp->VK->Prop:=fun x vs H Q=>∃ l xs i k y,x=.ref l/\vs=[.int i]/\H l=some (.lst xs)/\-(2 ^ 63)<=i/\i < 2 ^ 63/\seqIndex? i xs.length=some k/\xs[k]?=some y/\Q y (upd H l (.lst (xs.eraseIdx k)))
theorem Cr:T5 X "list.pop" Cq:=by
 intro pins s σ H x vs v us Q I rx rv h;obtain⟨l,xs,i,k,y,rfl,rfl,hH,h1,h2,hk,hy,q⟩:=h;cases rx;obtain⟨u,rfl,ru⟩:=rv.one;obtain⟨t,rfl⟩:=ru;obtain⟨z,aV,n,r,hl,e⟩:=I.Co hH;obtain⟨w,hw,v7⟩:=r.get hy;refine ads F.slot_list_pop ⟨_,e,rfl⟩ F.entry_list_pop (F.args_list_pop_2 _ _)
  (MeetsSeq.list_pop_at l aV.toArray n i t k w (fitsIndex_both h1 h2) (by rw[aay,<- hl];exact hk) (by rw[<- abQ];exact hw) (by rw[aay];omega)) ⟨e,?_⟩
 refine⟨y,_,I.Pu (its':=aV.eraseIdx k) hH e ?_ (r.eraseIdx k) ?_,v7,q⟩
 ·show aV.toArray.eraseIdxIfInBounds k=(aV.eraseIdx k).toArray;rw[List.eraseIdxIfInBounds_toArray]
 ·have:=pN xs k;omega
def Px:R2:=fun x y H Q=>∃ l b xs zs,x=.ref l/\y=.ref b/\H l=some (.lst xs)/\H b=some (.lst zs)/\xs.length+zs.length<=sizeLine/\∀ p,H p=none->Q (.ref p) (upd H p (.lst (xs++zs)))
theorem Cs:iq X (binaryOp .Add) Px:=by
 intro pins s σ H x y v u Q I rx ry h;obtain⟨l,b,xs,zs,rfl,rfl,hH,hB,hz,q⟩:=h;cases rx;cases ry;obtain⟨z,aV,n,r,hl,e⟩:=I.Co hH;obtain⟨z2,wj,n2,r2,sQ,e2⟩:=I.Co hB;refine PySem.P.add_list e e2 ?_ (by rw[aay,aay];omega);have ea:aV.toArray++wj.toArray=(aV++wj).toArray:=by simp
 rw[ea];exact⟨.ref _,_,I.Pw (t':=s.toks) (r.append r2) (by rw[aaQ];omega),rfl,q _ I.fresh⟩
def Py:R2:=fun x y H Q=>∃ l k xs,x=.ref l/\y=.int k/\H l=some (.lst xs)/\-(2 ^ 63)<=k/\k < 2 ^ 63/\xs.length * k.toNat<=sizeLine /\
 ∀ p,H p=none->Q (.ref p) (upd H p (.lst (List.replicate k.toNat xs).flatten))
theorem len_rep(xs:List α)(k:Nat):(List.replicate k xs).flatten.length=k * xs.length:=by
 induction k with
 | zero=>simp
 | succ k ih=>rw[abC,ab2,aaQ,ih,Nat.succ_mul,Nat.add_comm]
theorem LF:iq X (binaryOp .Mult) Py:=by
 intro pins s σ H x y v u Q I rx ry h;obtain⟨l,k,xs,rfl,rfl,hH,h1,h2,hz,q⟩:=h;cases rx;obtain⟨t,rfl⟩:=ry;obtain⟨z,aV,n,r,hl,e⟩:=I.Co hH;have hlen:aV.toArray.size * k.toNat<=sizeLine:=by rw[aay,<- hl];exact hz
 have T6:¬ aV.toArray.size * k.toNat > (2 ^ 63 - 1) / 8:=by
  have:(sizeLine:Nat)<=(2 ^ 63 - 1) / 8:=by decide
  omega
 have T7:¬ (!Builtin.List.listFitsIndex k)=true:=by
  rw[fitsIndex_both h1 h2];exact aav
 have Pz:¬ Builtin.List.listTooLong (aV.toArray.size * k.toNat)=true:=by
  rw[Cp hlen];exact aav
 have T8:List.foldl (fun x1 x2=>x1++x2) #[] (List.replicate (if aV.toArray.isEmpty=true then 0 else k.toNat) aV.toArray)=(List.replicate k.toNat aV).flatten.toArray:=by
  have f0:∀ m:Nat,List.foldl (fun x1 x2=>x1++x2) #[] (List.replicate m aV.toArray)=(List.replicate m aV).flatten.toArray:=fun m=>by
   have:=foldl_rep aV m [];rw[adl]at this;exact this
  rw[f0];cases aV with
  | nil=>simp
  | cons a r'=>rw[aaA (by simp)]
 refine wpAny_binaryOp_repeat_ref (T := "list") (U := "int") (by decide) ⟨_,e,rfl⟩ (fun s'=>typeIs_int s' k t) noFill_list_mul F.fills_int_mul F.slot_int_rmul repeat_list F.slot_int_index.lookup
  (ads F.slot_int_rmul (typeIs_int s k t) F.entry_int_rmul (F.args_int_rmul_2 _ _) (int___rmul___int_list k t l aV.toArray n)
   ⟨e,rfl,⟨_,e,rfl⟩,ads F.slot_list_mul ⟨_,e,rfl⟩ F.entry_list_mul (F.args_list_mul_2 _ _) (AutoListH.list___mul___list_int_3 l aV.toArray n k t T7 T6 Pz) ⟨e,?_⟩⟩)
 rw[T8];exact⟨.ref _,_,I.Pw (t':=s.toks) (r.rep k.toNat) (by rw[len_rep,Nat.mul_comm];exact hz),rfl,q _ I.fresh⟩
section
variable {prog:u8}{w:World}{E:xz}
set_option maxRecDepth 100000 in
end
end L2
namespace Att
open PySem PySem.W PySem.Calls PyProof.Rows
theorem mz{P:Params}{h:Heap}:∀(ns:wn) (vs:wf),WellAll P h vs (ns.map WData.int)->IntsAre vs ns:=by
 intro ns;induction ns with
 | nil =>
  intro vs w;rw[acn]at w;cases w;exact .nil
 | cons n ns ih =>
  intro vs w;rw[aaz]at w;cases w with
  | cons a b =>
   cases a;exact .cons _ _ (ih _ b)
theorem Ak{l:OpenLaw}{n:Nat}(hn:l.most=some n){P:Params}{h:Heap}{args:List WData}{vals:wf}(GC:l.row.toRowW.claim.pre args=true)(T9:WellAll P h vals args) :
  ∃ a vs ns,vals=[Value.ref a]/\args=[WData.list (ns.map WData.int)]/\h.get? a=some { cls:=.type "list",data:=.seq vs.toArray }/\IntsAre vs ns/\ns.length<=n:=by
 have YU:WShape.hasAll [] args [.list .int]=true:=(pre_splitW GC).1;have hc:l.pre.holds [] { args:=args }=true:=(pre_splitW GC).2;obtain⟨d,r,rfl,h1,h2⟩:=hasAllW_cons YU;obtain rfl:=hasAllW_nil h2;obtain⟨xs,rfl,h3⟩:=hasW_list h1;obtain⟨ns,rfl⟩:=items_int h3;have hlen:ns.length<=n:=by
  unfold OpenLaw.pre at hc;have h4:(WTm.not (.lt (.lit (.int (n:Int))) (.len (.arg 0)))).holds [] { args:=[.list (ns.map .int)] }=true:=by
   have h4:=(holds_andW hc).1;rw[hn]at h4;exact h4
  have h5:=condW_of h4 (w_not (w_lt w_lit (w_len_list (w_arg rfl))));rw[aak]at h5;refine Nat.le_of_not_lt fun q=>?_;have q':(n:Int) < ((ns.length:Nat):Int):=by omega
  first
   | (rw[aa6 q']at h5;exact absurd h5 (by decide))
   | (simp at h5;omega)
 cases T9 with
 | cons w1 w2 =>
  cases w2;cases w1 with
  | list ho kr=>exact⟨_,_,ns,rfl,rfl,ho,mz ns _ kr,hlen⟩
theorem Al(l:OpenLaw)(args:List WData):l.row.toRowW.claim.post args (.bool true) args=true :=
 postW_of (r:=l.row.toRowW) (X:=(true == true))
  (show WShape.has [] (.bool true) .bool=true by first | rfl | decide | simp[WShape.has,WShape.arms,WShape.armsAll])
  (show(WTm.eq .res (.lit (.bool true))).value [] { args:=args,res:=some (.bool true),after:=args }=some (.bool (true == true)) from w_eq_bool (w_res rfl) w_lit) rfl
theorem tO{l:OpenLaw}{n:Nat}{q:u8}{loose:wv}{XP:(Str->wP)->Heap->Prop}{YP:World->Heap->Prop}{d:DefRec}(hn:l.most=some n)(PB:d.params.defaults=[])(call:∀(w:World) (bc bH:Shared) (mg mb:xL) (fa:Addr) (o:Obj) (pm cd doc:Value) (a:Addr) (vs:wf) (ns:wn),
   Ground q loose [] XP w bc mg mb bH.heap->YP w bH.heap ->
   bH.heap.get? fa=some o->o.data=.func (docDef d.name d.params d.body d.scope pm cd doc)->bH.heap.CodeRec cd d.name->mg d.name=some (.ref fa) ->
   bH.heap.get? a=some { cls:=.type "list",data:=.seq vs.toArray }->IntsAre vs ns->ns.length<=n->bH.gens=#[] ->
   codeAny (model l.prog w) callerA (.call (.ref fa) ⟨[.ref a],[]⟩) (fun r s'=>r=.ok (.ret (.bool true))/\OldK bH.heap s'.heap/\s'.os=bH.os/\AllBare s'.gens) bH) :
  WalkO q loose XP YP l.row.toRowW d [] (fun f vs=>PySem.call f vs):=by
 intro w bc bH mg mb G Y fa o pm cd doc dV kV ho hd zO hD PD hg args vals as GC YV hrd T9 Sz;obtain rfl:dV=.none:=Dflts.none hD PB;obtain rfl:kV=.none:=Dflts.noKw hD;obtain⟨a,vs,ns,rfl,rfl,LH,hints,hlen⟩:=Ak hn GC T9;refine enter_call (ab9 (call w bc bH mg mb fa o pm cd doc a vs ns G Y ho (fd_plain hd) zO PD LH hints hlen hg) fun r s' hq=>?_);obtain⟨rfl,h2,h3,h4⟩:=hq;exact⟨.inl ⟨.bool true,.bool true,[],rfl,fun _=>rfl,.bool true,Al l _,fun _=>⟨List.Pairwise.nil,fun _ hm=>(nomatch hm)⟩⟩,h2,h3,h4⟩
end Att
namespace L2
open PySem PySem.Spec PyProof.Rows
variable {fd:wT}{x:Str}
theorem pO:∀{vs:wf} {ns:wn},IntsAre vs ns->Vals (ns.map V.int) vs
 | _,_,.nil=>.nil
 | _,_,.cons n t h=>.cons ⟨t,rfl⟩ (pO h)
def LJ(H:Hp):Prop:=∀ b,H b=none\/∃ o xs,H b=some (.jV o (.lst xs))
theorem Ct{P:u8}{w:World}{K:zn}{mg mb:xL}{CX:Ab}{k:Nat}{fa a:Addr}{sp:Sp}{bH:Shared}{vs:wf}{ns:wn}(KX:K.In bH.heap)(WQ:bH.heap.Ns mainGlobals mg)(hb:bH.heap.Ns builtinsNs mb)(YW:∀ x:Str,x ≠ "__name__"->mb x=bootBuiltins x)(Ua:bH.heap.NoLimit)(hg:bH.gens=#[])(ha:bH.heap.get? a=some { cls:=.type "list",data:=.seq vs.toArray })(hi:IntsAre vs ns)(hl:ns.length<=sizeLine)(hr:cT k callerA)(F:∀ base:Heap,K.In base->base.Ns mainGlobals mg->ba P w K mg base CX k fa fd [x] sp)(PF:∀(s:Shared) (u:Value),BindsTo s fd ⟨[u],[]⟩ [(x,u)])(vY:∀ H:Hp,LJ H->gb K H a (ns.map V.int)->sp [.ref a] H (fun v _=>v=.bl true) fun _ _ _=>False)(Ub:∀ H e s',CX [] H bH (fun _ _ _=>False) e s'->False) :
  codeAny (model P w) callerA (.call (.ref fa) ⟨[.ref a],[]⟩) (fun r s'=>r=.ok (.ret (.bool true))/\OldK bH.heap s'.heap/\s'.os=bH.os/\AllBare s'.gens) bH:=by
 have rv:=pO hi;have Uc:=hi.length
 -- from an abstract heap in WR nothing but Ox LK may be tracked
 have core:∀ H:Hp,LJ H->gb K H a (ns.map V.int)->eC P w H bH.heap->(∀ b,H b≠none->b=a)->(H a≠none->K.lookup a=none) ->
   codeAny (model P w) callerA (.call (.ref fa) ⟨[.ref a],[]⟩) (fun r s'=>r=.ok (.ret (.bool true))/\OldK bH.heap s'.heap/\s'.os=bH.os/\AllBare s'.gens) bH:=by
  intro H hO hS cv hA hK;have yC:∀{b:Addr} {o:Obj},bH.heap.get? b=some o->H b=none->(qC bH.heap H).get? b=some o:=fun e n=>By e n;have Pe:∀{b:Addr} {o:Obj} {es:Array DictEntry} {ep:Nat},bH.heap.get? b=some o->o.data=.dict es ep->H b=none:=fun{b o es ep} e d=>by
   cases q:H b with
   | none=>rfl
   | some u =>
    have e':b=a:=hA b (by rw[q];simp);subst e';rw[ha]at e;cases e;have d':Data.seq vs.toArray _=Data.dict es ep:=d;cases d'
  have SD:∀{b:Addr} {m:xL},bH.heap.Ns b m->(qC bH.heap H).Ns b m:=fun{b m} ⟨o,es,ep,e,d,r⟩=>⟨o,es,ep,yC e (Pe e d),d,r⟩;have WS:K.In (qC bH.heap H):=fun b o e=>yC (KX b o e) (by
   cases q:H b with
   | none=>rfl
   | some u =>
    have e':b=a:=hA b (by rw[q];simp);subst e';rw[hK (by rw[q];simp)]at e;cases e)
  have hM:Mod K mg (qC bH.heap H):=⟨WS,SD WQ,⟨mb,SD hb,YW⟩,let ⟨mc,h1,h2⟩:=Ua;⟨mc,SD h1,h2⟩⟩;have e0:vV P w K mg (qC bH.heap H) callerA [] bH H:=⟨rfl,hM,fun b o e=>FV e,ab8 (zM _ _),trivial,fun b hb=>absurd (show b∈([]:ww) from hb) (by simp),cv,.of_eq hg⟩;refine ab9 ((F _ WS (SD WQ)).run callerA [] bH H ⟨[.ref a],[]⟩ [.ref a] [.ref a] _ _ hr e0 (PF bH (.ref a)) (.cons rfl .nil) (vY H hO hS)) fun r s' h=>?_;cases r with
  | error e=>exact(Ub H e s' h).elim
  | ok fl =>
   cases fl with
   | next=>exact False.elim h
   | brk=>exact False.elim h
   | cont=>exact False.elim h
   | ret u =>
    obtain⟨v,H',os,bare,un,Ud,r',q⟩:=h;have q':v=.bl true:=q;subst q';obtain rfl:u=Value.bool true:=r';refine⟨rfl,OldK.of_keep fun b o e=>?_,os,bare⟩;cases q:H b with
    | none=>exact un.keep b o e q (by intro z;exact absurd (show b∈([]:ww) from z) (by simp)) (by simp)
    | some u =>
     rcases hO b with z | ⟨ob,xs,z⟩
     ·rw[q]at z;cases z
     ·have z2:=un.o8 b ob _ z;obtain⟨e1,_⟩:=cv b _ z;obtain⟨e2,_⟩:=Ud b _ z2;rw[e]at e1;cases e1;exact e2
 cases hk:K.lookup a with
 | some o =>
  -- Ox LK is one of Ox PH own objects
  have e:=KX a o hk;rw[ha]at e;cases e;refine core (fun _=>none) (fun _=>.inl rfl) (.inr ⟨_,vs.toArray,_,hk,rfl,rfl,rfl,by rw[aay,Uc];exact hl,by simpa using rv⟩) (fun b u z=>by have z':(none:Option HO)=some u:=z;cases z') (fun b z=>absurd rfl z) fun z=>absurd rfl z
 | none =>
  refine core (fun b=>if b=a then some (.jV { cls:=.type "list",data:=.seq vs.toArray } (.lst (ns.map V.int)))else none) (fun b=>?_) (.inl (.inr ⟨{ cls:=.type "list",data:=.seq vs.toArray },aaE rfl⟩)) (fun b u z=>?_) (fun b z=>?_) fun _=>hk
  ·by_cases hb:b=a
   ·exact .inr ⟨_,_,aaE hb⟩
   ·exact .inl (aaA hb)
  ·by_cases hb:b=a
   ·have z':=(aaE hb).symm.trans z;cases z';subst hb;exact⟨ha,by rw[aak];exact hl,vs,_,rv,ha⟩
   ·have z':=(aaA hb).symm.trans z;cases z'
  ·by_cases hb:b=a
   ·exact hb
   ·exact absurd (aaA hb) z
theorem GD{l:PySem.W.OpenLaw}{n k:Nat}{q:u8}{loose:wv}{XP:(Str->wP)->Heap->Prop}{YP:World->Heap->Prop}{d:DefRec}{K:Params->zn}{CX:World->Ab}{sp:World->Sp}(hn:l.most=some n)(Gk:n<=sizeLine)(PB:d.params.defaults=[])(hr:cT k callerA)(hY:∀(w:World) (h:Heap),YP w h->(K w.params).In h)(F:∀(w:World) (mg:xL) (fa:Addr) (h:Heap),(K w.params).In h->h.Ns mainGlobals mg->mg d.name=some (.ref fa) ->
   ∃ fd:wT,(∀(s:Shared) (u:Value),BindsTo s fd ⟨[u],[]⟩ [(x,u)]) /\
    ∀ base:Heap,(K w.params).In base->base.Ns mainGlobals mg->ba l.prog w (K w.params) mg base (CX w) k fa fd [x] (sp w))(vY:∀(w:World) (H:Hp) (a:Addr) (ns:wn),ns.length<=n->LJ H->gb (K w.params) H a (ns.map V.int)->sp w [.ref a] H (fun v _=>v=.bl true) fun _ _ _=>False)(Ub:∀(w:World) (H:Hp) (s:Shared) (e:Value) (s':Shared),CX w [] H s (fun _ _ _=>False) e s'->False) :
  PySem.W.WalkO q loose XP YP l.row.toRowW d [] (fun f vs=>PySem.call f vs):=by
 refine Att.tO hn PB fun w bc bH mg mb fa o pm cd doc a vs ns G Y ho hd zO PD LH hints hlen hg=>?_;have KX:=hY w _ Y;obtain⟨fd,hb,hF⟩:=F w mg fa _ KX G.T.g PD;exact Ct KX G.T.g G.T.b G.T.builtins G.T.nolimit hg LH hints (aaq hlen Gk) hr hF hb (fun H hO hS=>vY w H a ns hlen hO hS) fun H e s'=>Ub w H bH e s'
abbrev cU:Ab:=fun _ _ _ _ _ _=>False
abbrev E0:XK:=fun _ _ _=>False
theorem yD{X:Cx}:Passes cU X E0:=fun _ _ _ _ _ _ _ h=>h.elim
structure cM(K:zn)(x qual:Str)(st:Stmt)(f:Addr)(fd:wT):Prop where
 ex:∃(oc:Value) (od:wS) (kV doc pm:Value) (an:wS) (bz ct:Value) (vX:Array wP),
  fd=PySem.W.fnOf x qual (defArgs st) (defBody st) (defScope st) .none kV doc pm an bz ct/\K.lookup f=some ⟨oc,od,.func fd,vX⟩/\PySem.W.codeIn K bz qual=true
 kp:PySem.W.keepIn K (.ref f)=true
section
variable {P:u8}{w:World}{K:zn}{mg:xL}{base:Heap}
theorem cM.ok{qual:Str}{st:Stmt}{f:Addr}{N ps:wv}{k:Nat}{sp:Sp}(F:cM K x qual st f fd)(S:aB N ps (defScope st))(len:∀ vs H Q E,sp vs H Q E->vs.length=ps.length)(dJ:∀(bz:Value) (A:tx) (outer:List Env) (s:Shared) (H:Hp) (vs:List V) (Q:VK) (E:XK),cT k (A.deeper (envOfC qual (defScope st) s.heap.objs.size f bz))->sp vs H Q E ->
   ∃ t,yi (gf cU P w K mg base N qual (defScope st) f bz A outer s H E).zQ (defBody st) t/\t { nx:=fun _ H'=>Q .dj H',rt:=Q } (start N vs) H):ba P w K mg base cU (k+1) f fd ps sp:=by
 obtain⟨oc,od,kV,doc,pm,an,bz,ct,vX,rfl,lk,zO⟩:=F.ex;refine IT lk zO S len fun A outer s H vs Q E hr vY=>?_;obtain⟨t,h,q⟩:=dJ bz A outer s H vs Q E hr vY;exact⟨t,h.zQ,q⟩
theorem cM.binds{qual:Str}{st:Stmt}{f:Addr}{ps:wv}(F:cM K x qual st f fd)(h:∀(kV doc pm:Value) (an:wS) (bz ct:Value) (us:wf),us.length=ps.length->bindArgs (PySem.W.fnOf x qual (defArgs st) (defBody st) (defScope st) .none kV doc pm an bz ct) ⟨us,[]⟩=pure (ps.zip us)):Binds K fd ps []:=by
 obtain⟨oc,od,kV,doc,pm,an,bz,ct,vX,rfl,lk,zO⟩:=F.ex;exact .all (h kV doc pm an bz ct)
theorem ly{qual:Str}{st:Stmt}{f:Addr}{oc:Value}{od an:wS}{vX:Array wP}{kV doc pm bz ct:Value}(l:K.lookup f=some ⟨oc,od,.func (PySem.W.fnOf x qual (defArgs st) (defBody st) (defScope st) .none kV doc pm an bz ct),vX⟩)(c:PySem.W.codeIn K bz qual=true)(k:PySem.W.keepIn K (.ref f)=true):cM K x qual st f (PySem.W.fnOf x qual (defArgs st) (defBody st) (defScope st) .none kV doc pm an bz ct):=⟨⟨oc,od,kV,doc,pm,an,bz,ct,vX,rfl,l,c⟩,k⟩
end
theorem IW{A:tx}{k:Nat}(hr:cT k A):A.units+1 < cLine:=acv (Nat.add_le_add_left (by decide:1<=64) _) hr.units
theorem dR{n:Nat}(h:n<=1000):n < sizeLine:=acv h (by decide)
def aT(H H':Hp):Prop:=∀ b o,H b=some o->H' b=some o
theorem aT.refl(H:Hp):aT H H:=fun _ _ h=>h
theorem aT.trans{H H1 H2:Hp}(a:aT H H1)(b:aT H1 H2):aT H H2:=fun c o h=>b c o (a c o h)
theorem aT.seq{K:zn}{H H':Hp}{a:Addr}{xs:List V}(e:aT H H')(h:gb K H a xs):gb K H' a xs:=by
 rcases h with(h | ⟨o,h⟩) | h
 ·exact .inl (.inl (e _ _ h))
 ·exact .inl (.inr ⟨o,e _ _ h⟩)
 ·exact .inr h
end L2
set_option maxHeartbeats 4000000
namespace L2
open PySem PySem.Spec PyProof.Rows
variable {H:Hp}{w:World}
def PJ(i j:Int):Prop:=0 < j/\j < 2 ^ 64
theorem log2_small{n:Nat}(h:n < 2 ^ 64):n.log2 < 9000:=by
 by_cases h0:n=0
 ·subst h0;decide
 ·exact aaD ((Nat.log2_lt h0).mpr h) (by decide)
theorem tP{X:Cx}:iq X (binaryOp .FloorDiv) (rI PJ fun i j=>.int (i / j)):=Sr fun i j _ _ _ _ _ hc q=>by
 have h1:(0:Int) < j:=hc.1;have h2:j < 2 ^ 64:=hc.2;exact floordiv_int (by omega) (by rw[Int.fdiv_eq_ediv_of_nonneg i (by omega)];exact q) (.inl (PyProof.noPylong_of_log2 (log2_small (by omega))))
mutual
def Rep(H:Hp):PyData->V->Prop
 | .none,v=>v=.dj
 | .bool b,v=>v=.bl b
 | .int i,v=>v=.int i
 | .str x,v=>v=.str x
 | .list ds,v=>∃ a xs,v=.ref a/\H a=some (.lst xs)/\az H ds xs
 | .tuple ds,v=>∃ a xs,v=.ref a/\H a=some (.tup xs)/\az H ds xs
 | .dict _,_=>False
def az(H:Hp):wE->List V->Prop
 | [],xs=>xs=[]
 | d::ds,xs=>∃ y ys,xs=y::ys/\Rep H d y/\az H ds ys
end
mutual
theorem Rep.mono{H H':Hp}(s:aT H H'):∀{d:PyData} {v:V},Rep H d v->Rep H' d v
 | .none,_,h=>h
 | .bool _,_,h=>h
 | .int _,_,h=>h
 | .str _,_,h=>h
 | .list _,_,⟨a,xs,e,h,r⟩=>⟨a,xs,e,s a _ h,az.mono s r⟩
 | .tuple _,_,⟨a,xs,e,h,r⟩=>⟨a,xs,e,s a _ h,az.mono s r⟩
 | .dict _,_,h=>h
theorem az.mono{H H':Hp}(s:aT H H'):∀{ds:wE} {xs:List V},az H ds xs->az H' ds xs
 | [],_,h=>h
 | _::_,_,⟨y,ys,e,r,rs⟩=>⟨y,ys,e,Rep.mono s r,az.mono s rs⟩
end
theorem az.length{H:Hp}:∀{ds:wE} {xs:List V},az H ds xs->ds.length=xs.length
 | [],_,h=>by cases h;rfl
 | _::_,_,⟨_,_,e,_,rs⟩=>by subst e;simp[rs.length]
theorem az.get{H:Hp}:∀{ds:wE} {xs:List V} {i:Nat} {d:PyData},az H ds xs->ds[i]?=some d->∃ x,xs[i]?=some x/\Rep H d x
 | [],_,_,_,_,e=>by simp at e
 | _::_,_,0,_,⟨y,ys,e1,r,_⟩,e=>by simp at e;subst e e1;exact⟨y,rfl,r⟩
 | _::_,_,i+1,d,⟨y,ys,e1,_,rs⟩,e=>by
  obtain⟨x,h1,h2⟩:=az.get (i:=i) (d:=d) rs (by simpa using e);subst e1;exact⟨x,by simpa using h1,h2⟩
mutual
theorem Rep.reads{P:u8}{w:World}{H:Hp}{h:Heap}(ok:eC P w H h):∀{d:PyData} {v:V} {u:Value},Rep H d v->RelV v u->∃ as,Reads h u d as
 | .none,_,_,e,r=>by cases e;cases (show _=Value.none from r);exact⟨_,.none⟩
 | .bool b,_,_,e,r=>by cases e;cases (show _=Value.bool b from r);exact⟨_,.bool b⟩
 | .int i,_,_,e,r=>by cases e;obtain⟨t,rfl⟩:=(show ∃ t,_=Value.int i t from r);exact⟨_,.int i t⟩
 | .str x,_,_,e,r=>by cases e;obtain⟨t,rfl⟩:=(show ∃ t,_=Value.str x t from r);exact⟨_,.str x t⟩
 | .list ds,_,_,⟨a,xs,e,hh,rs⟩,r=>by
  subst e;cases (show _=Value.ref a from r);obtain⟨_,aV,n,rv,ho⟩:=(show cq P w H h a (.lst xs) from ok a _ hh);obtain⟨as,q⟩:=az.reads ok rs rv;exact⟨_,.list ho rfl rfl q⟩
 | .tuple ds,_,_,⟨a,xs,e,hh,rs⟩,r=>by
  subst e;cases (show _=Value.ref a from r);obtain⟨_,aV,rv,o,ho,hc,n,hd⟩:=(show cq P w H h a (.tup xs) from ok a _ hh);obtain⟨as,q⟩:=az.reads ok rs rv;exact⟨_,.tuple ho hc hd q⟩
 | .dict _,_,_,e,_=>e.elim
theorem az.reads{P:u8}{w:World}{H:Hp}{h:Heap}(ok:eC P w H h):∀{ds:wE} {xs:List V} {us:wf},az H ds xs->Vals xs us->∃ as,ReadsAll h us ds as
 | [],_,_,e,r=>by cases e;cases r;exact⟨_,.nil⟩
 | d::ds,_,us,⟨y,ys,e,hr,hs⟩,r=>by
  subst e;cases r with
  | cons r1 r2 =>
   obtain⟨as,q⟩:=Rep.reads ok hr r1;obtain⟨bs,q'⟩:=az.reads ok hs r2;exact⟨_,.cons q q'⟩
end
section
variable {X:Cx}
def PK:R2:=fun x y H Q=>∃ d1 d2:PyData,Rep H d1 x/\Rep H d2 y/\d1.canLay0=true/\d2.canLay0=true/\min d1.depth d2.depth<=64/\Q (.bl (PyData.eqv d1 d2)) H
def PL:R2:=fun x y H Q=>∃ d1 d2:PyData,Rep H d1 x/\Rep H d2 y/\d1.canLay0=true/\d2.canLay0=true/\min d1.depth d2.depth<=64/\Q (.bl (!PyData.eqv d1 d2)) H
theorem LL(hu:X.A.units+64 < cLine):iq X (compareOp .Eq) PK:=by
 intro pins s σ H x y v u Q I rx ry ⟨d1,d2,r1,r2,c1,c2,hd,q⟩;obtain⟨as,q1⟩:=r1.reads I.cv rx;obtain⟨bs,q2⟩:=r2.reads I.cv ry;exact SeqAt.rcAt_reads q1 q2 c1 c2 (by omega) _ _ _ _ ⟨.bl _,H,I,rfl,q⟩
theorem LM(hu:X.A.units+64 < cLine):iq X (compareOp .NotEq) PL:=by
 intro pins s σ H x y v u Q I rx ry ⟨d1,d2,r1,r2,c1,c2,hd,q⟩;obtain⟨as,q1⟩:=r1.reads I.cv rx;obtain⟨bs,q2⟩:=r2.reads I.cv ry;exact SeqAt.rcNeAt_reads q1 q2 c1 c2 (by omega) _ _ _ _ ⟨.bl _,H,I,rfl,q⟩
theorem tQ:fO X (.builtin "isinstance") (fun xs H Q=>∃ x T t b,xs=[x,.ty T]/\kn X.K H x t/\PySem.W.kitOne X.K t (.type T)=some b/\Q (.bl b) H):=by
 intro pins s σ H xs us Q I rv ⟨x,T,t,b,e,ty,hk,q⟩;subst e;obtain⟨u,w',rfl,r1,r2⟩:=vals2 rv;cases (show w'=Value.type T from r2);exact Aa I r1 ty hk fun tk=>⟨.bl _,H,I.tok tk,rfl,q⟩
end
section
variable {prog:u8}{A:tx}{E:xz}{s:Shared}
theorem kA{it l:Addr}{i:Nat}{items}{x:Value}{Q:xz}(hit:s.heap.IsTupleIter it l i)(hl:s.heap.IsTuple l items)(hx:items[i]?=some x)(hQ:∀ h',h'.IsTupleIter it l (i+1)->Heap.SameBut it s.heap h'->Q x { s with heap:=h' }) :
  wpAny (model prog w) A (Builtin.SmallTypes.nextOf (.ref it)) Q E s:=by
 obtain⟨o,ho,hc,hd⟩:=id hit;obtain⟨ol,IY,_,nl,Ue⟩:=hl;unfold Builtin.SmallTypes.nextOf;refine aaj (aa9 (name:=Str.ofString "__next__") hit.typeIs abM
  (abe abM hit.typeIs F.entry_tuple_iterator_next ?_ (F.args_tuple_iterator_next_1 _)))
 show wpAny _ _ (field (.ref it) 0 >>= _) _ _ s;refine aaj (abq ho hd (x:=.ref l) rfl ?_);show wpAny _ _ (if(Value.ref l == Value.none)=true then _ else _) _ _ s;rw[aaA (show ¬ ((Value.ref l == Value.none)=true) from aav)];show wpAny _ _ (field (.ref it) 1 >>= _) _ _ s;refine aaj (abq ho hd (x:=.int i 0) rfl ?_);show wpAny _ _ (seqItems? (.ref l) >>= _) _ _ s;refine aaj (abU IY Ue ?_);simp only[aaY,hx];refine aaj (abV ho hd (by simp) (aam ⟨x,rfl,aam (hQ _ ?_ (aaW ..))⟩));exact⟨_,aa7 _ ho (abR (aa3 hd _)),(acB ..).trans hc,by
  rw[aa3 hd];simp[rawInt]⟩
theorem lz{it l:Addr}{i:Nat}{items}{Q:xz}(hh:A.handled=none)(hit:s.heap.IsTupleIter it l i)(hl:s.heap.IsTuple l items)(hx:items[i]?=none)(hE:∀ h' e,Heap.ExtBut it s.heap h'->(∃ o,h'.get? e=some o/\o.cls=.type "StopIteration")->E (.ref e) { s with heap:=h' }) :
  wpAny (model prog w) A (Builtin.SmallTypes.nextOf (.ref it)) Q E s:=by
 obtain⟨o,ho,hc,hd⟩:=id hit;obtain⟨ol,IY,_,nl,Ue⟩:=hl;unfold Builtin.SmallTypes.nextOf;refine aaj (aa9 (name:=Str.ofString "__next__") hit.typeIs abM
  (abe abM hit.typeIs F.entry_tuple_iterator_next ?_ (F.args_tuple_iterator_next_1 _)))
 show wpAny _ _ (field (.ref it) 0 >>= _) _ _ s;refine aaj (abq ho hd (x:=.ref l) rfl ?_);show wpAny _ _ (if(Value.ref l == Value.none)=true then _ else _) _ _ s;rw[aaA (show ¬ ((Value.ref l == Value.none)=true) from aav)];show wpAny _ _ (field (.ref it) 1 >>= _) _ _ s;refine aaj (abq ho hd (x:=.int i 0) rfl ?_);show wpAny _ _ (seqItems? (.ref l) >>= _) _ _ s;refine aaj (abU IY Ue ?_);simp only[aaY,hx];refine aaj (acp (aaj (abV ho hd (by simp) ?_)));show wpAny _ _ (newExc (.type "StopIteration") [] >>= _) _ _ _;refine aaj ?_;simp only[newExc,newTuple];refine aaj (abb ?_ (by size_fits));refine aaj (m:=firstArgMember _ _) (wpAny_of_eq (a:=Value.none) (by first | rfl | (simp only[firstArgMember];rfl)) ?_);refine abb ?_ (by size_fits);simp only[raiseNew];refine aaj (wpAny_handled ?_)
 first | rw[show A.in1.handled=none from hh] | rw[hh]
 refine aaj (aam (wpAny_throw ?_));exact hE _ _ (((aaW ..).extBut.push _).push _) ⟨_,aau _ rfl,rfl⟩
end
end L2
namespace L2
open PySem PySem.Spec PyProof.Rows
variable {prog P:u8}{w:World}{A:tx}{E:xz}{s:Shared}{z i1 i2 l1 l2 a:Addr}{k1 k2:Nat}{An mx:Heap->Nat->wP->Prop}{yE pG:Nat->Heap->Prop}{b:Value}{X:Cx}{pins:yp}{H:Hp}{pos:Pos}
structure Nx(prog:u8)(w:World)(it l:Addr)(has:Heap->Nat->wP->Prop)(st:Nat->Heap->Prop):Prop where
 obj:∀ i h,st i h->∃ o,h.get? it=some o/\∀ v,o.data≠.cell v
 keep:∀ i h h',st i h->(∀ o,h.get? it=some o->h'.get? it=some o)->st i h'
 nS:∀ i x h h',has h i x->(∀ o,h.get? l=some o->h'.get? l=some o)->has h' i x
 item:∀(A:tx) (E:xz) (i:Nat) (s:Shared) (x:Value) (Q:xz),st i s.heap->has s.heap i (some x) ->
  (∀ h',st (i+1) h'->Heap.SameBut it s.heap h'->Q x { s with heap:=h' })->wpAny (model prog w) A (Builtin.SmallTypes.nextOf (.ref it)) Q E s
 done:∀(A:tx) (E:xz) (i:Nat) (s:Shared) (Q:xz),A.handled=none->st i s.heap->has s.heap i none ->
  (∀ h' e,Heap.ExtBut it s.heap h'->(∃ o,h'.get? e=some o/\o.cls=.type "StopIteration")->E (.ref e) { s with heap:=h' })->wpAny (model prog w) A (Builtin.SmallTypes.nextOf (.ref it)) Q E s
def PM(l:Addr)(h:Heap)(i:Nat)(x:wP):Prop:=∃ aV:Array Value,h.IsList l aV/\aV[i]?=x
def PN(l:Addr)(h:Heap)(i:Nat)(x:wP):Prop:=∃ aV:Array Value,h.IsTuple l aV/\aV[i]?=x
theorem GF(it l:Addr):Nx prog w it l (PM l) (fun i h=>h.IsListIter it l i) where
 obj:=fun i h st=>by
  obtain⟨o,e,c,d⟩:=st;exact⟨o,e,fun v z=>by rw[d]at z;cases z⟩
 keep:=fun i h h' st k=>st.at k
 nS:=fun i x h h' ⟨aV,hl,e⟩ k=>⟨aV,hl.at k,e⟩
 item:=fun A E i s x Q st ⟨aV,hl,e⟩ hQ=>wpAny_nextOf_list_item st hl e hQ
 done:=fun A E i s Q hh st ⟨aV,hl,e⟩ hE=>wpAny_nextOf_list_end hh st hl e hE
theorem LN(it l:Addr):Nx prog w it l (PN l) (fun i h=>h.IsTupleIter it l i) where
 obj:=fun i h st=>by
  obtain⟨o,e,c,d⟩:=st;exact⟨o,e,fun v z=>by rw[d]at z;cases z⟩
 keep:=fun i h h' ⟨o,e,c⟩ k=>⟨o,k _ e,c⟩
 nS:=fun i x h h' ⟨aV,⟨o,e1,c⟩,e⟩ k=>⟨aV,⟨o,k _ e1,c⟩,e⟩
 item:=fun A E i s x Q st ⟨aV,hl,e⟩ hQ=>kA st hl e hQ
 done:=fun A E i s Q hh st ⟨aV,hl,e⟩ hE=>lz hh st hl e hE
theorem Am{TI TO:Addr}{x y a:Value}{Q:xz}(D:ZipApart z TI TO i1 i2 l1 l2)(N1:Nx prog w i1 l1 An yE)(N2:Nx prog w i2 l2 mx pG)(hz:IsZip s.heap z TI TO .none)(tR:IsPair s.heap TI (.ref i1) (.ref i2))(vB:IsPair s.heap TO a b)(h1:yE k1 s.heap)(h2:pG k2 s.heap)(hx:An s.heap k1 (some x))(hy:mx s.heap k2 (some y))(hQ:∀ h',IsZip h' z TI TO (rawInt s.heap.objs.size)->IsPair h' TO x y->yE (k1+1) h'->pG (k2+1) h'->IsPair h' s.heap.objs.size x y->h'.objs.size=s.heap.objs.size+1 ->
   (∀ c o,c≠z->c≠TO->c≠i1->c≠i2->s.heap.get? c=some o->h'.get? c=some o)->Q (.ref s.heap.objs.size) { s with heap:=h' }) :
  wpAny (model prog w) A (Builtin.«zip.__next__» ⟨[.ref z],[]⟩) (fun fin s'=>∃ v,fin=.done (.ret v)/\Q v s') E s:=by
 show wpAny _ _ (field (.ref z) 2 >>= _) _ _ _;refine aaj (abq hz rfl (x:=.bool false) rfl ?_);show wpAny _ _ (field (.ref z) 3 >>= _) _ _ _;refine aaj (abq hz rfl (x:=.ref TI) rfl ?_);refine aaj (abU tR rfl ?_);show wpAny _ _ (Builtin.SmallTypes.ownedTupleIsFree (.ref z) >>= _) _ _ _;refine aaj ?_;unfold Builtin.SmallTypes.ownedTupleIsFree;refine aaj (abq hz rfl (x:=.none) rfl (aam ?_));simp only[acu];refine aaj (acp ?_);refine aaj (abq hz rfl (x:=.ref TO) rfl ?_);refine aaj (abS hz (by simp) fun fQ mf dM=>?_);replace mf:IsZip fQ z TI TO .ellipsis:=mf;refine aaj ?_;simp only[List.zipIdx_cons,List.zipIdx_nil,adm,adu];refine aaj (aaj (ade ?_));show wpAny _ _ (Builtin.SmallTypes.nextOf (.ref i1) >>= _) _ _ _;refine aaj (N1.item _ _ k1 { s with heap:=fQ } x _ (N1.keep _ _ _ h1 fun o e=>dM.extBut _ _ D.i1z e) (N1.nS _ _ _ _ hx fun o e=>dM.extBut _ _ D.l1z e) fun iL IZ fT=>aam ?_);have nT:IsPair iL TO a b:=fT.extBut _ _ D.TOi1 (dM.extBut _ _ D.TOz vB);refine aaj (abU nT rfl ?_);refine aaj (acL nT fun nM qT gS=>?_);replace qT:IsPair nM TO x b:=qT;refine aaj (wpAny_letGo (aam ?_));refine aaj (aaj (ade ?_));show wpAny _ _ (Builtin.SmallTypes.nextOf (.ref i2) >>= _) _ _ _;refine aaj (N2.item _ _ k2 { s with heap:=nM } y _ (N2.keep _ _ _ h2 fun o e=>gS.extBut _ _ D.TOi2.symm (fT.extBut _ _ D.i12.symm (dM.extBut _ _ D.i2z e)))
  (N2.nS _ _ _ _ hy fun o e=>gS.extBut _ _ D.l2TO (fT.extBut _ _ D.l2i1 (dM.extBut _ _ D.l2z e))) fun Cu PQ mh=>aam ?_)
 have Cv:IsPair Cu TO x b:=mh.extBut _ _ D.TOi2 qT;refine aaj (abU Cv rfl ?_);refine aaj (acL Cv fun iC nU mj=>?_);replace nU:IsPair iC TO x y:=nU;refine aaj (wpAny_letGo (aam (aam ?_)));refine aaj (abU nU rfl ?_);refine aaj (wpAny_newTuple ?_);have hsz:iC.objs.size=s.heap.objs.size:=by rw[mj.1,mh.1,gS.1,fT.1,dM.1]
 have I0:IsZip iC z TI TO .ellipsis:=mj.extBut _ _ D.TOz.symm (mh.extBut _ _ D.i2z.symm (gS.extBut _ _ D.TOz.symm (fT.extBut _ _ D.i1z.symm mf)));have PR:∀ c o,c≠z->c≠TO->c≠i1->c≠i2->s.heap.get? c=some o->iC.get? c=some o:=fun c o c1 c2 c3 c4 e =>
  mj.extBut _ _ c2 (mh.extBut _ _ c4 (gS.extBut _ _ c2 (fT.extBut _ _ c3 (dM.extBut _ _ c1 e))))
 have PU:yE (k1+1) iC:=N1.keep _ _ _ IZ fun o e=>mj.extBut _ _ D.TOi1.symm (mh.extBut _ _ D.i12 (gS.extBut _ _ D.TOi1.symm e));have PV:pG (k2+1) iC:=N2.keep _ _ _ PQ fun o e=>mj.extBut _ _ D.TOi2.symm e;have PX:z < iC.objs.size:=aar I0;have WU:TO < iC.objs.size:=aar nU;show wpAny _ _ (Builtin.SmallTypes.ownedTupleHandOut (.ref z) (.ref iC.objs.size) >>= _) _ _ _;refine aaj ?_;unfold Builtin.SmallTypes.ownedTupleHandOut;have PY:IsZip (iC.push { cls:=.type "tuple",data:=.seq #[x,y] }) z TI TO .ellipsis:=aal _ I0;refine aaj (abS PY (by simp) fun Ug Cw Cy=>?_);replace Cw:IsZip Ug z TI TO (rawInt iC.objs.size):=Cw;refine abS Cw (by simp) fun Cz yF CA=>?_;replace yF:IsZip Cz z TI TO (rawInt iC.objs.size):=yF;have up:∀ c o,c≠z->iC.get? c=some o->Cz.get? c=some o:=fun c o c1 e=>CA.extBut _ _ c1 (Cy.extBut _ _ c1 (aal _ e));have Ja:IsPair Cz iC.objs.size x y:=CA.extBut _ _ (abO PX) (Cy.extBut _ _ (abO PX) (aau _ rfl));have WV:Cz.objs.size=iC.objs.size+1:=by rw[CA.1,Cy.1,aba]
 rw[hsz]at yF Ja WV;refine aam ⟨_,rfl,?_⟩;show Q (.ref iC.objs.size) _;rw[hsz];exact hQ Cz yF (up _ _ D.TOz nU) (N1.keep _ _ _ PU fun o e=>up _ o D.i1z e) (N2.keep _ _ _ PV fun o e=>up _ o D.i2z e) Ja WV fun c o c1 c2 c3 c4 e=>up c o c1 (PR c o c1 c2 c3 c4 e)
theorem CB{TI TO:Addr}{a:Value}{Q:Fin->Shared->Prop}(hh:A.handled=none)(D:ZipApart z TI TO i1 i2 l1 l2)(N1:Nx prog w i1 l1 An yE)(N2:Nx prog w i2 l2 mx pG)(hz:IsZip s.heap z TI TO .none)(tR:IsPair s.heap TI (.ref i1) (.ref i2))(vB:IsPair s.heap TO a b)(h1:yE k1 s.heap)(h2:pG k2 s.heap)(tS:An s.heap k1 none\/(∃ x,An s.heap k1 (some x))/\mx s.heap k2 none)(hE:∀ h' e,(∀ c o,c≠z->c≠TO->c≠i1->c≠i2->s.heap.get? c=some o->h'.get? c=some o)->(∃ o,h'.get? e=some o/\o.cls=.type "StopIteration")->E (.ref e) { s with heap:=h' }) :
  wpAny (model prog w) A (Builtin.«zip.__next__» ⟨[.ref z],[]⟩) Q E s:=by
 show wpAny _ _ (field (.ref z) 2 >>= _) _ _ _;refine aaj (abq hz rfl (x:=.bool false) rfl ?_);show wpAny _ _ (field (.ref z) 3 >>= _) _ _ _;refine aaj (abq hz rfl (x:=.ref TI) rfl ?_);refine aaj (abU tR rfl ?_);show wpAny _ _ (Builtin.SmallTypes.ownedTupleIsFree (.ref z) >>= _) _ _ _;refine aaj ?_;unfold Builtin.SmallTypes.ownedTupleIsFree;refine aaj (abq hz rfl (x:=.none) rfl (aam ?_));simp only[acu];refine aaj (acp ?_);refine aaj (abq hz rfl (x:=.ref TO) rfl ?_);refine aaj (abS hz (by simp) fun fQ mf dM=>?_);replace mf:IsZip fQ z TI TO .ellipsis:=mf;refine aaj ?_;simp only[List.zipIdx_cons,List.zipIdx_nil,adm,adu];refine aaj (aaj (ade ?_));show wpAny _ _ (Builtin.SmallTypes.nextOf (.ref i1) >>= _) _ _ _;rcases tS with hx | ⟨⟨x,hx⟩,hy⟩
 ·refine aaj (N1.done _ _ k1 { s with heap:=fQ } _ hh (N1.keep _ _ _ h1 fun o e=>dM.extBut _ _ D.i1z e) (N1.nS _ _ _ _ hx fun o e=>dM.extBut _ _ D.l1z e) fun iL e fT he=>?_);obtain⟨oe,LP,PZ⟩:=he;have Jb:IsZip iL z TI TO .ellipsis:=fT _ _ D.i1z.symm mf;have Uh:e≠z:=fun x=>by subst x;rw[Jb]at LP;cases LP;simp at PZ
  refine abS Jb (by simp) fun nM _ gS=>hE nM e (fun c o c1 _ c3 _ x=>gS.extBut _ _ c1 (fT _ _ c3 (dM.extBut _ _ c1 x))) ⟨oe,gS.extBut _ _ Uh LP,PZ⟩
 ·refine aaj (N1.item _ _ k1 { s with heap:=fQ } x _ (N1.keep _ _ _ h1 fun o e=>dM.extBut _ _ D.i1z e) (N1.nS _ _ _ _ hx fun o e=>dM.extBut _ _ D.l1z e) fun iL IZ fT=>aam ?_);have nT:IsPair iL TO a b:=fT.extBut _ _ D.TOi1 (dM.extBut _ _ D.TOz vB);refine aaj (abU nT rfl ?_);refine aaj (acL nT fun nM qT gS=>?_);refine aaj (wpAny_letGo (aam ?_));refine aaj (aaj (ade ?_));show wpAny _ _ (Builtin.SmallTypes.nextOf (.ref i2) >>= _) _ _ _;refine aaj (N2.done _ _ k2 { s with heap:=nM } _ hh (N2.keep _ _ _ h2 fun o e=>gS.extBut _ _ D.TOi2.symm (fT.extBut _ _ D.i12.symm (dM.extBut _ _ D.i2z e)))
   (N2.nS _ _ _ _ hy fun o e=>gS.extBut _ _ D.l2TO (fT.extBut _ _ D.l2i1 (dM.extBut _ _ D.l2z e))) fun Cu e mh he=>?_)
  obtain⟨oe,LP,PZ⟩:=he;have Jc:IsZip Cu z TI TO .ellipsis:=mh _ _ D.i2z.symm (gS.extBut _ _ D.TOz.symm (fT.extBut _ _ D.i1z.symm mf));have Uh:e≠z:=fun x=>by subst x;rw[Jc]at LP;cases LP;simp at PZ
  refine abS Jc (by simp) fun iC _ mj=>hE iC e (fun c o c1 c2 c3 c4 x=>mj.extBut _ _ c1 (mh _ _ c4 (gS.extBut _ _ c2 (fT.extBut _ _ c3 (dM.extBut _ _ c1 x))))) ⟨oe,mj.extBut _ _ Uh LP,PZ⟩
theorem lB{TI TO:Addr}{x y a:Value}{Q:wP->Shared->Prop}(D:ZipApart z TI TO i1 i2 l1 l2)(N1:Nx prog w i1 l1 An yE)(N2:Nx prog w i2 l2 mx pG)(hz:IsZip s.heap z TI TO .none)(tR:IsPair s.heap TI (.ref i1) (.ref i2))(vB:IsPair s.heap TO a b)(h1:yE k1 s.heap)(h2:pG k2 s.heap)(hx:An s.heap k1 (some x))(hy:mx s.heap k2 (some y))(hQ:∀ h',IsZip h' z TI TO (rawInt s.heap.objs.size)->IsPair h' TO x y->yE (k1+1) h'->pG (k2+1) h'->IsPair h' s.heap.objs.size x y->h'.objs.size=s.heap.objs.size+1 ->
   (∀ c o,c≠z->c≠TO->c≠i1->c≠i2->s.heap.get? c=some o->h'.get? c=some o)->Q (some (.ref s.heap.objs.size)) { s with heap:=h' }) :
  wpAny (model prog w) A (pyNext (.ref z)) Q E s:=by
 have hT:s.TypeIs (.ref z) "zip":=⟨_,hz,rfl⟩;unfold pyNext;exact aaj (adf (aa9 (name:=Str.ofString "__next__") hT acP
  (abe acP hT F.entry_zip_next
   (Am D N1 N2 hz tR vB h1 h2 hx hy fun h' a1 a2 a3 a4 a5 a6 a7=>aam (hQ h' a1 a2 a3 a4 a5 a6 a7)) (F.args_zip_next_1 _))))
theorem mB{TI TO:Addr}{a:Value}{Q:wP->Shared->Prop}(hh:A.handled=none)(D:ZipApart z TI TO i1 i2 l1 l2)(N1:Nx prog w i1 l1 An yE)(N2:Nx prog w i2 l2 mx pG)(hz:IsZip s.heap z TI TO .none)(tR:IsPair s.heap TI (.ref i1) (.ref i2))(vB:IsPair s.heap TO a b)(h1:yE k1 s.heap)(h2:pG k2 s.heap)(tS:An s.heap k1 none\/(∃ x,An s.heap k1 (some x))/\mx s.heap k2 none)(hQ:∀ h',(∀ c o,c≠z->c≠TO->c≠i1->c≠i2->s.heap.get? c=some o->h'.get? c=some o)->Q none { s with heap:=h' }):wpAny (model prog w) A (pyNext (.ref z)) Q E s:=by
 have hT:s.TypeIs (.ref z) "zip":=⟨_,hz,rfl⟩;unfold pyNext;refine aaj (adf (aa9 (name:=Str.ofString "__next__") hT acP
  (abe acP hT F.entry_zip_next (CB hh D N1 N2 hz tR vB h1 h2 tS fun h' e hk he=>?_) (F.args_zip_next_1 _))))
 obtain⟨o,ho,hc⟩:=he;refine aaj (wpAny_isInstance (T := "StopIteration") (b:=true) ⟨o,ho,hc⟩ isSubtype_stop ?_);exact aam (hQ _ hk)
noncomputable def cb(T:String)(l:Addr):Obj:={ cls:=.type T,data:=.fields #[.ref l,.int 0 0] }
noncomputable def hZ(h:Heap)(o1 o2:Obj):Heap :=
 ((((h.push o1).push o2).push { cls:=.type "tuple",data:=.seq #[.ref h.objs.size,.ref (h.objs.size+1)] }).push { cls:=.type "tuple",data:=.seq #[.none,.none] }).push
  { cls:=.type "zip",data:=.fields #[.none,.bool false,.bool false,.ref (h.objs.size+2),.ref (h.objs.size+3)] }
theorem tT(l1 l2:Addr)(xs ys:Array Value) :
  Meets (Builtin.«zip.__new__» ⟨[.type "zip",.ref l1,.ref l2],[]⟩) (fun _ R s=>s.heap.IsTuple l1 xs/\s.heap.IsTuple l2 ys /\
   R (.ok (.ret (.ref (s.heap.objs.size+4)))) { s with heap:=hZ s.heap (cb "tuple_iterator" l1) (cb "tuple_iterator" l2) }) :=
 .of_wp fun prog w A R s h=>by
  obtain⟨hp,g,d,tk,os⟩:=s;obtain⟨pe,sQ,h⟩:=h;have GG:=sub_zip;have LQ:Heap.IsTuple (Shared.heap ⟨hp,g,d,tk,os⟩) l1 xs:=pe;have LR:Heap.IsTuple (Shared.heap ⟨hp.push { cls:=.type "tuple_iterator",data:=.fields #[.ref l1,.int 0 0] },g,d,tk,os⟩) l2 ys:=Heap.IsTuple.push sQ _
  wp_walk using acw LQ,acw LR
  refine⟨_,rfl,?_⟩;have e:∀(h:Heap) (o:Obj),(h.push o).objs.size=h.objs.size+1:=fun h o=>aba ..;simp only[hZ,cb,e]at h ⊢;exact h
section
variable {σ:St}{h':Heap}
theorem Inv.yG{t':Nat}{ch:ww}(I:Inv X pins σ H s)(hf:∀ b∈ch,kj X pins H b)(k:∀ b o,b ∉ ch->s.heap.get? b=some o->h'.get? b=some o):Inv X pins σ H { s with heap:=h',toks:=t' }:=by
 have OU:∀ b u,H b=some u->b ∉ ch:=fun b u e z=>by rw[(hf b z).1]at e;cases e
 refine I.step (g':=s.gens) (d':=s.drawn) (ch:=ch) (fun b hb=>?_) (fun b o _ _ hc e _=>k b o hc e) (fun b o _ _ hc e _=>⟨o.slots,k b o hc e⟩) (fun _ _ _ _ n=>n)
  (fun b o hc e=>⟨o,k b o hc e⟩) (fun _ _ e=>e) (fun _ _ _ e=>e) (fun b ps e=>⟨#[],by rw[e];simp⟩) (fun m hm=>?_) (fun b u e=>?_) I.bare
 ·obtain⟨_,f1,f2,f3,f4,f5⟩:=hf b hb;exact⟨f3,f1,f4,f5⟩
 ·obtain⟨o,es,ep,ho,r⟩:=hm;exact⟨o,es,ep,k _ o (fun z=>(hf _ z).2.1 rfl) ho,r⟩
 ·refine(I.cv b u e).tj (fun c v hc q=>k c v ?_ q) (fun _ q=>q) fun _ _ q=>q;rcases hc with z | z
  ·rw[z];exact OU b u e
  ·exact OU c _ z
theorem Inv.Jd{t':Nat}{T:Addr}{o:HO}(I:Inv X pins σ H s)(hf:kj X pins H T)(new:cq X.prog X.w (upd H T o) s.heap T o):Inv X pins σ (upd H T o) { s with toks:=t' }:=by
 have hn:=hf.1;refine I.step (h':=s.heap) (g':=s.gens) (d':=s.drawn) (ch:=[T]) (fun b hb=>?_) (fun b o _ _ _ e _=>e) (fun b o _ _ _ e _=>⟨o.slots,e⟩) (fun b o hc _ n=>?_)
  (fun b o _ e=>⟨o,e⟩) (fun b xs e=>?_) (fun b o u e=>?_) (fun b ps e=>⟨#[],?_⟩) (fun m hm=>hm) (fun b u e=>?_) I.bare
 ·obtain⟨_,f1,f2,f3,f4,f5⟩:=hf;have e:b=T:=by simpa using hb
  subst e;exact⟨f3,f1,f4,f5⟩
 ·rw[bw (fun z=>hc (by simp[z]))];exact n
 ·rw[bw (ck e hn)];exact e
 ·rw[bw (ck e hn)];exact e
 ·rw[bw (ck e hn),e];simp
 ·by_cases hb:b=T
  ·subst hb;rw[cn]at e;cases e;exact new
  ·rw[bw hb]at e;exact(I.cv b u e).tj (fun c v _ q=>q) (fun c q=>by rw[bw (ck q hn)];exact q) fun c xs q=>by rw[bw (ck q hn)];exact q
end
inductive SK where
 | L | T
def wm(K:zn):SK->Hp->Addr->List V->Prop
 | .L=>gb K
 | .T=>fN K
def qU:SK->Addr->Heap->Nat->wP->Prop
 | .L=>PM
 | .T=>PN
def stK:SK->Addr->Addr->Nat->Heap->Prop
 | .L=>fun it l i h=>h.IsListIter it l i
 | .T=>fun it l i h=>h.IsTupleIter it l i
def nV:SK->String
 | .L => "list_iterator"
 | .T => "tuple_iterator"
theorem Bs:∀(k:SK) (it l:Addr),Nx prog w it l (qU k l) (stK k it l)
 | .L,it,l=>GF it l
 | .T,it,l=>LN it l
section
variable {σ:St}{xs ys:List V}
theorem Inv.Ao(I:Inv X pins σ H s):∀{k:SK},wm X.K k H a xs->∃ aV:List Value,Vals xs aV/\xs.length<=sizeLine/\∀ i,qU k a s.heap i aV[i]?
 | .L,h=>by
  obtain⟨aV,r,p,z⟩:=I.list h;obtain⟨o,n,ho,hc,hd,YX⟩:=p;exact⟨aV,r,z,fun i=>⟨aV.toArray,⟨o,ho,hc,n,YX⟩,by simp⟩⟩
 | .T,h=>by
  obtain⟨aV,r,p,z⟩:=I.tuple h;exact⟨aV,r,z,fun i=>⟨aV.toArray,p,by simp⟩⟩
theorem Inv.Je(I:Inv X pins σ H s):∀{k:SK},wm X.K k H a xs->wm X.K k H a ys->xs=ys
 | .L,h,h'=>I.tE h h'
 | .T,h,h'=>I.zP h h'
end
theorem aT.new{p:Addr}(h:H p=none)(o:HO):aT H (upd H p o):=fun b u q=>by rw[bw (ck q h)];exact q
theorem tU(l1 l2:Addr)(xs ys:Array Value) :
  Meets (Builtin.«zip.__new__» ⟨[.type "zip",.ref l1,.ref l2],[]⟩) (fun _ R s=>s.heap.IsList l1 xs/\s.heap.IsList l2 ys /\
   R (.ok (.ret (.ref (s.heap.objs.size+4)))) { s with heap:=hZ s.heap (cb "list_iterator" l1) (cb "list_iterator" l2) }) :=
 .of_wp fun prog w A R s h=>by
  obtain⟨hp,g,d,tk,os⟩:=s;obtain⟨pe,sQ,h⟩:=h;have GG:=sub_zip;have LQ:Heap.IsList (Shared.heap ⟨hp,g,d,tk,os⟩) l1 xs:=pe;have LR:Heap.IsList (Shared.heap ⟨hp.push { cls:=.type "list_iterator",data:=.fields #[.ref l1,.int 0 0] },g,d,tk,os⟩) l2 ys:=Heap.IsList.push sQ _
  wp_walk using abA LQ,abA LR
  refine⟨_,rfl,?_⟩;have e:∀(h:Heap) (o:Obj),(h.push o).objs.size=h.objs.size+1:=fun h o=>aba ..;simp only[hZ,cb,e]at h ⊢;exact h
theorem tV(l1 l2:Addr)(xs ys:Array Value) :
  Meets (Builtin.«zip.__new__» ⟨[.type "zip",.ref l1,.ref l2],[]⟩) (fun _ R s=>s.heap.IsTuple l1 xs/\s.heap.IsList l2 ys /\
   R (.ok (.ret (.ref (s.heap.objs.size+4)))) { s with heap:=hZ s.heap (cb "tuple_iterator" l1) (cb "list_iterator" l2) }) :=
 .of_wp fun prog w A R s h=>by
  obtain⟨hp,g,d,tk,os⟩:=s;obtain⟨pe,sQ,h⟩:=h;have GG:=sub_zip;have LQ:Heap.IsTuple (Shared.heap ⟨hp,g,d,tk,os⟩) l1 xs:=pe;have LR:Heap.IsList (Shared.heap ⟨hp.push { cls:=.type "tuple_iterator",data:=.fields #[.ref l1,.int 0 0] },g,d,tk,os⟩) l2 ys:=Heap.IsList.push sQ _
  wp_walk using acw LQ,abA LR
  refine⟨_,rfl,?_⟩;have e:∀(h:Heap) (o:Obj),(h.push o).objs.size=h.objs.size+1:=fun h o=>aba ..;simp only[hZ,cb,e]at h ⊢;exact h
theorem tW(l1 l2:Addr)(xs ys:Array Value) :
  Meets (Builtin.«zip.__new__» ⟨[.type "zip",.ref l1,.ref l2],[]⟩) (fun _ R s=>s.heap.IsList l1 xs/\s.heap.IsTuple l2 ys /\
   R (.ok (.ret (.ref (s.heap.objs.size+4)))) { s with heap:=hZ s.heap (cb "list_iterator" l1) (cb "tuple_iterator" l2) }) :=
 .of_wp fun prog w A R s h=>by
  obtain⟨hp,g,d,tk,os⟩:=s;obtain⟨pe,sQ,h⟩:=h;have GG:=sub_zip;have LQ:Heap.IsList (Shared.heap ⟨hp,g,d,tk,os⟩) l1 xs:=pe;have LR:Heap.IsTuple (Shared.heap ⟨hp.push { cls:=.type "list_iterator",data:=.fields #[.ref l1,.int 0 0] },g,d,tk,os⟩) l2 ys:=Heap.IsTuple.push sQ _
  wp_walk using abA LQ,acw LR
  refine⟨_,rfl,?_⟩;have e:∀(h:Heap) (o:Obj),(h.push o).objs.size=h.objs.size+1:=fun h o=>aba ..;simp only[hZ,cb,e]at h ⊢;exact h
theorem jD{h:Heap}{o1 o2:Obj}:(hZ h o1 o2).get? (h.objs.size+4)=some { cls:=.type "zip",data:=.fields #[.none,.bool false,.bool false,.ref (h.objs.size+2),.ref (h.objs.size+3)] }:=by
 unfold hZ;have e:h.objs.size+4=((((h.push o1).push o2).push { cls:=.type "tuple",data:=.seq #[.ref h.objs.size,.ref (h.objs.size+1)] }).push { cls:=.type "tuple",data:=.seq #[.none,.none] }).objs.size:=by simp only[aba]
 rw[e];exact aau _ rfl
theorem Ap:∀{k1 k2:SK} {n1 n2:wP} {Q:xz} (pe:qU k1 l1 s.heap 0 n1) (sQ:qU k2 l2 s.heap 0 n2)
  (h:Q (.ref (s.heap.objs.size+4)) { s with heap:=hZ s.heap (cb (nV k1) l1) (cb (nV k2) l2) }),wpAny (model prog w) A (call (.type "zip") [.ref l1,.ref l2]) Q E s
 | .T,.T,_,_,_,⟨xs,pe,_⟩,⟨ys,sQ,_⟩,h=>adn ado (by decide) (acJ _ _) (acQ _ _) (fun obj=>ach obj _ _) acR
   (tT l1 l2 xs ys) ⟨pe,sQ,⟨⟨_,jD,rfl⟩,h⟩⟩
 | .L,.L,_,_,_,⟨xs,pe,_⟩,⟨ys,sQ,_⟩,h=>adn ado (by decide) (acJ _ _) (acQ _ _) (fun obj=>ach obj _ _) acR
   (tU l1 l2 xs ys) ⟨pe,sQ,⟨⟨_,jD,rfl⟩,h⟩⟩
 | .T,.L,_,_,_,⟨xs,pe,_⟩,⟨ys,sQ,_⟩,h=>adn ado (by decide) (acJ _ _) (acQ _ _) (fun obj=>ach obj _ _) acR
   (tV l1 l2 xs ys) ⟨pe,sQ,⟨⟨_,jD,rfl⟩,h⟩⟩
 | .L,.T,_,_,_,⟨xs,pe,_⟩,⟨ys,sQ,_⟩,h=>adn ado (by decide) (acJ _ _) (acQ _ _) (fun obj=>ach obj _ _) acR
   (tW l1 l2 xs ys) ⟨pe,sQ,⟨⟨_,jD,rfl⟩,h⟩⟩
def Ui(K:zn)(k1 k2:SK)(a b:Addr):It :=
 ⟨fun i H=>∃ xs ys x y,wm K k1 H a xs/\wm K k2 H b ys/\xs[i]?=some x/\ys[i]?=some y,
  fun i H v H'=>∃ p x y,v=.ref p/\H p=none/\H'=upd H p (.tup [x,y])/\(∀ xs,wm K k1 H a xs->xs[i]?=some x)/\∀ ys,wm K k2 H b ys->ys[i]?=some y,
  fun i H=>∃ xs ys,wm K k1 H a xs/\wm K k2 H b ys/\(xs.length<=i\/ys.length<=i)⟩
def YY(k1 k2:SK)(z TI TO i1 i2 a b:Addr)(i:Nat)(h:Heap):Prop :=
 IsZip h z TI TO .none/\IsPair h TI (.ref i1) (.ref i2)/\(∃ x y,IsPair h TO x y)/\stK k1 i1 a i h/\stK k2 i2 b i h
theorem pP{k:SK}{h:Heap}{i:Nat}{aV:wf}(hh:∀ i,qU k a h i aV[i]?)(e:aV.length<=i):qU k a h i none:=by
 have q:=hh i;rw[List.getElem?_eq_none e]at q;exact q
theorem CC{K:zn}{elts:v6}{ek:Nat}{Aq:Pos}{k1 k2:SK}{b TI TO:Addr}(D:ZipApart z TI TO i1 i2 a b) :
  Turn P w K (.Tuple elts ek Aq) (Ui K k1 k2 a b) [z,TI,TO,i1,i2] z (YY k1 k2 z TI TO i1 i2 a b) where
 mem:=by simp
 obj:=fun i h st c hc=>by
  obtain⟨hz,tR,⟨x,y,vB⟩,s1,s2⟩:=st;simp only[aan,abf,acC]at hc;rcases hc with rfl | rfl | rfl | rfl | rfl
  ·exact⟨_,hz,fun v e=>nomatch e⟩
  ·exact⟨_,tR,fun v e=>nomatch e⟩
  ·exact⟨_,vB,fun v e=>nomatch e⟩
  ·exact(Bs (prog:=P) (w:=w) k1 _ a).obj i h s1
  ·exact(Bs (prog:=P) (w:=w) k2 _ b).obj i h s2
 keep:=fun i h h' st k=>by
  obtain⟨hz,tR,⟨x,y,vB⟩,s1,s2⟩:=st;exact⟨k z (by simp) _ hz,k TI (by simp) _ tR,⟨x,y,k TO (by simp) _ vB⟩,(Bs (prog:=P) (w:=w) k1 _ a).keep i h h' s1 fun o e=>k i1 (by simp) o e,(Bs (prog:=P) (w:=w) k2 _ b).keep i h h' s2 fun o e=>k i2 (by simp) o e⟩
 item:=by
  intro X hP hw hK hc i pins s σ H E I hf st hg;subst hP hw hK;obtain⟨hz,tR,⟨ta,tb,vB⟩,s1,s2⟩:=st;obtain⟨xs,ys,x,y,q1,q2,hx,hy⟩:=hg;obtain⟨GH,r1,z1,g1⟩:=I.Ao q1;obtain⟨wj,r2,z2,g2⟩:=I.Ao q2;obtain⟨u1,YZ,Uj⟩:=r1.get hx;obtain⟨u2,Y0,Uk⟩:=r2.get hy;refine lB D (Bs k1 i1 a) (Bs k2 i2 b) hz tR vB s1 s2 (x:=u1) (y:=u2) (by rw[<- YZ];exact g1 i) (by rw[<- Y0];exact g2 i) fun h' a1 a2 a3 a4 a5 a6 a7=>?_;refine⟨_,rfl,wpAny_letOwnedTupleGo_zip a1 fun h2 Y1 mx=>?_⟩;have Ul:s.heap.objs.size≠z:=abO (aar hz);have iz:∀ c o,s.heap.get? c=some o->s.heap.objs.size≠c:=fun c o e=>abO (aar e);have kp:∀ c o,c ∉ [z,TI,TO,i1,i2]->s.heap.get? c=some o->h2.get? c=some o:=fun c o hc e=>by
   simp only[aan,abf,acC,not_or]at hc;exact mx.extBut _ _ hc.1 (a7 c o hc.1 hc.2.2.1 hc.2.2.2.1 hc.2.2.2.2 e)
  have I1:Inv X pins σ H { s with heap:=h2,toks:=s.toks }:=I.yG hf kp;have Y2:IsPair h2 s.heap.objs.size u1 u2:=mx.extBut _ _ Ul a5;have OB:H s.heap.objs.size=none:=I.cv.fresh (aao _);have I2:Inv X pins σ (upd H s.heap.objs.size (.tup [x,y])) { s with heap:=h2,toks:=s.toks } :=
   I1.Jd (t':=s.toks) (I.zR (aao _) OB) ⟨by show 2<=sizeLine;decide,[u1,u2],.cons Uj (.cons Uk .nil),⟨_,Y2,rfl,_,rfl⟩⟩
  refine⟨.ref s.heap.objs.size,_,I2,rfl,⟨_,x,y,rfl,OB,rfl,fun FI h=>by rw[I.Je h q1];exact hx,fun ys' h=>by rw[I.Je h q2];exact hy⟩,?_,fun c hc=>?_⟩
  ·have e1:∀ c o,c≠z->h'.get? c=some o->h2.get? c=some o:=fun c o hc e=>mx.extBut _ _ hc e;exact⟨Y1,e1 _ _ D.TIz (a7 _ _ D.TIz D.TITO D.TIi1 D.TIi2 tR),⟨_,_,e1 _ _ D.TOz a2⟩,(Bs (prog:=X.prog) (w:=X.w) k1 _ a).keep _ _ _ a3 fun o e=>e1 _ _ D.i1z e,(Bs (prog:=X.prog) (w:=X.w) k2 _ b).keep _ _ _ a4 fun o e=>e1 _ _ D.i2z e⟩
  ·have i4:c≠s.heap.objs.size:=by
    have:∃ o,s.heap.get? c=some o:=by
     simp only[aan,abf,acC]at hc;rcases hc with rfl | rfl | rfl | rfl | rfl
     ·exact⟨_,hz⟩
     ·exact⟨_,tR⟩
     ·exact⟨_,vB⟩
     ·obtain⟨o,e,_⟩:=(Bs (prog:=X.prog) (w:=X.w) k1 _ a).obj _ _ s1;exact⟨o,e⟩
     ·obtain⟨o,e,_⟩:=(Bs (prog:=X.prog) (w:=X.w) k2 _ b).obj _ _ s2;exact⟨o,e⟩
    obtain⟨o,e⟩:=this;exact(iz c o e).symm
   rw[bw i4];exact(hf c hc).1
 done:=by
  intro X hP hw hK hc i pins s σ H E I hf st hg;subst hP hw hK;obtain⟨hz,tR,⟨ta,tb,vB⟩,s1,s2⟩:=st;obtain⟨xs,ys,q1,q2,he⟩:=hg;obtain⟨GH,r1,z1,g1⟩:=I.Ao q1;obtain⟨wj,r2,z2,g2⟩:=I.Ao q2;have l1:=r1.length;have l2:=r2.length;have tS:qU k1 a s.heap i none\/(∃ x,qU k1 a s.heap i (some x))/\qU k2 b s.heap i none:=by
   by_cases h1:GH.length<=i
   ·exact .inl (pP g1 h1)
   ·refine .inr ⟨⟨GH[i],?_⟩,pP g2 (by omega)⟩;have q:=g1 i;rw[aaG (by omega)]at q;exact q
  exact mB (I.ok.hd hc) D (Bs k1 i1 a) (Bs k2 i2 b) hz tR vB s1 s2 tS fun h' k=>⟨rfl,I.yG (t':=s.toks) hf fun c o hc e=>by
   simp only[aan,abf,acC,not_or]at hc;exact k c o hc.1 hc.2.2.1 hc.2.2.2.1 hc.2.2.2.2 e⟩
 self:=fun _ _ _ _ _ st h=>wpAny_pyIter_zip st.1 h
def LU(K:zn)(k1 k2:SK)(ta:TA):TI:=fun σ H R=>ta σ H fun vs H1=>∃ a b,vs=[.ref a,.ref b]/\(∃ xs,wm K k1 H1 a xs)/\(∃ ys,wm K k2 H1 b ys)/\R (Ui K k1 k2 a b) H1
theorem CD{σ:St}{xs:List V}(I:Inv X pins σ H s):∀{k:SK},wm X.K k H a xs->a < s.heap.objs.size
 | .L,h=>by
  obtain⟨aV,r,⟨o,n,ho,_⟩,z⟩:=I.list h;exact aar ho
 | .T,h=>by
  obtain⟨aV,r,⟨o,ho,_⟩,z⟩:=I.tuple h;exact aar ho
theorem LV(k1 k2:SK){elts:v6}{ek:Nat}{Aq:Pos}{a b:Expr}{ta:TA}{p:Pos}(hg:Gl X "zip")(hm:X.mg "zip"=none)(ha:PA X [a,b] ta)(hs:autoParam (starEach [a,b] X.env=[(false,eval a X.env),(false,eval b X.env)]) ra0)(mx:autoParam (starEach [b] X.env=[(false,eval b X.env)]) ra0) :
  PI X (.Tuple elts ek Aq) (.Call (.Name "zip" p) [a,b] [] pos) (LU X.K k1 k2 ta):=by
 intro pins s σ H R I h;refine Call_ (j2 I hg hm boot_zip (abI (cL (ha pos pins s σ H _ I h) fun us s1 ⟨vs,H1,I1,r1,q1⟩=>?_) (by rw[hs,mx]) (by rw[mx];rfl)));obtain⟨l1,l2,e,⟨xs,WW⟩,⟨ys,WX⟩,q⟩:=q1;subst e;obtain⟨u1,u2,rfl,Uj,Uk⟩:=vals2 r1;cases (show u1=Value.ref l1 from Uj);cases (show u2=Value.ref l2 from Uk);obtain⟨GH,_,_,g1⟩:=I1.Ao WW;obtain⟨wj,_,_,g2⟩:=I1.Ao WX;have e5:∀(h:Heap) (o:Obj),(h.push o).objs.size=h.objs.size+1:=fun h o=>aba ..;refine Ap (g1 0) (g2 0) ?_;refine wpAny_pyIter_zip (s:={ s1 with heap:=hZ s1.heap (cb (nV k1) l1) (cb (nV k2) l2) }) jD ?_;have kp:∀ c o,s1.heap.get? c=some o->(hZ s1.heap (cb (nV k1) l1) (cb (nV k2) l2)).get? c=some o:=fun c o x =>
  aal _ (aal _ (aal _ (aal _ (aal _ x))))
 refine⟨s1.heap.objs.size+4,[s1.heap.objs.size+4,s1.heap.objs.size+2,s1.heap.objs.size+3,s1.heap.objs.size,s1.heap.objs.size+1],_,_,H1,rfl,I1.kept (t':=s1.toks) kp,CC (PyProof.Rows.zipApart_new (CD I1 WW) (CD I1 WX)),?_,fun c hc=>?_,q⟩
 ·have g5:=jD (h:=s1.heap) (o1:=cb (nV k1) l1) (o2:=cb (nV k2) l2);have z1:(s1.heap.push (cb (nV k1) l1)).objs.size=s1.heap.objs.size+1:=e5 _ _;have z2:((s1.heap.push (cb (nV k1) l1)).push (cb (nV k2) l2)).objs.size=s1.heap.objs.size+2:=by rw[e5,z1]
  have p4:(hZ s1.heap (cb (nV k1) l1) (cb (nV k2) l2)).get? (s1.heap.objs.size+3)=some { cls:=.type "tuple",data:=.seq #[.none,.none] }:=by
   unfold hZ;refine aal _ ?_;have e:s1.heap.objs.size+3=(((s1.heap.push (cb (nV k1) l1)).push (cb (nV k2) l2)).push { cls:=.type "tuple",data:=.seq #[.ref s1.heap.objs.size,.ref (s1.heap.objs.size+1)] }).objs.size:=by rw[e5,z2]
   rw[e];exact aau _ rfl
  have p3:(hZ s1.heap (cb (nV k1) l1) (cb (nV k2) l2)).get? (s1.heap.objs.size+2)=some { cls:=.type "tuple",data:=.seq #[.ref s1.heap.objs.size,.ref (s1.heap.objs.size+1)] }:=by
   unfold hZ;refine aal _ (aal _ ?_);rw[<- z2];exact aau _ rfl
  have p2:(hZ s1.heap (cb (nV k1) l1) (cb (nV k2) l2)).get? (s1.heap.objs.size+1)=some (cb (nV k2) l2):=by
   unfold hZ;refine aal _ (aal _ (aal _ ?_));rw[<- z1];exact aau _ rfl
  have p1:(hZ s1.heap (cb (nV k1) l1) (cb (nV k2) l2)).get? s1.heap.objs.size=some (cb (nV k1) l1):=by
   unfold hZ;exact aal _ (aal _ (aal _ (aal _ (aau _ rfl))))
  refine⟨g5,p3,⟨_,_,p4⟩,?_,?_⟩
  ·cases k1<;>exact⟨_,p1,rfl,rfl⟩
  ·cases k2<;>exact⟨_,p2,rfl,rfl⟩
 ·have hle:s1.heap.objs.size<=c:=by
   simp only[aan,abf,acC]at hc;rcases hc with rfl | rfl | rfl | rfl | rfl<;>omega
  exact I1.zR hle (I1.cv.fresh hle)
abbrev wu(w:World):List DictEntry->List (Key×V)->Prop:=Paired fun e kv=>nA kv.1 e.key=true/\e.hash=OM w kv.1/\RelV kv.2 e.val
structure Ar(K:zn)(w:World)(a:Addr)(kvs:List (Key×V)):Prop where
 ex:∃(es:Array DictEntry) (ep:Nat),K.lookup a=some ⟨.type "dict",none,.dict es ep,#[]⟩/\wu w es.toList kvs
 nd:(kvs.map (·.1)).Nodup
 ne:(a == sysModules)=false
theorem wu.out{P:u8}{w:World}:∀{es:List DictEntry} {kvs:List (Key×V)},wu w es kvs->∃ vs,Pairs (bX P w) es vs/\KV kvs vs
 | _,_,.nil=>⟨[],.nil,.nil⟩
 | _,_,.cons (a:=e) (b:=kv) h t=>by
  obtain⟨vs,p,r⟩:=wu.out (P:=P) t;exact⟨(kv.1,e.val)::vs,.cons h.1 rfl p,.cons ⟨rfl,h.2.2⟩ r⟩
theorem wu.keys{P:u8}{w:World}:∀{es:List DictEntry} {kvs:List (Key×V)},wu w es kvs->∀ e∈es,∃ k,(bX P w).is k e.key=true/\e.hash=(bX P w).hash k
 | _,_,.nil,e,he=>nomatch he
 | _,_,.cons (b:=kv) h t,e,he=>by
  rcases aan.mp he with q | q
  ·subst q;exact⟨kv.1,h.1,h.2.1⟩
  ·exact wu.keys t e q
section
variable {σ:St}{kvs:List (Key×V)}{k:Key}{v:V}{u:Value}
theorem Ar.dict(I:Inv X pins σ H s)(m:Ar X.K X.w a kvs):∃ vs,KV kvs vs/\s.heap.DictOf (bX X.prog X.w) a vs:=by
 obtain⟨⟨es,ep,hl,hm⟩,nd,_⟩:=m;obtain⟨vs,p,r⟩:=hm.out (P:=X.prog);exact⟨vs,r,_,es,ep,I.l6 _ _ hl,⟨rfl,rfl,rfl⟩,rfl,fun e he=>hm.keys e (by simpa using he),p,by rw[<- r.keys];exact nd⟩
theorem As{Q:xz}(I:Inv X pins σ H s)(m:Ar X.K X.w a kvs)(l:gP kvs k=some v)(ry:RelV (kV k) u)(h:∀ w' s',Inv X pins σ H s'->RelV v w'->Q w' s') :
  wpAny (model X.prog X.w) A (getItem (.ref a) u) Q E s:=by
 obtain⟨vs,rel,dd⟩:=m.dict I;obtain⟨w',hw,v7⟩:=i7.some_of (v:=v) (o:=valueAt vs k) (by rw[<- l];exact rel.val k);exact wpAny_getItem_of (pL ry) dd.mapOf hw (h w' _ (I.tok _) v7)
end
def CF(K:zn)(w:World)(td ty:TE):TE:=fun σ H Q=>td σ H fun x H1=>ty σ H1 fun y H2=>∃ a kvs k v,x=.ref a/\Ar K w a kvs/\y=kV k/\gP kvs k=some v/\Q v H2
section
variable {o i:Expr}{td ty:TE}
theorem GI(ho:PE X o td)(hi:PE X i ty)(hs:Ah i):PE X (.Subscript o i pos) (CF X.K X.w td ty):=by
 intro pins s σ H Q I h;refine yw acY.lookup hs (cL (ho pins s σ H _ I h) fun u s1 ⟨x,H1,I1,rx,q1⟩=>cL (hi pins s1 σ H1 _ I1 q1) fun iv s2 ⟨y,H2,I2,ry,a,kvs,k,v,ex,m,ey,l,q2⟩=>?_);subst ex ey;obtain rfl:u=Value.ref a:=rx;obtain⟨vs,rel,dd⟩:=m.dict I2;exact⟨dd.typeIs,As I2 m l ry fun w' s3 I3 v7=>⟨v,H2,I3,v7,q2⟩⟩
end
structure Dn(P:u8)(w:World)(K:zn)(mg:xL)(base:Heap)(k:Nat)(x:Str)(f:Addr)(fd:wT)(ps:wv)(sp:Sp):Prop where
 ok:ba P w K mg base cU k f fd ps sp
 b:Binds K fd ps []
 kp:PySem.W.keepIn K (.ref f)=true
 m:mg x=some (.ref f)
section
variable {k j:Nat}{f:Addr}{fd:wT}{ps:wv}{sp:Sp}{x:Str}{p:Pos}{e:Expr}{es:v6}{t:TA}
theorem CG(D:Dn X.prog X.w X.K X.mg X.base k x f fd ps sp)(hr:cT j X.A)(ha:PA X (e::es) t)(hk:autoParam (k<=j) ra7)(hg:autoParam (Gl X x) ra0)(tG:autoParam ((x == ("__debug__":Str))=false) ra1)(he:autoParam (starEach (e::es) X.env=(false,eval e X.env)::starEach es X.env) ra0)(nL:autoParam ((backTo pos (starEach es X.env)).any (·.1)=false) ra0) :
  PE X (.Call (.Name x p) (e::es) [] pos) (yv sp [] E0 t):=Gn D.ok (hr.mono hk) hg D.m D.kp D.b .nil yD ha tG he nL
end
theorem P0{x:Str}{T:String}(hm:X.mg x=none)(hv:bootBuiltins x=some (.type T))(hg:autoParam (Gl X x) ra0)(hn:autoParam (x ≠ "__name__") ra1)(hd:autoParam ((x == ("__debug__":Str))=false) ra1):PE X (.Name x pos) (tC (.ty T)):=FW hg hm hv rfl hn hd
def Kp(t g:Addr)(H H':Hp):Prop:=∀ b o,H b=some o->b≠t->b≠g->H' b=some o
theorem dN:∀ ns:List Int,PyData.canLayAll0 (ns.map PyData.int)=true
 | []=>rfl
 | n::r=>by
  have h:=dN r;simp only[aaz,PyData.canLayAll0,PyData.canLay0,h,Bool.and_self]
def P1:PyData->String
 | .none => "NoneType"
 | .bool _ => "bool"
 | .int _ => "int"
 | .str _ => "str"
 | .list _ => "list"
 | .tuple _ => "tuple"
 | .dict _ => "dict"
theorem CH{K:zn}:∀{d:PyData} {x:V},Rep H d x->kn K H x (.type (P1 d))
 | .none,_,h=>by cases h;exact .dj
 | .bool b,_,h=>by cases h;exact .bl b
 | .int i,_,h=>by cases h;exact .int i
 | .str s,_,h=>by cases h;exact .str s
 | .list ds,_,⟨a,xs,e,h,_⟩=>by subst e;exact .lst h
 | .tuple ds,_,⟨a,xs,e,h,_⟩=>by subst e;exact .tup h
 | .dict _,_,h=>h.elim
def P2(d:PyData)(T:String):Bool:=P1 d == T||(P1 d == "bool"&&T == "int")
theorem GJ{K:zn}{T:String}(hT:T = "bool"\/T = "int"\/T = "str"\/T = "list"\/T = "tuple"):∀{d:PyData} {x:V},Rep H d x->PySem.W.kitOne K (.type (P1 d)) (.type T)=some (P2 d T)
 | .none,_,_=>by rcases hT with rfl | rfl | rfl | rfl | rfl<;>rfl
 | .bool b,_,_=>by rcases hT with rfl | rfl | rfl | rfl | rfl<;>rfl
 | .int i,_,_=>by rcases hT with rfl | rfl | rfl | rfl | rfl<;>rfl
 | .str s,_,_=>by rcases hT with rfl | rfl | rfl | rfl | rfl<;>rfl
 | .list ds,_,_=>by rcases hT with rfl | rfl | rfl | rfl | rfl<;>rfl
 | .tuple ds,_,_=>by rcases hT with rfl | rfl | rfl | rfl | rfl<;>rfl
 | .dict _,_,h=>h.elim
section
def GK(T:String):List V->Hp->VK->Prop:=fun xs H Q=>∃ x d,xs=[x,.ty T]/\Rep H d x/\Q (.bl (P2 d T)) H
theorem Au(T:String)(hT:T = "bool"\/T = "int"\/T = "str"\/T = "list"\/T = "tuple"):fO X (.builtin "isinstance") (GK T):=by
 intro pins s σ H xs us Q I rv ⟨x,d,e,r,q⟩;exact tQ pins s σ H xs us Q I rv ⟨x,T,.type (P1 d),P2 d T,e,CH r,GJ hT r,q⟩
variable {e:Expr}{te:TE}{p pi:Pos}{x:Str}
theorem LW(T:String)(mi:X.mg "isinstance"=none)(mT:X.mg x=none)(hb:bootBuiltins x=some (.type T))(he:PE X e te)(hT:autoParam (T = "bool"\/T = "int"\/T = "str"\/T = "list"\/T = "tuple") ra9)(gi:autoParam (Gl X "isinstance") ra0)(gT:autoParam (Gl X x) ra0)(hn:autoParam (x ≠ "__name__") ra1)(hd:autoParam ((x == ("__debug__":Str))=false) ra1)(h1:autoParam (starEach [e,.Name x p] X.env=(false,eval e X.env)::starEach [.Name x p] X.env) ra0) :
  PE X (.Call (.Name "isinstance" pi) [e,.Name x p] [] pos) (Lq (GK T) (nK te (nK (tC (.ty T)) qH))) :=
 tI (Au T hT) gi mi PyProof.Rows.boot_isinstance (mR he (mR (P0 mT hb gT hn hd) vU rfl) h1) (by decide) (by decide) h1 rfl
end
end L2
namespace L2
open PySem PySem.Spec PyProof.Rows
variable {tg:Expr}{r2:R2}{op:CmpOp}{T:String}
mutual
noncomputable def Sm:PyData->Prop
 | .list ds=>ds.length < 1000000/\CI ds
 | .tuple ds=>ds.length < 1000000/\CI ds
 | _=>True
noncomputable def CI:wE->Prop
 | []=>True
 | d::ds=>Sm d/\CI ds
end
noncomputable def qV:Expr->Option V
 | .Constant (.str x) _ _=>some (.str x)
 | .Constant (.int i) _ _=>some (.int i)
 | .Constant (.bool b) _ _=>some (.bl b)
 | .Constant .none _ _=>some .dj
 | _=>none
noncomputable def kB:v6->Option (List V)
 | []=>some []
 | e::r=>match qV e,kB r with
  | some v,some vs=>some (v::vs)
  | _,_=>none
def tK(vs:List V):TA:=fun _ H Q=>Q vs H
theorem wx(e:Expr)(es:v6)(env:Env)(h:(qV e).isSome=true):starEach (e::es) env=(false,eval e env)::starEach es env:=by
 cases e with
 | Constant c j pos=>rfl
 | _=>exact absurd h aav
theorem Av{X:Cx}{e:Expr}{v:V}(h:qV e=some v):PE X e (tC v):=by
 cases e with
 | Constant c j pos =>
  cases c with
  | str x=>cases h;exact BF
  | int i=>cases h;exact BD
  | bool b=>cases h;exact IQ
  | none=>cases h;exact BE
  | _=>exact nomatch h
 | _=>exact nomatch h
theorem pQ{X:Cx}:∀{es:v6} {vs:List V},kB es=some vs->PA X es (tK vs)
 | [],vs,h=>by cases h;exact vU
 | e::r,vs,h=>by
  unfold kB at h;cases h1:qV e with
  | none=>rw[h1]at h;cases h
  | some v =>
   cases h2:kB r with
   | none=>rw[h1,h2]at h;cases h
   | some ws =>
    rw[h1,h2]at h;cases h;exact mR (Av h1) (pQ h2) (wx e r X.env (by rw[h1];rfl))
structure SE(X:Cx)(e:Expr)(t:TE):Prop where
 run:PE X e t
structure ST(X:Cx)(e:Expr)(t:TT):Prop where
 run:PT X e t
structure SW(X:Cx)(e:Expr)(t:TT):Prop where
 run:PW X e t
structure SA(X:Cx)(es:v6)(t:TA):Prop where
 run:PA X es t
structure SS(X:Cx)(st:Stmt)(t:TS):Prop where
 run:PS X st t
structure sR(X:Cx)(st:ul)(t:TS):Prop where
 run:yi X st t
structure SG(X:Cx)(e:Expr)(t:TG):Prop where
 run:PG X e t
structure SF(X:Cx)(e:v6)(t:vA):Prop where
 run:Ov X e t
structure SI(X:Cx)(tg e:Expr)(t:TI):Prop where
 run:PI X tg e t
structure SO(X:Cx)(e:Option Expr)(t:TO):Prop where
 run:PO X e t
def noStar:Expr->Bool
 | .Starred _ _=>false
 | _=>true
theorem cW{e:Expr}(es:v6)(env:Env)(h:noStar e=true):starEach (e::es) env=(false,eval e env)::starEach es env:=by
 cases e with
 | Starred _ _=>exact nomatch h
 | _=>rfl
theorem fU{pos:Pos}{env:Env}:∀{es:v6},es.all noStar=true->(backTo pos (starEach es env)).any (·.1)=false
 | [],_=>rfl
 | e::r,h=>by
  rw[aaX,aaC]at h;rw[cW r env h.1];have q:=fU (pos:=pos) (env:=env) h.2;unfold backTo at q ⊢;simpa using q
section
variable {X:Cx}{st:Stmt}{rest a b:ul}{t u:TS}{e c l r o i:Expr}{es:v6}{te ta tb tc to ti tl tr:TE}{tt tu:TT}{ts:TA}{pos p pos' apos gg:Pos}{j:Nat}{x:Str}
theorem av:sR X [] BM:=⟨Ga⟩
theorem af(h1:SS X st t)(h2:sR X rest u):sR X (st::rest) (KZ t u):=⟨BN h1.run h2.run⟩
theorem ai(h1:SS X st t):sR X [st] t:=⟨Gb h1.run⟩
theorem ax(he:SE X e te):SS X (.Return (some e) pos) (K0 te):=⟨K1 he.run⟩
theorem dO(he:SE X e te)(hs:autoParam (swapsWith e none pos.line X.env=pure false) ra0):SS X (.Expr e pos) (BO te):=⟨Gd he.run hs⟩
theorem aO(hc:ST X c tt)(ha:sR X a t)(hb:sR X b u):SS X (.If c a b pos) (K2 tt t u):=⟨O1 hc.run ha.run hb.run⟩
theorem aF(i:Nat)(hN:X.N.Nodup)(he:SE X e te)(hi:autoParam (X.N[i]?=some x) ra0)(hx:Loc X.env.scope x:=by first | exact Or.inl rfl | exact Or.inr rfl)(hs:autoParam (swapsWith e (some (.Name x pos')) pos.line X.env=pure false) ra0)(hf:autoParam (X.fn x=true\/X.env.scope.names.lookup x=some .local) ra4):SS X (.Assign [.Name x pos'] e pos) (vM te (nF i)):=⟨K9 hN hi hx he.run hs hf⟩
theorem tX{g:TG}(he:SE X e te)(hg:SG X tg g)(hs:autoParam (swapsWithSole [tg] e pos.line X.env=pure false) ra0)(hw:autoParam (swappedStores [tg] e X.env=pure none) ra0)(h1:autoParam ((assignEach [tg] X.env).map (·.2)=[assign tg X.env]) ra0):SS X (.Assign [tg] e pos) (vM te g):=⟨K8 he.run hg.run hs hw h1⟩
theorem GL{body:ul}{tb:TS}(hc:ST X c tt)(hb:sR X body tb)(hp:PassesOwn (model X.prog X.w) X.A X.env X.xe:=by exact PassesOwn.never):SS X (.While c body [] pos) (vN tt tb):=⟨BR hp hc.run hb.run⟩
theorem kD{iter:Expr}{body:ul}{wi:TI}{g:TG}{tb:TS}(hi:SI X tg iter wi)(hg:SG X tg g)(hb:sR X body tb)(hp:PassesOwn (model X.prog X.w) X.A X.env X.xe:=by exact PassesOwn.never)(hc:autoParam (X.calm=true) ra0)(hs:autoParam (∀ x,foldedSetIterable iter X.env x=pure x) ra3):SS X (.For tg iter body [] pos) (La wi g tb):=⟨Lb hp hc hi.run hg.run hb.run hs⟩
theorem bf(i:Nat)(hN:X.N.Nodup)(hi:autoParam (X.N[i]?=some x) ra0)(hx:Loc X.env.scope x:=by first | exact Or.inl rfl | exact Or.inr rfl)(hf:autoParam (X.fn x=true\/X.env.scope.names.lookup x=some .local) ra4):SG X (.Name x pos) (nF i):=⟨Gf hN hi hx hf⟩
theorem yH{t:Ge}(ho:SE X o to)(hi:SE X i ti)(hs:K3 X t)(ha:∀ v,assign (.Subscript o i pos) X.env v=(do
   let ov <- holding [v] (eval o X.env)
   let iv <- holding [v,ov] (eval i X.env)
   standAt pos
   holding [v,ov,iv] (setItem ov iv v)
   release [v,ov,iv] []):=by intro _;rfl):SG X (.Subscript o i pos) (K6 to ti t):=⟨K7 ho.run hi.run hs ha⟩
theorem jd:SF X [] K4:=⟨Gg⟩
theorem bU{tg:TG}{P4:vA}(h1:SG X e tg)(h2:SF X es P4)(hs:autoParam ((assignEach (e::es) X.env).map (·.2)=assign e X.env::(assignEach es X.env).map (·.2)) ra0):SF X (e::es) (BP tg P4):=⟨BQ h1.run h2.run hs⟩
theorem eJ(hl:SE X l tl):SI X tg l (BS X.K tl):=⟨Gh hl.run⟩
theorem fb(hm:X.mg "range"=none)(ha:SA X [e] ts)(hn:autoParam (noStar e=true) ra0)(hg:autoParam (Gl X "range") ra0):SI X tg (.Call (.Name "range" p) [e] [] pos) (BV ts) :=
 ⟨zT hg hm ha.run (cW [] X.env hn)⟩
theorem Jf(k1 k2:SK){elts:v6}{ek:Nat}{Aq:Pos}(hm:X.mg "zip"=none)(ha:SA X [e,c] ts)(hn:autoParam (noStar e=true) ra0)(Gk:autoParam (noStar c=true) ra0)(hg:autoParam (Gl X "zip") ra0) :
  SI X (.Tuple elts ek Aq) (.Call (.Name "zip" p) [e,c] [] pos) (LU X.K k1 k2 ts) :=
 ⟨LV k1 k2 hg hm ha.run (by rw[cW [c] X.env hn,cW [] X.env Gk];rfl) (cW [] X.env Gk)⟩
theorem ag:SA X [] qH:=⟨vU⟩
theorem aa(ha:SE X e te)(hr:SA X es ts)(hs:autoParam (noStar e=true) ra0):SA X (e::es) (nK te ts):=⟨mR ha.run hr.run (cW es X.env hs)⟩
theorem bV{vs:List V}(h:kB es=some vs):SA X es (tK vs):=⟨pQ h⟩
theorem aX{k:Nat}(h:SA X es ts):SE X (.Tuple es k pos) (Lm ts):=⟨Ln h.run⟩
theorem bo(h:SA X es ts):SE X (.List es pos) (B4 ts):=⟨Lo h.run⟩
theorem ah(i:Nat)(hN:autoParam (X.N[i]?=some x) ra0)(hv:Sg X.env.scope x:=by first | exact Or.inl rfl | exact Or.inr (Or.inl rfl) | exact Or.inr (Or.inr rfl))(hd:autoParam ((x == ("__debug__":Str))=false) ra1)(zO:autoParam ((x == ("__classdict__":Str))=false) ra1):SE X (.Name x pos) (KD i):=⟨KH hN hv hd zO⟩
theorem ae{n:Int}:SE X (.Constant (.int n) j pos) (tC (.int n)):=⟨BD⟩
theorem Aw{k:Bool}:SE X (.Constant (.bool k) j pos) (tC (.bl k)):=⟨IQ⟩
theorem cS:SE X (.Constant .none j pos) (tC .dj):=⟨BE⟩
theorem aj{s:Str}:SE X (.Constant (.str s) j pos) (tC (.str s)):=⟨BF⟩
theorem P5{a:Addr}(hm:X.mg x=some (.ref a))(hg:autoParam (Gl X x) ra0)(hd:autoParam ((x == ("__debug__":Str))=false) ra1):SE X (.Name x pos) (tC (.ref a)):=⟨yj hg hm rfl hd⟩
theorem Jg{n:Int}{tk:Tok}(hm:X.mg x=some (.int n tk))(hg:autoParam (Gl X x) ra0)(hd:autoParam ((x == ("__debug__":Str))=false) ra1):SE X (.Name x pos) (tC (.int n)):=⟨yj hg hm ⟨tk,rfl⟩ hd⟩
theorem aY{op:Operator}(ho:iq X (binaryOp op) r2)(ha:SE X l tl)(hb:SE X r tr):SE X (.BinOp l op r pos) (zU r2 tl tr):=⟨O6 ho ha.run hb.run⟩
theorem Ax{op:UnaryOp}{r1:V->Hp->VK->Prop}(ho:So X (unaryOp op) r1)(ha:SE X l tl):SE X (.UnaryOp op l pos) (Sq r1 tl):=⟨O7 ho ha.run⟩
theorem gA(ho:iq X (compareOp op) r2)(ha:SE X l tl)(hb:SE X r tr)(h1:autoParam (op≠.In) ra1)(h2:autoParam (op≠.NotIn) ra1):SE X (.Compare l [op] [r] pos) (zU r2 tl tr):=⟨yr ho ha.run hb.run (BZ r h1 h2)⟩
theorem ay(ho:iq X (compareOp op) r2)(ha:SE X l tl)(hb:SE X r tr)(h1:autoParam (op≠.In) ra1)(h2:autoParam (op≠.NotIn) ra1):ST X (.Compare l [op] [r] pos) (yt (zU r2 tl tr)):=⟨yu ho ha.run hb.run (BZ r h1 h2)⟩
theorem P6(ho:iq X (compareOp op) r2)(ha:SE X l tl)(hb:SE X r tr)(hm:autoParam (behindInMarks op r=false) ra2):SE X (.Compare l [op] [r] pos) (zU r2 tl tr):=⟨yr ho ha.run hb.run hm⟩
theorem pf(ho:iq X (compareOp op) r2)(ha:SE X l tl)(hb:SE X r tr)(hm:autoParam (behindInMarks op r=false) ra2):ST X (.Compare l [op] [r] pos) (yt (zU r2 tl tr)):=⟨yu ho ha.run hb.run hm⟩
theorem yI{k:Nat}(ha:SE X l tl):SE X (.Compare l [.Is] [.Constant .none k pos'] pos) (FX tl):=⟨KI (BH ha.run)⟩
theorem fV{k:Nat}(ha:SE X l tl):ST X (.Compare l [.Is] [.Constant .none k pos'] pos) (tB (FX tl)):=⟨BI (BH ha.run)⟩
theorem fc{k:Nat}(ha:SE X l tl):ST X (.Compare l [.IsNot] [.Constant .none k pos'] pos) (tB (BG tl)):=⟨BI (FY ha.run)⟩
theorem GN{Lg:CmpOp}{r1:R2}(ho:iq X (compareOp op) r1)(BB:iq X (compareOp Lg) r2)(ha:SE X l tl)(hb:SE X r tr)(hc:SE X c tc)(hm:autoParam (lastMarks [op,Lg] [r,c]=false) ra2):SE X (.Compare l [op,Lg] [r,c] pos) (vQ r1 r2 tl tr tc):=⟨B0 ho BB ha.run hb.run hc.run hm⟩
theorem bx(ha:ST X e tt):SW X (.BoolOp .And [e] pos) tt:=⟨FZ ha.run⟩
theorem jW(ha:ST X e tt):SW X (.BoolOp .Or [e] pos) tt:=⟨KP ha.run⟩
theorem w_and(ha:ST X e tt)(hb:SW X (.BoolOp .And (c::es) pos) tu):SW X (.BoolOp .And (e::c::es) pos) (KL tt tu):=⟨KQ ha.run hb.run⟩
theorem w_or(ha:ST X e tt)(hb:SW X (.BoolOp .Or (c::es) pos) tu):SW X (.BoolOp .Or (e::c::es) pos) (TH tt tu):=⟨OY ha.run hb.run⟩
theorem gN(h:SW X e tt):ST X e tt:=⟨h.run.pt⟩
theorem jX(ha:ST X e tt):ST X (.UnaryOp .Not e pos) (KN tt):=⟨KR ha.run⟩
theorem nW(h:SE X e te)(he:autoParam (∀ whole,isTrue e X.env whole=(do let v <- whole;standAt e.pos;holding [v] (truthy v))) ra3):ST X e (tB te):=⟨KJ h.run he⟩
theorem tY{op:BoolOp}(h:SE X e te):SE X (.BoolOp op [e] pos) te:=⟨KU h.run⟩
theorem tZ(ha:SE X e te)(hb:SE X (.BoolOp .And (c::es) pos) tb):SE X (.BoolOp .And (e::c::es) pos) (BJ te tb):=⟨KW ha.run hb.run⟩
theorem Um(ha:SE X e te)(hb:SE X (.BoolOp .Or (c::es) pos) tb):SE X (.BoolOp .Or (e::c::es) pos) (KS te tb):=⟨OZ ha.run hb.run⟩
theorem Jh(ha:SE X e te):SE X (.UnaryOp .Not e pos) (BK te):=⟨KY ha.run⟩
theorem qW(hc:ST X c tt)(ha:SE X l tl)(hb:SE X r tr):SE X (.IfExp c l r pos) (TJ tt tl tr):=⟨BL hc.run ha.run hb.run⟩
theorem ao(ha:SE X l tl)(hb:SE X r tr)(hs:autoParam (yA r) ra8):SE X (.Subscript l r pos) (zU (Sx X.K) tl tr):=⟨Pm Lx ha.run hb.run hs⟩
theorem LX(ha:SE X l tl)(hb:SE X r tr)(hs:autoParam (Ah r) ra8):SE X (.Subscript l r pos) (CF X.K X.w tl tr):=⟨GI ha.run hb.run hs⟩
theorem fe:SO X none qK:=⟨Gx⟩
theorem eM(h:SE X e te):SO X (some e) (Ci te):=⟨Gy h.run⟩
theorem j3{lo hi:Option Expr}{WY WZ:TO}{r4:V->v0->v0->Hp->VK->Prop}(hr:Pk X r4)(he:SE X e te)(hl:SO X lo WY)(hu:SO X hi WZ):SE X (.Subscript e (.Slice lo hi none p) pos) (TY r4 te WY WZ):=⟨Cj hr he.run hl.run hu.run⟩
theorem aq{k:Nat}{f:Addr}{fd:wT}{ps:wv}{sp:Sp}(D:Dn X.prog X.w X.K X.mg X.base k x f fd ps sp)(hr:cT j X.A)(ha:SA X (e::es) ts)(hk:autoParam (k<=j) ra7)(hs:autoParam ((e::es).all noStar=true) ra0)(hg:autoParam (Gl X x) ra0)(tG:autoParam ((x == ("__debug__":Str))=false) ra1):SE X (.Call (.Name x p) (e::es) [] pos) (yv sp [] E0 ts) :=
 ⟨CG D hr ha.run hk hg tG (cW es X.env (by rw[aaX,aaC]at hs;exact hs.1)) (fU (by rw[aaX,aaC]at hs;exact hs.2))⟩
theorem bJ{id:String}{rr:List V->Hp->VK->Prop}(hc:fO X (.builtin id) rr)(hm:X.mg x=none)(hv:bootBuiltins x=some (.builtin id))(ha:SA X (e::es) ts)(hs:autoParam ((e::es).all noStar=true) ra0)(hg:autoParam (Gl X x) ra0)(hn:autoParam (x ≠ "__name__") ra1)(tG:autoParam ((x == ("__debug__":Str))=false) ra1) :
  SE X (.Call (.Name x p) (e::es) [] pos) (Lq rr ts) :=
 ⟨tI hc hg hm hv ha.run hn tG (cW es X.env (by rw[aaX,aaC]at hs;exact hs.1)) (fU (by rw[aaX,aaC]at hs;exact hs.2))⟩
theorem cE{rr:List V->Hp->VK->Prop}(hc:fO X (.type T) rr)(hm:X.mg x=none)(hv:bootBuiltins x=some (.type T))(ha:SA X (e::es) ts)(hs:autoParam ((e::es).all noStar=true) ra0)(hg:autoParam (Gl X x) ra0)(hn:autoParam (x ≠ "__name__") ra1)(tG:autoParam ((x == ("__debug__":Str))=false) ra1) :
  SE X (.Call (.Name x p) (e::es) [] pos) (Lq rr ts) :=
 ⟨Ad hc hg hm hv ha.run hn tG (cW es X.env (by rw[aaX,aaC]at hs;exact hs.1)) (fU (by rw[aaX,aaC]at hs;exact hs.2))⟩
theorem jN{name:Str}{id:String}{rr:V->List V->Hp->VK->Prop}(pa:PlainAttrs T)(slot:Slot T name id)(T4:typeOf (.builtin id)=pure (.type "method_descriptor"))(hm:Sw X id rr)(ho:SE X o to)(ha:SA X (e::es) ts)(hs:autoParam ((e::es).all noStar=true) ra0)(Cm:autoParam (attributeBase o name X.env (eval o X.env)=eval o X.env) ra0)(LC:((backTo gg (starEach (e::es) X.env)).all (fun x=>!x.1)&&(backToKw gg (keywordEach [] X.env)).all (fun x=>x.1.isSome)
   && decide ((e::es).length+([]:List Keyword).length+(if([]:List Keyword).isEmpty then 0 else 1) < 30))=true:=by rfl)(Cn:(apos.endLine == gg.line)=true:=by rfl):SE X (.Call (.Attribute o name apos) (e::es) [] gg) (T3 X.K T rr to ts) :=
 ⟨Pt pa slot T4 hm ho.run ha.run Cm LC Cn (cW es X.env (by rw[aaX,aaC]at hs;exact hs.1)) (fU (by rw[aaX,aaC]at hs;exact hs.2))⟩
theorem yJ(mi:X.mg "isinstance"=none)(mT:X.mg x=none)(hb:bootBuiltins x=some (.type T))(he:SE X e te)(hT:autoParam (T = "bool"\/T = "int"\/T = "str"\/T = "list"\/T = "tuple") ra9)(h1:autoParam (noStar e=true) ra0)(gi:autoParam (Gl X "isinstance") ra0)(gT:autoParam (Gl X x) ra0)(hn:autoParam (x ≠ "__name__") ra1)(hd:autoParam ((x == ("__debug__":Str))=false) ra1) :
  SE X (.Call (.Name "isinstance" pos') [e,.Name x p] [] pos) (Lq (GK T) (nK te (nK (tC (.ty T)) qH))):=⟨LW T mi mT hb he.run hT gi gT hn hd (cW [.Name x p] X.env h1)⟩
end
theorem cM.LY{P:u8}{w:World}{K:zn}{mg:xL}{base:Heap}{x qual:Str}{st:Stmt}{f:Addr}{fd:wT}{N ps:wv}{k:Nat}{sp:Sp}(F:cM K x qual st f fd)(S:aB N ps (defScope st))(len:∀ vs H Q E,sp vs H Q E->vs.length=ps.length)(dJ:∀(bz:Value) (A:tx) (outer:List Env) (s:Shared) (H:Hp) (vs:List V) (Q:VK) (E:XK),cT k (A.deeper (envOfC qual (defScope st) s.heap.objs.size f bz))->sp vs H Q E ->
   ∃ t,sR (gf cU P w K mg base N qual (defScope st) f bz A outer s H E).zQ (defBody st) t/\t { nx:=fun _ H'=>Q .dj H',rt:=Q } (start N vs) H):ba P w K mg base cU (k+1) f fd ps sp :=
 F.ok S len fun bz A outer s H vs Q E hr h=>by
  obtain⟨t,h1,h2⟩:=dJ bz A outer s H vs Q E hr h;exact⟨t,h1.run,h2⟩
end L2
namespace L2
open PySem PySem.Spec PyProof.Rows
variable {env:Env}{scope:Scope}{cells:List (Str×Addr)}{x:Str}{c:Addr}{s:Shared}{X:Cx}{N':wv}{ix:List (Option Nat)}{pins:yp}{H H':Hp}{elt iter:Expr}{ifs:v6}{pos:Pos}{tt:TT}{g:TG}{te:TE}{A B p:Prop}
noncomputable def iN(cells:List (Str×Addr)):List (Str×NameKind)->List (Str×Addr)->List (Str×Addr)
 | [],cs=>cs
 | (n,k)::r,cs=>iN cells r (if k == .free then(match cells.lookup n with | some a=>(n,a)::cs | none=>cs)else cs)
theorem pR{env:Env}:∀(ns:List (Str×NameKind)) (cs:List (Str×Addr)),(∀ y∈ns,y.2=.free->∃ c,env.cells.lookup y.1=some c) ->
  (forIn ns cs fun x r=>match x with | (name,kind)=>if(kind == NameKind.free)=true then do let a <- cellOf env name;pure (ForInStep.yield ((name,a)::r))else pure (ForInStep.yield r))=(pure (iN env.cells ns cs):Sem (List (Str×Addr)))
 | [],cs,_=>rfl
 | (n,k)::r,cs,h=>by
  have ih:=fun Y3=>pR (env:=env) r Y3 fun y hy=>h y (aax _ hy);rw[adm];cases hk:k == NameKind.free with
  | false =>
   have e:iN env.cells ((n,k)::r) cs=iN env.cells r cs:=by simp[iN,hk]
   rw[e,<- ih cs];simp[hk]
  | true =>
   have CJ:k=.free:=by simpa using hk
   obtain⟨c,hc⟩:=h (n,k) aaF CJ;have BC:env.cells.lookup n=some c:=hc;have e:iN env.cells ((n,k)::r) cs=iN env.cells r ((n,c)::cs):=by simp[iN,hk,BC]
   rw[e,<- ih ((n,c)::cs)];have Y4:cellOf env n=pure c:=by unfold cellOf;rw[BC]
   simp[hk,Y4]
theorem nX(h:∀ y∈scope.names,y.2=.free->∃ c,env.cells.lookup y.1=some c):closureFor scope env=pure (iN env.cells scope.names []):=by
 unfold closureFor;have:=pR (env:=env) scope.names [] h;simp only at this ⊢;rw[this]
 rfl
theorem qY{cells:List (Str×Addr)}{x:Str}{c:Addr}:∀(ns:List (Str×NameKind)) (cs:List (Str×Addr)),(∀ z d,cs.lookup z=some d->cells.lookup z=some d)->(iN cells ns cs).lookup x=some c->cells.lookup x=some c
 | [],cs,h,e=>h x c e
 | (n,k)::r,cs,h,e=>by
  refine qY r _ (fun z d=>?_) e;split
  ·split
   ·rename_i a ha;intro q;rw[aaZ]at q;split at q
    ·rename_i hz;have:z=n:=by simpa using hz
     subst this;cases q;exact ha
    ·exact h z d q
   ·exact h z d
  ·exact h z d
theorem mW{cells:List (Str×Addr)}{x:Str}:∀(ns:List (Str×NameKind)) (cs:List (Str×Addr)),((cs.lookup x).isSome=true\/((x,NameKind.free)∈ns/\(cells.lookup x).isSome=true))->((iN cells ns cs).lookup x).isSome=true
 | [],cs,h=>by
  rcases h with h | ⟨h,_⟩
  ·exact h
  ·cases h
 | (n,k)::r,cs,h=>by
  refine mW r _ ?_;have keep:(cs.lookup x).isSome=true->((if k == .free then(match cells.lookup n with | some a=>(n,a)::cs | none=>cs)else cs).lookup x).isSome=true:=fun q=>by
   split
   ·split
    ·rw[aaZ];split
     ·rfl
     ·exact q
    ·exact q
   ·exact q
  rcases h with h | ⟨h,hc⟩
  ·exact .inl (keep h)
  ·rcases aan.mp h with e | e
   ·injection e with e1 e2
    subst e1;subst e2;left;cases q:cells.lookup x with
    | none=>rw[q]at hc;cases hc
    | some a=>simp
   ·exact .inr ⟨e,hc⟩
theorem kE{env:Env}{x:Str}{k':NameKind}:∀{names:List (Str×NameKind)},(names.map fun(n,k)=>if(k == NameKind.free&&env.scope.kind == .function&&env.kindOf n == some .cell) then(n,NameKind.cell) else(n,k)).lookup x=some k' ->
  ∃ k,(x,k)∈names/\(k'=k\/(k=.free/\k'=.cell))
 | [],h=>by simp at h
 | (n,k)::r,h=>by
  have ih:=@kE env x k' r;rw[aaz]at h
  by_cases hc:(k == NameKind.free&&env.scope.kind == .function&&env.kindOf n == some .cell)=true
  ·simp only[hc,acu,aaZ]at h;split at h
   ·rename_i hz;have:x=n:=by simpa using hz
    subst this;cases h;have hk:k=.free:=by
     rw[aaC,aaC]at hc;simpa using hc.1.1
    exact⟨k,aaF,.inr ⟨hk,rfl⟩⟩
   ·obtain⟨k2,m,q⟩:=ih h;exact⟨k2,aax _ m,q⟩
  ·simp only[hc,acx,adb,aaZ]at h;split at h
   ·rename_i hz;have:x=n:=by simpa using hz
    subst this;cases h;exact⟨_,aaF,.inl rfl⟩
   ·obtain⟨k2,m,q⟩:=ih h;exact⟨k2,aax _ m,q⟩
theorem mem_of_lookup{x:Str}{k:NameKind}:∀(l:List (Str×NameKind)),l.lookup x=some k->(x,k)∈l
 | [],q=>by cases q
 | (n,k2)::r,q=>by
  rw[aaZ]at q;split at q
  ·rename_i hz;have:x=n:=by simpa using hz
   subst this;cases q;exact aaF
  ·exact aax _ (mem_of_lookup r q)
theorem lC{x:Str}{c:Addr}:∀(names:List (Str×NameKind)) (n:Nat) (acc:List (Str×Addr)),(cellsFrom n names acc).lookup x=some c->acc.lookup x=some c\/(n<=c/\(x,NameKind.cell)∈names)
 | [],_,_,h=>.inl h
 | (y,k)::r,n,acc,h=>by
  unfold cellsFrom at h;split at h
  ·rename_i hk;have CJ:k=.cell:=by simpa using hk
   rcases lC r _ _ h with q | ⟨q,m⟩
   ·rw[aaZ]at q;split at q
    ·rename_i hz;have:x=y:=by simpa using hz
     subst this;subst CJ;cases q;exact .inr ⟨aao _,aaF⟩
    ·exact .inl q
   ·exact .inr ⟨aaq (abB _) q,aax _ m⟩
  ·exact(lC r _ _ h).imp id fun⟨a,b⟩=>⟨a,aax _ b⟩
theorem je{x:Str}:∀(names:List (Str×NameKind)) (n:Nat) (acc:List (Str×Addr)),(x,NameKind.cell) ∉ names->(cellsFrom n names acc).lookup x=acc.lookup x
 | [],_,_,_=>rfl
 | (y,k)::r,n,acc,h=>by
  have hr:(x,NameKind.cell) ∉ r:=fun z=>h (aax _ z);unfold cellsFrom;split
  ·rename_i hk;have CJ:k=.cell:=by simpa using hk
   rw[je r _ _ hr,aaZ];split
   ·rename_i hz;have:x=y:=by simpa using hz
    subst this;subst CJ;exact absurd aaF h
   ·rfl
  ·exact je r _ _ hr
theorem wy{x:Str}:∀(names:List (Str×NameKind)) (n:Nat) (acc:List (Str×Addr)),((acc.lookup x).isSome=true\/(x,NameKind.cell)∈names)->((cellsFrom n names acc).lookup x).isSome=true
 | [],_,_,h=>h.elim id fun z=>nomatch z
 | (y,k)::r,n,acc,h=>by
  unfold cellsFrom;split
  ·rename_i hk;refine wy r _ _ ?_;rcases h with h | h
   ·left;rw[aaZ];split
    ·rfl
    ·exact h
   ·rcases aan.mp h with e | e
    ·injection e with e1 _
     left;rw[e1,aaZ,adg]
     rfl
    ·exact .inr e
  ·rename_i hk;refine wy r _ _ (h.imp id fun z=>?_);rcases aan.mp z with e | e
   ·injection e with _ e2
    rw[<- e2]at hk;exact absurd rfl hk
   ·exact e
theorem wz{x:Str}{c:Addr}:∀(names:List (Str×NameKind)) (n:Nat) (acc:List (Str×Addr)),((x,NameKind.cell)∈names\/∀ d,acc.lookup x=some d->n<=d)->(cellsFrom n names acc).lookup x=some c->n<=c
 | [],_,_,h,e=>h.elim (fun z=>nomatch z) fun z=>z c e
 | (y,k)::r,n,acc,h,e=>by
  unfold cellsFrom at e;split at e
  ·rename_i hk
   by_cases hm:(x,NameKind.cell)∈r
   ·exact aaq (abB _) (wz r _ _ (.inl hm) e)
   ·rw[je r _ _ hm,aaZ]at e;split at e
    ·cases e;exact aao _
    ·rename_i hz;rcases h with h | h
     ·rcases aan.mp h with q | q
      ·injection q with q1 _
       rw[q1,adg]at hz;cases hz
      ·exact absurd q hm
     ·exact h c e
  ·rename_i hk;refine wz r _ _ (h.imp (fun z=>?_) id) e;rcases aan.mp z with q | q
   ·injection q with _ q2
    rw[<- q2]at hk;exact absurd rfl hk
   ·exact q
theorem wA{n0:Nat}:∀(names:List (Str×NameKind)) (n:Nat) (acc:List (Str×Addr)),(∀ p∈acc,p.2 < n)->(∀ p∈acc,∀ q∈acc,n0<=p.2->p.2=q.2->p.1=q.1)->∀ p∈cellsFrom n names acc,∀ q∈cellsFrom n names acc,n0<=p.2->p.2=q.2->p.1=q.1
 | [],_,_,_,h=>h
 | (y,k)::r,n,acc,hl,h=>by
  unfold cellsFrom;split
  ·refine wA r (n+1) ((y,n)::acc) (fun p hp=>?_) fun p hp q hq h0 he=>?_
   ·rcases aan.mp hp with e | e
    ·rw[e];exact abN _
    ·exact ac4 (hl p e)
   ·rcases aan.mp hp with e | e<;>rcases aan.mp hq with e' | e'
    ·rw[e,e']
    ·rw[e]at he;exact absurd (hl q e') (by rw[<- he];exact aa1 _)
    ·rw[e']at he;exact absurd (hl p e) (by rw[he];exact aa1 _)
    ·exact h p e q e' h0 he
  ·exact wA r n acc hl h
theorem qZ:∀(names:List (Str×NameKind)) (h:Heap) (acc:List (Str×Addr)) (p:Str×Addr),p∈cellsFrom h.objs.size names acc->p∈acc\/(pushCells h names).IsCell p.2 none
 | [],_,_,_,m=>.inl m
 | (y,k)::r,h,acc,p,m=>by
  unfold cellsFrom at m;unfold pushCells;split at m
  ·rename_i hk;rw[aaE hk];have:=qZ r (h.push { cls:=.type "cell",data:=.cell none }) ((y,h.objs.size)::acc) p (by rw[aba];exact m);rcases this with q | q
   ·rcases aan.mp q with e | e
    ·rw[e];exact .inr ⟨_,pushCells_keeps r _ _ _ (aau _ rfl),rfl⟩
    ·exact .inl e
   ·exact .inr q
  ·rename_i hk;rw[aaA hk];exact qZ r h acc p m
theorem mX{cells:List (Str×Addr)}{p:Str×Addr}:∀(ns:List (Str×NameKind)) (cs:List (Str×Addr)),p∈iN cells ns cs->p∈cs\/cells.lookup p.1=some p.2
 | [],_,h=>.inl h
 | (n,k)::r,cs,h=>by
  unfold iN at h;rcases mX r _ h with q | q
  ·split at q
   ·split at q
    ·rename_i a ha;rcases aan.mp q with e | e
     ·rw[e];exact .inr ha
     ·exact .inl e
    ·exact .inl q
   ·exact .inl q
  ·exact .inr q
theorem mem_lookup{x:Str}{c:Addr}:∀{l:List (Str×Addr)},l.lookup x=some c->(x,c)∈l
 | [],q=>by cases q
 | (n,k2)::r,q=>by
  rw[aaZ]at q;split at q
  ·rename_i hz;have:x=n:=by simpa using hz
   subst this;cases q;exact aaF
  ·exact aax _ (mem_lookup q)
theorem wB{M:Model}{A:tx}{E:xz}{globals:Addr}{closure:List (Str×Addr)}{qual:Str}{Q:Env->Shared->Prop}(hQ:∀ h',h'=pushCells (s.heap.push { cls:=.type "dict",data:=.dict #[] }) scope.names->h'.Ns s.heap.objs.size (fun _=>none) ->
   Q (newEnv scope s.heap.objs.size globals (cellsFrom (s.heap.objs.size+1) scope.names closure) qual none .none (some env) builtinsNs) { s with heap:=h' }) :
  wpAny M A (newFunctionEnv scope globals closure [] qual none .none (some env)) Q E s:=by
 simp only[newFunctionEnv,Option.isSome_some,acu];refine aaj (wpAny_alloc ?_);refine aaj (wpAny_layCells _ (fun name kind cells=>by cases Y5:kind == NameKind.cell<;>simp[Y5]) _ _ _ _ ?_);rw[show({ s with heap:=s.heap.push { cls:=.type "dict",data:=.dict #[] } }:Shared).heap.objs.size=s.heap.objs.size+1 from aba ..];refine aaj ?_;rw[adu];exact aam (aam (hQ _ rfl ((Heap.Ns.new s.heap (.type "dict")).keeps (pushCells_keeps _ _))))
noncomputable def wC(X:Cx)(scope:Scope)(C:Addr):List (Str×Addr):=cellsFrom (C+1) scope.names (iN X.env.cells scope.names [])
noncomputable def iO(X:Cx)(scope:Scope)(N':wv)(bc:Shared)(bE:Hp)(C:Addr)(ex:ww):Cx :=
 { X with N:=N',bc:=bc,bE:=bE,env:=compEnvC scope (wC X scope C) C X.env,outer:=X.stack,stack:=X.stack,ex:=ex,fn:=fun x=>scope.names.lookup x == some .cell,calm:=true,pn:=[],xe:=fun _ _=>False }
def blk(ix:List (Option Nat))(σ:St):St:=ix.map fun o=>match o with | none=>none | some j=>(σ[j]?).join
structure gU(X:Cx)(scope:Scope)(N':wv)(ix:List (Option Nat)):Prop where
 kind:scope.kind=.function
 Y6:scope.names.all (fun y=>y.2 != .cell||scope.names.lookup y.1 == some .cell)=true
 free:scope.names.all (fun y=>y.2 != .free||(X.env.scope.names.lookup y.1 == some .cell||X.env.scope.names.lookup y.1 == some .free))=true
 loc:scope.names.all (fun y=>y.2 != .local||scope.names.lookup y.1 == some .local)=true
 len:N'.length=ix.length
 ok:(N'.zip ix).all (fun p=>match p.2 with | none=>true | some j=>X.N[j]? == some p.1&&scope.names.lookup p.1 == some .free&&(X.env.scope.names.lookup p.1 == some .cell||X.env.scope.names.lookup p.1 == some .free))=true
section
variable {σ:St}{bu s₃:Shared}{fp:ww}{m:xL}{D C:Addr}
theorem gU.has(B:gU X scope N' ix)(ok:X.Ok):∀ y∈scope.names,y.2=.free->∃ c,X.env.cells.lookup y.1=some c:=fun y hy e=>by
 have:=(abm.mp B.free) y hy;rw[e]at this;simp at this;rcases this with q | q
 ·exact ok.has y.1 (.inl q)
 ·exact ok.has y.1 (.inr q)
theorem gU.Ji(B:gU X scope N' ix)(h:scope.names.lookup x=some .free):(x,NameKind.cell) ∉ scope.names:=fun m=>by
 have:=(abm.mp B.Y6) _ m;simp[h]at this
theorem gU.names(B:gU X scope N' ix):∀ y∈scope.names,y.2=.local->scope.names.lookup y.1=some .local:=fun y hy e=>by
 have:=(abm.mp B.loc) y hy;rw[e]at this;simpa using this
theorem Inv.block(I:Inv X pins σ H bu)(B:gU X scope N' ix)(hc:X.calm=true)(GO:∀ b∈fp,kj X pins H b)(Y7:∀ b∈fp,∃ o,bu.heap.get? b=some o)(e3:s₃.os=bu.os)(hD:D=bu.heap.objs.size)(k3:∀ b o,bu.heap.get? b=some o->s₃.heap.get? b=some o)(hC:C=s₃.heap.objs.size)(Jj:D < C)(SH:bu.heap.objs.size<=s₃.heap.objs.size)(eo:s.os=bu.os)(eg:s.gens=bu.gens)(k4:∀ b o,s₃.heap.get? b=some o->s.heap.get? b=some o)(hn:s.heap.Ns C m)(Uo:∀ p∈wC X scope C,p∈iN X.env.cells scope.names []\/s.heap.IsCell p.2 none):Inv (iO X scope N' s₃ H C (D::fp)) [] (blk ix σ) H s:=by
 have iz:=I.lt;have Y8:(D:Nat)=bu.heap.objs.size:=hD;have P7:(C:Nat)=s₃.heap.objs.size:=hC;have P8:∀ x c,(iN X.env.cells scope.names []).lookup x=some c->X.env.cells.lookup x=some c:=fun x c e=>qY _ _ (fun z d q=>by cases q) e;have nY:∀ x c,X.env.cells.lookup x=some c->c < bu.heap.objs.size:=fun x c e=>let ⟨v,q⟩:=I.cell x c e;q.lt;have GP:∀ b∈fp,b < bu.heap.objs.size:=fun b hb=>let ⟨o,q⟩:=Y7 b hb;aar q;have OC:bu.heap.objs.size<=C:=aaq SH (ab8 P7.symm);have lD:∀ x c,(wC X scope C).lookup x=some c->X.env.cells.lookup x=some c\/(C+1<=c/\s.heap.IsCell c none):=fun x c e=>by
  rcases lC _ _ _ e with q | ⟨q,_⟩
  ·exact .inl (P8 x c q)
  ·rcases Uo _ (mem_lookup e)with z | z
   ·exfalso;have iz:∀ p∈iN X.env.cells scope.names [],p.2 < bu.heap.objs.size:=fun p hp=>by
     rcases mX _ _ hp with w | w
     ·cases w
     ·exact nY p.1 p.2 w
    exact aa1 _ (aaD (iz _ z) (aaq OC (aaq (abB _) q)))
   ·exact .inr ⟨q,z⟩
 have Up:∀ x y c,(wC X scope C).lookup x=some c->(wC X scope C).lookup y=some c->x=y:=fun x y c e1 e2=>by
  rcases lD x c e1 with q | ⟨q,_⟩
  ·rcases lD y c e2 with z | ⟨z,_⟩
   ·exact I.ok.inj x y c q z
   ·exact absurd (nY x c q) (Nat.not_lt_of_le (aaq OC (aaq (abB _) z)))
  ·refine wA (n0:=C+1) scope.names (C+1) _ (fun p hp=>?_) (fun p hp _ _ h0 _=>?_) (x,c) (mem_lookup e1) (y,c) (mem_lookup e2) q rfl
   ·rcases mX _ _ hp with w | w
    ·cases w
    ·exact aaD (nY p.1 p.2 w) (aaq OC (abB _))
   ·rcases mX _ _ hp with w | w
    ·cases w
    ·exact absurd (nY p.1 p.2 w) (Nat.not_lt_of_le (aaq OC (aaq (abB _) h0)))
 have nD:H D=none:=I.cv.fresh (ab8 Y8.symm);have nC:H C=none:=I.cv.fresh (aaq SH (ab8 P7.symm));have P9:s₃.heap.FunFrames X.base X.stack:=by
  have all:∀(l:List Env),bu.heap.FunFrames X.base l->s₃.heap.FunFrames X.base l:=by
   intro l;induction l with
   | nil=>intro _;trivial
   | cons env r ih =>
    intro hl;obtain⟨hk,⟨L,o,hf,hn,ho,hd⟩,hr⟩:=hl;exact⟨hk,⟨L,o,hf,hn,k3 L o ho,hd⟩,ih hr⟩
  exact all _ I.stack
 have Uq:∀ b∈gR X.stack,b < bu.heap.objs.size:=fun b hb=>let ⟨_,o,ho,_⟩:=I.stack.mem hb;aar ho;refine⟨⟨I.ok.mod,B.kind,I.ok.glob,I.ok.blt,ab8 P7.symm,Up,fun x hx=>?_,fun x c q e=>?_,fun _=>I.ok.hd hc,I.ok.frames,.inl rfl,fun b hb=>?_,fun b o e=>?_,?_,fun b o e hb=>?_,fun b hb=>?_,P9,I.qD⟩,
  eo.trans e3.symm,by rw[eg];exact I.bare,Un.kept k4,⟨m,hn,fun i x v e1 e2 e3=>?_⟩,fun x c e=>?_,nC,fun x c e=>(lD x c e).elim (I.iA x c) fun z=>I.cv.fresh (aaq OC (aaq (abB _) z.1)),fun p hp=>(nomatch hp),I.cv.kept fun b o e=>k4 b o (k3 b o e),?_⟩
 ·have fr:(x,NameKind.free)∈scope.names\/(x,NameKind.cell)∈scope.names:=by
   rcases hx with q | q
   ·obtain⟨k,hm,q⟩:=kE q;rcases q with q | ⟨q,_⟩
    ·rw[<- q]at hm;exact .inr hm
    ·rw[q]at hm;exact .inl hm
   ·left;obtain⟨k,hm,q⟩:=kE q;rcases q with q | ⟨_,q⟩
    ·rw[<- q]at hm;exact hm
    ·cases q
  refine abn.mp (wy scope.names (C+1) _ (fr.imp (fun fr=>?_) id));obtain⟨c,q⟩:=B.has I.ok _ fr rfl;exact mW (cells:=X.env.cells) (x:=x) scope.names [] (.inr ⟨fr,by rw[q];rfl⟩)
 ·have q':scope.names.lookup x=some .cell:=by simpa [iO] using q
  have:=wz scope.names (C+1) _ (.inl (mem_of_lookup _ q')) e;show s₃.heap.objs.size<=c;exact aaq (ab8 P7.symm) (aaq (abB _) this)
 ·rcases aan.mp hb with e | hb
  ·refine⟨by rw[e];exact aaO Jj,fun x c q z=>?_⟩;rcases lD x c q with w | ⟨w,_⟩
   ·have l:=nY x c w;rw[z,e,hD]at l;exact aa1 _ l
   ·rw[z,e]at w;exact aa1 _ (aaD Jj (aaq (abB _) w))
  ·have l:=GP b hb;refine⟨aaO (aaD l (aaq SH (ab8 P7.symm))),fun x c q z=>?_⟩;rcases lD x c q with w | ⟨w,_⟩
   ·exact(GO b hb).2.2.2.2.1 x c w z
   ·rw[z]at w;exact aa1 _ (aaD l (aaq OC (aaq (abB _) w)))
 ·exact⟨k3 b o (I.bs b o e).1,(I.bs b o e).2⟩
 ·exact aaq I.ok.IJ (aaq I.sz SH)
 ·rcases aan.mp hb with z | hb
  ·have l:=aar (I.bk b o e);rw[z,hD]at l;exact aa1 _ l
  ·rcases (GO b hb).2.2.2.1 with q | q
   ·exact I.ok.Bz b o e q
   ·exact aa1 _ (aaD (aar (I.ok.bs b o e).1) q)
 ·rcases aan.mp hb with z | hb
  ·intro q;have l:=Uq b q;rw[z,hD]at l;exact aa1 _ l
  ·intro q;rcases aan.mp (I.vL b q)with z | z
   ·exact(GO b hb).2.1 z
   ·exact(GO b hb).2.2.1 z
 ·-- O4 is Qa
  have hi:∃ o,ix[i]?=some o/\(match o with | none=>none | some j=>(σ[j]?).join)=some v:=by
   unfold blk at e2;rw[aap]at e2;cases q:ix[i]? with
   | none=>rw[q]at e2;cases e2
   | some o=>rw[q]at e2;exact⟨o,rfl,aaV e2⟩
  obtain⟨o,ho,hv⟩:=hi;cases o with
  | none=>cases hv
  | some j =>
   have hz:(N'.zip ix)[i]?=some (x,some j):=by
    rw[abi];exact⟨e1,ho⟩
   have:=(abm.mp B.ok) _ (abw hz);simp only[aaC,ab6,Bool.or_eq_true]at this;obtain⟨⟨a1,a2⟩,a3⟩:=this;have hs:σ[j]?=some (some v):=by
    replace hv:(σ[j]?).join=some v:=hv;cases q:σ[j]? with
    | none=>rw[q]at hv;cases hv
    | some y=>rw[q]at hv;exact abK some hv
   obtain⟨mo,TX,Sz⟩:=I.loc;obtain⟨u,ru,lu⟩:=Sz j x v a1 hs (a3.elim (fun a=>.inr (.inl a)) (fun a=>.inr (.inr a)));refine⟨u,ru,.inr ⟨?_,?_⟩⟩
   ·have hm:∃ k,(relabel scope X.env).names.lookup x=some k:=by
     rcases e3 with q | q | q<;>exact⟨_,q⟩
    obtain⟨k,hk⟩:=hm;obtain⟨k2,mem,q⟩:=kE (env:=X.env) hk;rcases e3 with z | z | z
    ·-- local: no
     have z':(relabel scope X.env).names.lookup x=some .local:=z;rw[hk]at z';cases z';rcases q with q | ⟨_,q⟩
     ·subst q;have:=B.names _ mem rfl;rw[show scope.names.lookup x=some .free from a2]at this;cases this
     ·cases q
    ·exact .inl z
    ·exact .inr z
   ·rcases lu with⟨q,_⟩ | ⟨_,c,Jk,Br⟩
    ·have q':X.env.scope.names.lookup x=some .local:=q;rcases a3 with a | a<;>(rw[a]at q';cases q')
    ·obtain⟨c',BC⟩:=abn.mp (mW (cells:=X.env.cells) (x:=x) scope.names [] (.inr ⟨mem_of_lookup _ a2,by rw[Jk];rfl⟩));have:=P8 x c' BC;rw[Jk]at this;cases this;obtain⟨ob,Jl,ku⟩:=Br;exact⟨c,(je _ _ _ (B.Ji a2)).trans BC,ob,k4 _ _ (k3 _ _ Jl),ku⟩
 ·rcases lD x c e with w | ⟨_,w⟩
  ·obtain⟨v,ob,Jl,ku⟩:=I.cell x c w;exact⟨v,ob,k4 _ _ (k3 _ _ Jl),ku⟩
  ·exact⟨none,w⟩
 ·show(blk ix σ).length=N'.length;unfold blk;rw[aak,B.len]
end
theorem Ay{prog:u8}{w:World}{A:tx}{R:Result->Shared->Prop}{target:Expr}{it acc:Value}(I:Nat->Shared->Prop)(turn:∀ n s,I n s->wpAny (model prog w) A (pyNext it) (fun r bH=>match r with
   | none=>R (.ok .next) bH
   | some v=>wpAny (model prog w) A (letOwnedTupleGo target it v) (fun _ Jm=>wpAny (model prog w) A (assign target env v) (fun _ bu =>
     wpAny (model prog w) A (forIn ifs true fun c r=>if r=true then do let ok <- isTrue c env (eval c env);pure (ForInStep.yield ok)else pure (ForInStep.yield r)) (fun ok s₃ =>
      if ok=true then wpAny (model prog w) A (eval elt env) (fun x GQ =>
       wpAny (model prog w) A (call (.builtin "list.append") [acc,x]) (fun _ Qb=>∃ m,m < n/\I m Qb) (fun _ _=>False) GQ) (fun _ _=>False) s₃
      else ∃ m,m < n/\I m s₃) (fun _ _=>False) bu) (fun _ _=>False) Jm) (fun _ _=>False) bH) (fun _ _=>False) s)(n:Nat)(h:I n s) :
  codeAny (model prog w) A (.compLoop (.ListComp elt [⟨target,iter,ifs,0⟩] scope pos) 0 it acc env) R s:=by
 refine codeAny_loop rfl I (fun n s hI=>?_) n h;show wpAny _ A ((compTurn (.ListComp elt [⟨target,iter,ifs,0⟩] scope pos) 0 it acc env).onRaise (fun x=>do noteFrame x env;theTreesLotGoes x)) _ _ s;refine wpAny_noted ?_;rw[compTurn_list];refine aaj (ada (aaj (abv (turn n s hI) (fun r bH fQ=>?_) fun _ _ h'=>h'.elim)));cases r with
 | none=>exact aam fQ
 | some v =>
  refine aaj (abv fQ (fun _ Jm fQ=>?_) fun _ _ h'=>h'.elim);refine aaj (abv fQ (fun _ bu iL=>aaj (abv iL (fun ok s₃ nM=>?_) fun _ _ h'=>h'.elim)) fun _ _ h'=>h'.elim);cases ok with
  | false=>exact aam ⟨rfl,nM⟩
  | true =>
   exact aaj (aaj (abv nM (fun x GQ Cu=>aaj (abv Cu (fun _ Qb iC=>aam (aam ⟨rfl,iC⟩)) fun _ _ h'=>h'.elim)) fun _ _ h'=>h'.elim))
def LZ(X:Cx)(ifs:v6)(tt:TT):Prop :=
 ∀(pins:yp) (s:Shared) (σ:St) (H:Hp) (Q:Bool->Hp->Prop),Inv X pins σ H s->tt σ H Q ->
  wpAny (model X.prog X.w) X.A (forIn ifs true fun c r=>if r=true then do let ok <- isTrue c X.env (eval c X.env);pure (ForInStep.yield ok)else pure (ForInStep.yield r)) (TP X pins σ Q) X.xe s
def L0:TT:=fun _ H Q=>Q true H
theorem GR:LZ X [] L0:=fun pins s σ H Q I h=>wpAny_tests_nil ⟨H,I,h⟩
theorem GS{c:Expr}(h:PT X c tt):LZ X [c] tt:=fun pins s σ H Q I q=>wpAny_tests_one (h pins s σ H Q I q)
def Jn(J:It)(g:TG)(tt:TT)(te:TE)(bG:St)(H:Hp)(Q:List V->Hp->Prop):Prop :=
 ∃ W:Nat->Nat->List V->Hp->Prop,(∃ m,W 0 m [] H)/\∀ i m ys H,W i m ys H ->
  (J.stop i H/\Q ys H)\/(J.go i H/\ys.length < sizeLine/\∃(N:V->Hp->Prop) (M:Hp->Prop),(∀ y H',N y H'->∃ m',m' < m/\W (i+1) m' (ys++[y]) H')/\(∀ H',M H'->∃ m',m' < m/\W (i+1) m' ys H') /\
   ∀ x H',J.FF i H x H'->g x bG H' fun Bq H2=>tt Bq H2 fun b H3=>if b=true then te Bq H3 N else M H3)
def ua(wi:TI)(g:TG)(tt:TT)(te:TE)(ix:List (Option Nat)):TE:=fun σ H Q =>
 wi σ H fun J H1=>Jn J g tt te (blk ix σ) H1 fun ys H2=>∀ D,H2 D=none->Q (.ref D) (upd H2 D (.lst ys))
theorem gU.L1{σ:St}(B:gU X scope N' ix)(I:Inv X pins σ H s){i:Nat}{v:V}(e1:N'[i]?=some x)(e2:(blk ix σ)[i]?=some (some v)) :
  ∃ u c,RelV v u/\(∀ n,(cellsFrom n scope.names (iN X.env.cells scope.names [])).lookup x=some c)/\X.env.cells.lookup x=some c/\s.heap.IsCell c (some u)/\(relabel scope X.env).names.lookup x≠some .local:=by
 have hi:∃ o,ix[i]?=some o/\(match o with | none=>none | some j=>(σ[j]?).join)=some v:=by
  unfold blk at e2;rw[aap]at e2;cases q:ix[i]? with
  | none=>rw[q]at e2;cases e2
  | some o=>rw[q]at e2;exact⟨o,rfl,aaV e2⟩
 obtain⟨o,ho,hv⟩:=hi;cases o with
 | none=>cases hv
 | some j =>
  have hz:(N'.zip ix)[i]?=some (x,some j):=by
   rw[abi];exact⟨e1,ho⟩
  have:=(abm.mp B.ok) _ (abw hz);simp only[aaC,ab6,Bool.or_eq_true]at this;obtain⟨⟨a1,a2⟩,a3⟩:=this;have hs:σ[j]?=some (some v):=by
   replace hv:(σ[j]?).join=some v:=hv;cases q:σ[j]? with
   | none=>rw[q]at hv;cases hv
   | some y=>rw[q]at hv;exact abK some hv
  obtain⟨mo,TX,Sz⟩:=I.loc;obtain⟨u,ru,lu⟩:=Sz j x v a1 hs (a3.elim (fun a=>.inr (.inl a)) (fun a=>.inr (.inr a)));rcases lu with⟨q,_⟩ | ⟨_,c,Jk,Br⟩
  ·have q':X.env.scope.names.lookup x=some .local:=q;rcases a3 with a | a<;>(rw[a]at q';cases q')
  ·obtain⟨c',BC⟩:=abn.mp (mW (cells:=X.env.cells) (x:=x) scope.names [] (.inr ⟨mem_of_lookup _ a2,by rw[Jk];rfl⟩));have:=qY _ _ (fun z d q=>by cases q) BC;rw[Jk]at this;cases this;refine⟨u,c,ru,fun n=>(je _ _ _ (B.Ji a2)).trans BC,Jk,Br,fun q=>?_⟩;obtain⟨k2,mem,z⟩:=kE (env:=X.env) q;rcases z with z | ⟨_,z⟩
   ·subst z;have:=B.names _ mem rfl;rw[show scope.names.lookup x=some .free from a2]at this;cases this
   ·cases z
section
variable {tg:Expr}{σ:St}{bu:Shared}{fp:ww}{it:Addr}{tn:Nat->Heap->Prop}{J:It}
theorem nZ{E:xz}{RR:Value->Addr->Result->Shared->Prop}(B:gU X scope N' ix)(hc:X.calm=true)(I:Inv X pins σ H bu)(T:Turn X.prog X.w X.K tg J fp it tn)(st:tn 0 bu.heap)(GO:∀ b∈fp,kj X pins H b)(hg:∀ bc bE C ex,PG (iO X scope N' bc bE C ex) tg g)(ht:∀ bc bE C ex,LZ (iO X scope N' bc bE C ex) ifs tt)(he:∀ bc bE C ex,PE (iO X scope N' bc bE C ex) elt te){Q:List V->Hp->Prop}(h:Jn J g tt te (blk ix σ) H Q)(Y9:∀(D C:Addr) (ys:List V) (H':Hp) (s':Shared) (m:xL),Q ys H'->H' D=none->s'.heap.Ns C m->kj X pins (upd H' D (.lst ys)) C->Inv X pins σ (upd H' D (.lst ys)) s'->RR (.ref D) C (.ok .next) s') :
  wpAny (model X.prog X.w) X.A (newList []) (fun acc s₃=>wpAny (model X.prog X.w) X.A (newFunctionEnv scope X.env.globals (iN X.env.cells scope.names []) [] X.env.qual none .none (some X.env)) (fun Qc GQ =>
   codeAny (model X.prog X.w) X.A (.compStart (.ListComp elt [⟨tg,iter,ifs,0⟩] scope pos) 0 (.ref it) acc { Qc with scope:=relabel scope X.env }) (RR acc Qc.locals) GQ) E s₃) E bu:=by
 refine abb (wB fun fQ rg wD=>?_);dsimp only at wD rg ⊢;generalize Ur:bu.heap.push { cls:=.type "list",dict:=none,data:=.seq ([]:wf).toArray }=H2 at wD rg ⊢;have hC:H2.objs.size=bu.heap.objs.size+1:=by rw[<- Ur,aba]
 have L3:∀ b o,bu.heap.get? b=some o->H2.get? b=some o:=fun b o e=>Ur▸aal _ e;have OD:∀ b o,H2.get? b=some o->fQ.get? b=some o:=fun b o e=>by rw[rg];exact pushCells_keeps _ _ b o (aal _ e)
 have Za:H2.get? bu.heap.objs.size=some { cls:=.type "list",dict:=none,data:=.seq ([]:wf).toArray }:=Ur▸aau _ rfl;have Jj:bu.heap.objs.size < H2.objs.size:=by rw[hC];exact abN _
 have Xa:=T.obj 0 _ st;have GP:∀ b∈fp,b < bu.heap.objs.size:=fun b hb=>let ⟨o,q,_⟩:=Xa b hb;aar q;have Xb:H bu.heap.objs.size=none:=I.cv.fresh (aao _);have Zb:H H2.objs.size=none:=I.cv.fresh (aaH Jj);have fD:=I.zR (aao bu.heap.objs.size) Xb;have fC:=I.zR (aaH Jj) Zb;have I3:Inv X pins σ H { bu with heap:=H2 }:=I.kept (t':=bu.toks) L3;generalize hX:iO X scope N' { bu with heap:=H2 } H H2.objs.size (bu.heap.objs.size::fp)=X' at *;have I4:Inv X' [] (blk ix σ) H { bu with heap:=fQ }:=by
  rw[<- hX];exact I.block (s₃:={ bu with heap:=H2 }) (s:={ bu with heap:=fQ }) B hc GO (fun b hb=>let ⟨o,q,_⟩:=Xa b hb;⟨o,q⟩) rfl rfl L3 rfl Jj (aaH Jj) rfl rfl OD wD (fun p hp=>by show _\/fQ.IsCell _ _;rw[rg];exact qZ scope.names _ _ p (by rw[aba];exact hp))
 have eP:X'.prog=X.prog:=by rw[<- hX];rfl
 have ew:X'.w=X.w:=by rw[<- hX];rfl
 have eK:X'.K=X.K:=by rw[<- hX];rfl
 have eA:X'.A=X.A:=by rw[<- hX];rfl
 have ec:X'.calm=true:=by rw[<- hX];rfl
 have Sf:X'.xe=fun _ _=>False:=by rw[<- hX];rfl
 have CK:X'.env=compEnvC scope (wC X scope H2.objs.size) H2.objs.size X.env:=by rw[<- hX];rfl
 have Zc:PG X' tg g:=hX▸hg _ _ _ _;have Zd:LZ X' ifs tt:=hX▸ht _ _ _ _;have Us:PE X' elt te:=hX▸he _ _ _ _;have eL:X'.env.locals=H2.objs.size:=by rw[CK];rfl
 have eX:X'.ex=bu.heap.objs.size::fp:=by rw[<- hX];rfl
 have eN:X'.N=N':=by rw[<- hX];rfl
 have ef:X'.fs=gR X.stack:=by rw[<- hX];rfl
 have es:X'.bc={ bu with heap:=H2 }:=by rw[<- hX];rfl
 have eH:X'.bE=H:=by rw[<- hX];rfl
 have Ut:X'.pn=[]:=by rw[<- hX];rfl
 -- O4 stays true of Ox records through Ox loop
 have vP:∀{H':Hp} {b:Addr},b∈bu.heap.objs.size::fp->H' b=none->kj X' [] H' b:=fun{H' b} hb hn=>by
  refine⟨hn,(I4.ok.Sh b (by rw[eX];exact hb)).1,I4.ok.BA b (by rw[eX];exact hb),.inl (by rw[eX];exact hb),(I4.ok.Sh b (by rw[eX];exact hb)).2,fun p hp=>?_⟩;rw[Ut]at hp;cases hp
 obtain⟨W,⟨m0,w0⟩,turn⟩:=h;have loop:∀ s₃:Shared,s₃={ bu with heap:=fQ } ->
   codeAny (model X.prog X.w) X.A (.compLoop (.ListComp elt [⟨tg,iter,ifs,0⟩] scope pos) 0 (.ref it) (.ref bu.heap.objs.size) (compEnvC scope (wC X scope H2.objs.size) H2.objs.size X.env)) (RR (.ref bu.heap.objs.size) H2.objs.size) s₃:=by
  intro s₃ L4;rw[<- L4]at I4;refine Ay (fun n s'=>∃ i ys aV H',Inv X' [] (blk ix σ) H' s'/\tn i s'.heap/\(∀ b∈bu.heap.objs.size::fp,H' b=none)/\ys.length<=sizeLine/\Vals ys aV/\s'.heap.PlainList bu.heap.objs.size aV.toArray/\W i n ys H') ?_ m0
   ⟨0,[],[],H,I4,T.keep _ _ _ st (fun b hb o e=>by rw[L4];exact OD b o (L3 b o e)),(fun b hb=>?_),aaK _,.nil,⟨_,by rw[L4];exact OD _ _ Za⟩,w0⟩
  ·rintro n s5 ⟨i,ys,aV,H5,I5,Oy,Sn,Xc,SJ,Ze,w5⟩;obtain⟨nD,eD⟩:=id Ze;have Zf:∀ b∈[bu.heap.objs.size],∃ o,s5.heap.get? b=some o/\∀ v,o.data≠.cell v:=fun b hb=>by
    have e:b=bu.heap.objs.size:=by simpa using hb
    rw[e];exact⟨_,eD,fun v z=>by cases z⟩
   have memD:bu.heap.objs.size∈bu.heap.objs.size::fp:=aaF;have O5:=I5.pinned (fp:=[bu.heap.objs.size]) (fun b hb=>by
    have e:b=bu.heap.objs.size:=by simpa using hb
    rw[e];exact vP memD (Sn _ memD)) Zf
   rw[adl]at O5;have Uu:∀{q:Addr×Obj},q∈gc [bu.heap.objs.size] s5.heap->q.1=bu.heap.objs.size:=fun hq=>by
    have:=(pE hq).1;simpa using this
   have Jo:∀{H':Hp} {b:Addr},b∈fp->H' b=none->kj X' (gc [bu.heap.objs.size] s5.heap) H' b:=fun{H' b} hb hn=>by
    obtain⟨f0,f1,f2,f3,f4,_⟩:=vP (aax _ hb) hn;refine⟨f0,f1,f2,f3,f4,fun p hp z=>?_⟩;rw[Ut,adl]at hp;have q:=Uu hp;rw[z]at q;exact absurd (GP b hb) (by rw[q];exact aa1 _)
   have Qe:∀ b∈fp,kj X' (gc [bu.heap.objs.size] s5.heap) H5 b:=fun b hb=>Jo hb (Sn b (aax _ hb));have SM:(bu.heap.objs.size,({ cls:=.type "list",data:=.seq aV.toArray nD }:Obj))∈gc [bu.heap.objs.size] s5.heap:=fA (by simp) eD;rcases turn i n ys H5 w5 with⟨stop,qn⟩ | ⟨go,iz,N,M,hN,hM,step⟩
   ·rw[<- eA];refine cL (T.done X' eP ew eK ec i _ s5 (blk ix σ) H5 _ O5 Qe Oy stop) fun r s6 ⟨hr,I6⟩=>?_;subst hr;have Zg:=(I6.pin _ (aaI _ SM)).1;have Xd:=(I6.pin _ (aaI _ SM)).2.1;obtain⟨mC,Xe,_⟩:=I6.loc;rw[eL]at Xe;have u6:=I6.base;rw[ef,eX,eH,es]at u6;have Qf:=I6.cv;rw[eP,ew]at Qf;have Xf:=I6.os;rw[es]at Xf;have IX:Inv X pins σ H5 s6:=I3.OX (s':=s6) (ch:=bu.heap.objs.size::fp) Xf u6 Qf I6.bare fun b hb=>by
     rcases aan.mp hb with z | hb
     ·rw[z];exact⟨fD.2.2.2.1,fD.2.1,fD.2.2.2.2.1,fD.2.2.2.2.2⟩
     ·have f:=GO b hb;exact⟨f.2.2.2.1,f.2.1,f.2.2.2.2.1,f.2.2.2.2.2⟩
    have Zh:H5 H2.objs.size=none:=by have:=I6.free;rw[eL]at this;exact this
    have Zi:H2.objs.size≠bu.heap.objs.size:=abO Jj;refine Y9 _ _ ys H5 s6 mC qn Xd Xe ⟨by rw[bw Zi];exact Zh,fC.2⟩ ?_;exact IX.Jd (t':=s6.toks) ⟨Xd,fD.2⟩ ⟨Xc,aV,nD,SJ,Zg⟩
   ·rw[<- eA];refine cL (T.item X' eP ew eK ec i _ s5 (blk ix σ) H5 _ O5 Qe Oy go) fun r s6 ⟨u,hr,h6⟩=>?_;subst hr;dsimp only;refine cL h6 fun _ s7 ⟨x,H7,I7,r7,y7,Uv,Zj⟩=>?_;have Zk:=I7.pinned (fp:=fp) (fun b hb=>Jo hb (Zj b hb)) (T.obj _ _ Uv);rw[<- CK,<- eP,<- ew];have q1:=Zc _ s7 (blk ix σ) H7 x u _ Zk r7 (step x H7 y7);rw[Sf]at q1;refine cL q1 fun _ s8 ⟨Xg,H8,I8,q8⟩=>?_;have q2:=Zd _ s8 Xg H8 _ I8 q8;rw[Sf]at q2;refine cL q2 fun b s9 ⟨H9,I9,q9⟩=>?_
    -- behind a turn
    have Jp:∀{bG:St} {H':Hp} {s':Shared},Inv X' (gc [bu.heap.objs.size] s5.heap++gc fp s7.heap) bG H' s'->s'.heap.get? bu.heap.objs.size=some { cls:=.type "list",data:=.seq aV.toArray nD }/\H' bu.heap.objs.size=none:=fun I' =>
     ⟨(I'.pin _ (aaI _ (acg _ SM))).1,(I'.pin _ (aaI _ (acg _ SM))).2.1⟩
    have Jq:∀{bG:St} {H':Hp} {s':Shared},Inv X' (gc [bu.heap.objs.size] s5.heap++gc fp s7.heap) bG H' s'->tn (i+1) s'.heap/\∀ b∈fp,H' b=none:=fun{bG H' s'} I'=>by
     refine⟨T.keep _ _ _ Uv fun b hb o e=>(I'.pin (b,o) (aaI _ (aaI _ (fA hb e)))).1,fun b hb=>?_⟩;obtain⟨o,e,d⟩:=T.obj _ _ Uv b hb;exact(I'.pin (b,o) (aaI _ (aaI _ (fA hb e)))).2.1
    have drop:∀{bG:St} {H':Hp} {s':Shared} {ps:yp},Inv X' ps bG H' s'->Inv X' [] (blk ix σ) H' s':=fun{bG H' s' ps} I'=>by
     obtain⟨mL,eR,_⟩:=I'.loc;refine⟨I'.ok,I'.os,I'.bare,I'.base,⟨mL,eR,fun k x v e1 e2 e3=>?_⟩,I'.cell,I'.free,I'.iA,fun p hp=>?_,I'.cv,by rw[eN,<- B.len.symm];unfold blk;rw[aak]⟩
     ·rw[eN]at e1;obtain⟨u,c,ru,Jk,Br,⟨oc,Jl,ku⟩,hk⟩:=B.L1 I e1 e2;have Zl:Sg (relabel scope X.env) x:=by rw[CK]at e3;exact e3
      refine⟨u,ru,.inr ⟨?_,c,by rw[CK];exact Jk _,?_⟩⟩
      ·rw[CK];show(relabel scope X.env).names.lookup x=some .cell\/(relabel scope X.env).names.lookup x=some .free;rcases Zl with q | q | q
       ·exact absurd q hk
       ·exact .inl q
       ·exact .inr q
      ·have ub:=I'.base;rw[eX,eH,es]at ub;obtain⟨sl,GU⟩:=ub.any (b:=c) (L3 c oc Jl) (I.iA x c Br) (fun z=>by
        rcases aan.mp z with z | z
        ·exact absurd (aar Jl) (by rw[z];exact aa1 _)
        ·exact(GO c z).2.2.2.2.1 x c Br rfl)
       exact⟨_,GU,ku⟩
     ·rw[Ut]at hp;cases hp
    cases b with
    | false =>
     rw[aaA aav]at q9 ⊢;obtain⟨m',hm,w9⟩:=hM _ q9;obtain⟨kd,nd⟩:=Jp I9;obtain⟨kf,nf⟩:=Jq I9;refine⟨m',hm,i+1,ys,aV,H9,drop I9,kf,fun b hb=>?_,Xc,SJ,⟨nD,kd⟩,w9⟩;rcases aan.mp hb with z | hb
     ·rw[z];exact nd
     ·exact nf b hb
    | true =>
     rw[aaE rfl]at q9 ⊢;have q3:=Us _ s9 Xg H9 _ I9 q9;rw[Sf]at q3;refine cL q3 fun v Xh ⟨y,Xi,Uw,Zm,q10⟩=>?_;obtain⟨m',hm,Xj⟩:=hN _ _ q10;obtain⟨kd,nd⟩:=Jp Uw;obtain⟨kf,nf⟩:=Jq Uw;have hlen:=SJ.length;refine wpAny_list_append_plain (items:=aV.toArray) ⟨nD,kd⟩ (fun h' Zn sb=>?_) (by rw[aay];omega);have Zo:Inv X' [] (blk ix σ) Xi { Xh with heap:=h' }:=by
      have f:=vP memD nd;exact(drop Uw).turned (t':=Xh.toks) (fun b o hb e=>(sb.2 b hb).trans e) f.1 f.2.1 f.2.2.2.1 f.2.2.2.2.1 f.2.2.2.2.2
     refine⟨m',hm,i+1,ys++[y],aV++[v],Xi,Zo,T.keep _ _ _ kf (fun b hb o e=>(sb.2 b (aaO (GP b hb))).trans e),fun b hb=>?_,by rw[aaQ,List.length_singleton];omega,SJ.append (.cons Zm .nil),?_,Xj⟩
     ·rcases aan.mp hb with z | hb
      ·rw[z];exact nd
      ·exact nf b hb
     ·simpa using Zn
  ·rcases aan.mp hb with z | hb
   ·rw[z];exact Xb
   ·exact(GO b hb).1
 exact codeAny_compStart_list (loop _ rfl) (T.self _ 0 _ _ _ (T.keep _ _ _ st fun b hb o e=>OD b o (L3 b o e)) (loop _ rfl))
end
section
variable {tg:Expr}{wi:TI}
theorem GV(B:gU X scope N' ix)(hc:X.calm=true)(hi:PI X tg iter wi)(hg:∀ bc bE C ex,PG (iO X scope N' bc bE C ex) tg g)(ht:∀ bc bE C ex,LZ (iO X scope N' bc bE C ex) ifs tt)(he:∀ bc bE C ex,PE (iO X scope N' bc bE C ex) elt te)(hs:autoParam (∀ x,foldedSetIterable iter X.env x=pure x) ra3):PE X (.ListComp elt [⟨tg,iter,ifs,0⟩] scope pos) (ua wi g tt te ix):=by
 intro pins s σ H Q I h;rw[eval_ListComp];refine wpAny_comprehension_free (use:=none) rfl hs (nX (B.has I.ok)) B.kind B.names (abv (hi pins s σ H _ I h) (fun xv bH fQ=>abv fQ (fun Sk bu iL=>?_) fun _ _ e=>e) fun _ _ e=>e);obtain⟨it,fp,tn,J,H2,e,I2,T,pG,f2,q⟩:=iL;subst e;refine nZ (RR:=fun acc C=>compPost (model X.prog X.w) X.A X.xe none (EP X pins σ Q) acc C) B hc I2 T pG f2 hg ht he q ?_;intro D C ys H' s' m hq hD hn fC I';refine⟨m,hn,fun h' sb=>⟨.ref D,_,I'.turned (t':=s'.toks) (fun b o hb e=>(sb.2 b hb).trans e) fC.1 fC.2.1 fC.2.2.2.1 fC.2.2.2.2.1 fC.2.2.2.2.2,rfl,hq D hD⟩⟩
theorem GW{i:Nat}{y:Str}{py CL:Pos}(B:gU X scope N' ix)(hc:X.calm=true)(hN:X.N.Nodup)(hy:X.N[i]?=some y)(hx:X.env.scope.names.lookup y=some .local)(hi:PI X tg iter wi)(hg:∀ bc bE C ex,PG (iO X scope N' bc bE C ex) tg g)(ht:∀ bc bE C ex,LZ (iO X scope N' bc bE C ex) ifs tt)(he:∀ bc bE C ex,PE (iO X scope N' bc bE C ex) elt te)(Qg:autoParam (swapsWith (.ListComp elt [⟨tg,iter,ifs,0⟩] scope pos) (some (.Name y py)) CL.line X.env=pure true) ra0)(hs:autoParam (∀ x,foldedSetIterable iter X.env x=pure x) ra3):PS X (.Assign [.Name y py] (.ListComp elt [⟨tg,iter,ifs,0⟩] scope pos) CL) (vM (ua wi g tt te ix) (nF i)):=by
 intro pins s σ H Dn I h;rw[exec_Assign_Name_used _ _ _ _ Qg];refine aaj (ada (aaj ?_));show wpAny _ X.A (do let _ <- comprehension (.ListComp elt [⟨tg,iter,ifs,0⟩] scope pos) scope X.env _ (newList []) false (eval iter X.env) (some (assign (.Name y py) X.env))) _ _ s;refine aaj (abv (wpAny_comprehension_free (use:=some (assign (.Name y py) X.env)) (Q:=fun _ s'=>SP X pins Dn .next s') rfl hs (nX (B.has I.ok)) B.kind B.names
  (abv (hi pins s σ H _ I h) (fun xv bH fQ=>abv fQ (fun Sk bu iL=>?_) fun _ _ e=>e) fun _ _ e=>e)) (fun _ s' hq=>aam (aam hq)) fun _ _ e=>e)
 obtain⟨it,fp,tn,J,H2,e,I2,T,pG,f2,q⟩:=iL;subst e;refine nZ (RR:=fun acc C=>compPost (model X.prog X.w) X.A X.xe (some (assign (.Name y py) X.env)) (fun _ s'=>SP X pins Dn .next s') acc C) B hc I2 T pG f2 hg ht he q ?_;intro D C ys H' s' m hq hD hn fC I';have Zp:∀ b∈[C],∃ o,s'.heap.get? b=some o/\∀ v,o.data≠.cell v:=fun b hb=>by
  have e:b=C:=by simpa using hb
  rw[e];obtain⟨o,es,ep,ho,hd,_⟩:=hn;exact⟨o,ho,fun v z=>by rw[hd]at z;cases z⟩
 have Zq:=I'.pinned (fp:=[C]) (fun b hb=>by
  have e:b=C:=by simpa using hb
  rw[e];exact fC) Zp
 show wpAny _ X.A (assign (.Name y py) X.env (.ref D)) _ _ _;refine wpAny_assign_Name (nB (v:=.ref D) Zq hN hy (.inl hx) rfl (fun Oz Xk=>?_) (.inr hx));have Ux:Oz.heap.Ns C m:=by
  obtain⟨o,es,ep,ho,r⟩:=hn;exact⟨o,es,ep,(Xk.pin (C,o) (aaI _ (aaI _ (fA (by simp) ho)))).1,r⟩
 refine⟨m,Ux,fun h' sb=>⟨_,_,Xk.kl.turned (t':=Oz.toks) (fun b o hb e=>(sb.2 b hb).trans e) fC.1 fC.2.1 fC.2.2.2.1 fC.2.2.2.2.1 fC.2.2.2.2.2,hq D hD⟩⟩
end
structure SN(X:Cx)(ifs:v6)(tt:TT):Prop where
 run:LZ X ifs tt
section
variable {tg c:Expr}{wi:TI}
theorem j4:SN X [] L0:=⟨GR⟩
theorem gB(h:ST X c tt):SN X [c] tt:=⟨GS h.run⟩
theorem eU{g:Shared->Hp->Addr->ww->TG}{tt:Shared->Hp->Addr->ww->TT}{te:Shared->Hp->Addr->ww->TE}(B:gU X scope N' ix)(hi:SI X tg iter wi)(hg:∀ bc bE C ex,SG (iO X scope N' bc bE C ex) tg (g bc bE C ex))(ht:∀ bc bE C ex,SN (iO X scope N' bc bE C ex) ifs (tt bc bE C ex))(he:∀ bc bE C ex,SE (iO X scope N' bc bE C ex) elt (te bc bE C ex))(eg:autoParam (∀ bc bE C ex,g bc bE C ex=g X.bc X.bE 0 []) ra5)(et:autoParam (∀ bc bE C ex,tt bc bE C ex=tt X.bc X.bE 0 []) ra5)(ee:autoParam (∀ bc bE C ex,te bc bE C ex=te X.bc X.bE 0 []) ra5)(hc:autoParam (X.calm=true) ra0)(hs:autoParam (∀ x,foldedSetIterable iter X.env x=pure x) ra3):SE X (.ListComp elt [⟨tg,iter,ifs,0⟩] scope pos) (ua wi (g X.bc X.bE 0 []) (tt X.bc X.bE 0 []) (te X.bc X.bE 0 []) ix) :=
 ⟨GV B hc hi.run (fun a b c d=>eg a b c d▸(hg a b c d).run) (fun a b c d=>et a b c d▸(ht a b c d).run) (fun a b c d=>ee a b c d▸(he a b c d).run) hs⟩
theorem wF(i:Nat){y:Str}{py CL:Pos}{g:Shared->Hp->Addr->ww->TG}{tt:Shared->Hp->Addr->ww->TT}{te:Shared->Hp->Addr->ww->TE}(B:gU X scope N' ix)(hN:X.N.Nodup)(hi:SI X tg iter wi)(hg:∀ bc bE C ex,SG (iO X scope N' bc bE C ex) tg (g bc bE C ex))(ht:∀ bc bE C ex,SN (iO X scope N' bc bE C ex) ifs (tt bc bE C ex))(he:∀ bc bE C ex,SE (iO X scope N' bc bE C ex) elt (te bc bE C ex))(eg:autoParam (∀ bc bE C ex,g bc bE C ex=g X.bc X.bE 0 []) ra5)(et:autoParam (∀ bc bE C ex,tt bc bE C ex=tt X.bc X.bE 0 []) ra5)(ee:autoParam (∀ bc bE C ex,te bc bE C ex=te X.bc X.bE 0 []) ra5)(hy:autoParam (X.N[i]?=some y) ra0)(hx:autoParam (X.env.scope.names.lookup y=some .local) ra0)(hc:autoParam (X.calm=true) ra0)(Qg:autoParam (swapsWith (.ListComp elt [⟨tg,iter,ifs,0⟩] scope pos) (some (.Name y py)) CL.line X.env=pure true) ra0)(hs:autoParam (∀ x,foldedSetIterable iter X.env x=pure x) ra3):SS X (.Assign [.Name y py] (.ListComp elt [⟨tg,iter,ifs,0⟩] scope pos) CL) (vM (ua wi (g X.bc X.bE 0 []) (tt X.bc X.bE 0 []) (te X.bc X.bE 0 []) ix) (nF i)) :=
 ⟨GW B hc hN hy hx hi.run (fun a b c d=>eg a b c d▸(hg a b c d).run) (fun a b c d=>et a b c d▸(ht a b c d).run) (fun a b c d=>ee a b c d▸(he a b c d).run) Qg hs⟩
end
section
variable {nx bk ct:St->Hp->Prop}{rt:VK}{t u:TS}{D:Ends}{σ:St}{Q:VK}{ta tb tc:TE}{c d:TT}{i j:Nat}{v x y:V}{r:R2}{B:Bool->Hp->Prop}{ts:TA}{tsr:TA}{R:List V->Hp->Prop}
theorem CM{B:Prop}(h:A):if true=true then A else B:=h
theorem wG{B:Prop}(h:B):if false=true then A else B:=h
theorem Uy{B:Prop}(h:B):if(!true)=true then A else B:=h
theorem Uz{B:Prop}(h:A):if(!false)=true then A else B:=h
theorem ph{B:Prop}[Decidable p](hp:p)(h:A):if decide p=true then A else B:=by rw[aaE (aa6 hp)];exact h
theorem j5{B:Prop}[Decidable p](hp:¬ p)(h:B):if decide p=true then A else B:=by rw[aat hp];exact h
theorem wH{B:Prop}[Decidable p](hp:¬ p)(h:A):if(!decide p)=true then A else B:=by rw[aat hp];exact h
theorem wI{B:Prop}[Decidable p](hp:p)(h:B):if(!decide p)=true then A else B:=by rw[aa6 hp];exact h
theorem dA{B:Prop}[Decidable p](h1:p->A)(h2:¬ p->B):if decide p=true then A else B:=by
 by_cases hp:p
 ·exact ph hp (h1 hp)
 ·exact j5 hp (h2 hp)
theorem og{B:Prop}[Decidable p](h1:¬ p->A)(h2:p->B):if(!decide p)=true then A else B:=by
 by_cases hp:p
 ·exact wI hp (h2 hp)
 ·exact wH hp (h1 hp)
end
def Tp(H H':Hp):Prop:=∀ b xs,H b=some (.tup xs)->H' b=some (.tup xs)
mutual
def Im:PyData->Bool
 | .tuple ds=>kF ds
 | .list _=>false
 | .dict _=>false
 | _=>true
def kF:wE->Bool
 | []=>true
 | d::ds=>Im d&&kF ds
end
mutual
theorem Rep.tp{H H':Hp}(k:Tp H H'):∀{d:PyData} {x:V},Im d=true->Rep H d x->Rep H' d x
 | .none,_,_,h=>h
 | .bool _,_,_,h=>h
 | .int _,_,_,h=>h
 | .str _,_,_,h=>h
 | .list _,_,i,_=>by simp[Im]at i
 | .dict _,_,i,_=>by simp[Im]at i
 | .tuple ds,_,i,⟨a,xs,e,h,r⟩=>⟨a,xs,e,k a xs h,az.tp k (by simpa [Im] using i) r⟩
theorem az.tp{H H':Hp}(k:Tp H H'):∀{ds:wE} {xs:List V},kF ds=true->az H ds xs->az H' ds xs
 | [],_,_,h=>h
 | d::ds,_,i,⟨y,ys,e,h,r⟩=>by
  have i':Im d=true/\kF ds=true:=by simpa [kF] using i
  exact⟨y,ys,e,Rep.tp k i'.1 h,az.tp k i'.2 r⟩
end
mutual
theorem Rep.same{H H':Hp}(k:aT H H'):∀{d:PyData} {x:V},Rep H d x->Rep H' d x
 | .none,_,h=>h
 | .bool _,_,h=>h
 | .int _,_,h=>h
 | .str _,_,h=>h
 | .list _,_,⟨a,xs,e,h,r⟩=>⟨a,xs,e,k a _ h,az.same k r⟩
 | .dict _,_,h=>h
 | .tuple ds,_,⟨a,xs,e,h,r⟩=>⟨a,xs,e,k a _ h,az.same k r⟩
theorem az.same{H H':Hp}(k:aT H H'):∀{ds:wE} {xs:List V},az H ds xs->az H' ds xs
 | [],_,h=>h
 | d::ds,_,⟨y,ys,e,h,r⟩=>⟨y,ys,e,Rep.same k h,az.same k r⟩
end
def CN(K:zn):List V->Hp->VK->Prop:=fun xs H Q=>∃ p ys,xs=[.ref p]/\((gb K H p ys/\∀ l,H l=none->Q (.ref l) (upd H l (.tup ys)))\/(fN K H p ys/\Q (.ref p) H))
def yK(K:zn):List V->Hp->VK->Prop:=fun xs H Q=>∃ p ys,xs=[.ref p]/\(gb K H p ys\/fN K H p ys)/\∀ l,H l=none->Q (.ref l) (upd H l (.lst ys))
def CO(K:zn):List V->Hp->VK->Prop:=fun xs H Q=>∃ p ys,xs=[.ref p]/\(gb K H p ys\/fN K H p ys)/\Q (.int ys.length) H
def Jr:List V->Hp->VK->Prop:=fun xs H Q=>∃ i j,xs=[.int i,.int j]/\Q (.int (if j > i then j else i)) H
section
variable {K:zn}{Q:VK}{p:Addr}{ys:List V}{i j:Int}
theorem iD:fO X (.type "tuple") (CN X.K):=pd
theorem fE:fO X (.type "list") (yK X.K):=qR
theorem bq:fO X (.builtin "len") (CO X.K):=qQ
theorem pS(hc:X.calm=true):fO X (.builtin "max") Jr:=zV hc
end
end L2
namespace L2
open PySem PySem.Spec PyProof.Rows
variable {X:Cx}{w:World}{H:Hp}{p a f C:Addr}{P:u8}{mg:xL}{base:Heap}{N ps:wv}{qual:Str}{scope:Scope}{cd:Value}{A:tx}{outer:List Env}{s:Shared}{gg pos:Pos}{es:v6}{fd:wT}
def Qh(K:zn):List V->Hp->VK->Prop:=fun xs H Q=>∃(p:Addr) (bs:List Bool),xs=[.ref p]/\gb K H p (bs.map V.bl)/\Q (.bl (bs.any id)) H
theorem wJ{bs:List Bool}{aV:wf}(rv:Vals (bs.map V.bl) aV){i:Nat}{v:Value}(h:aV[i]?=some v):∃ b,bs[i]?=some b/\v=.bool b:=by
 have hl:=rv.length;rw[aak]at hl;have hi:i < aV.length:=(aas.mp h).1;have hb:bs[i]?=some bs[i]:=aaG (by omega);obtain⟨u,hu,ru⟩:=rv.get (x:=.bl bs[i]) (by rw[aap,hb];rfl);rw[h]at hu;cases hu;exact⟨_,hb,ru⟩
theorem pT(hc:X.calm=true):fO X (.builtin "any") (Qh X.K):=by
 intro pins s σ H xs us Q I r h;obtain⟨p,bs,rfl,hq,q⟩:=h;obtain⟨u,rfl,ru⟩:=vals1 r;cases ru;obtain⟨aV,rv,pl,hz⟩:=I.list hq;have hl:=pl.isList;have iz:p < s.heap.objs.size:=by obtain⟨_,e,_⟩:=hl;exact aar e
 refine call_any_walk (abA hl ?_);refine⟨s.heap.objs.size,[s.heap.objs.size,p],[s.heap.objs.size],aV.toArray.size,_,_,fun i=>(bs[i]?).getD false,rfl,Walks.list (A:=X.A.in1) (I.ok.hd hc) _ p (aaO iz) aV.toArray,
  ⟨⟨_,aau _ rfl,rfl,rfl⟩,hl.push _⟩,fun i v s' Q' E' hP hQ=>?_,fun h' tk hk=>?_⟩
 ·obtain⟨b,e,rfl⟩:=wJ rv (i:=i) (v:=v) (by simpa using hP);simp only[e,Option.getD_some]at hQ;exact abz hQ
 ·have hlen:=rv.length;rw[aak]at hlen;have e:((List.range aV.toArray.size).any fun i=>(bs[i]?).getD false)=bs.any id:=by
   rw[aay,<- hlen];exact LSm.range_any bs
  rw[e];exact⟨.bl _,H,I.kept (LSm.kept_iter hk),rfl,q⟩
def Js(K:zn):R2:=fun x y H Q=>∃ a b xs ys,x=.ref a/\y=.ref b/\fN K H a xs/\fN K H b ys/\xs.length+ys.length<=sizeLine /\
 (xs=[]->Q (.ref b) H)/\(xs≠[]->ys=[]->Q (.ref a) H)/\(xs≠[]->ys≠[]->∀ p,H p=none->Q (.ref p) (upd H p (.tup (xs++ys))))
theorem ff:iq X (binaryOp .Add) (Js X.K):=by
 intro pins s σ H x y v u Q I rx ry h;obtain⟨a,b,xs,ys,rfl,rfl,ha,hb,hz,q0,q1,q2⟩:=h;cases rx;cases ry;obtain⟨aV,r1,p1,_⟩:=I.tuple ha;obtain⟨wj,r2,p2,_⟩:=I.tuple hb
 by_cases e0:aV=[]
 ·obtain⟨⟨cls,dd,data,sl⟩,ho,hc,n,hd⟩:=id p1;obtain⟨⟨TU,OA,data2,Su⟩,ku,Br,n2,hd2⟩:=id p2;simp only at hc hd Br hd2;subst hc hd Br hd2;exact concat_meets ⟨_,ho,rfl⟩ ⟨_,ku,rfl⟩ noFill_tuple_add seq_tuple_add acz acs (aco _ _)
   (tuple_addW0 a b aV.toArray wj.toArray n n2 dd OA sl Su (by simp[e0])) ⟨ho,ku,.ref b,H,I,rfl,q0 (r1.mU.mp e0)⟩
 ·have hx:xs≠[]:=fun z=>e0 (r1.mU.mpr z);refine HT.Gw p1 p2 e0 (fun z=>⟨.ref a,H,I,rfl,q1 hx (r2.mU.mp z)⟩) (fun z=>?_) (by rw[<- r1.length,<- r2.length];exact hz);refine⟨.ref s.heap.objs.size,_,I.laid (t':=s.toks) (o:=.tup (xs++ys)) (fun b ob q=>aal _ q) (aao _) ?_,rfl,q2 hx (fun w=>z (r2.mU.mpr w)) _ (I.cv.fresh (aao _))⟩;exact⟨by rw[aaQ];exact hz,_,r1.append r2,IsTup.new _ _⟩
def Jt:List V->Hp->VK->Prop:=fun xs H Q=>(∃ i,xs=[.int i]/\Q (.int i) H)\/∃ k,xs=[.bl k]/\Q (.int (if k then 1 else 0)) H
theorem jE:fO X (.type "int") Jt:=zW
theorem cq.there{h:Heap}{o:HO}(x:cq P w H h a o):∃ ob,h.get? a=some ob:=by
 cases o with
 | lst xs=>obtain⟨_,_,_,_,e⟩:=x;exact⟨_,e⟩
 | tup xs=>obtain⟨_,_,_,ob,e,_⟩:=x;exact⟨_,e⟩
 | dK kvs=>obtain⟨_,_,_,_,o,_,_,e,_⟩:=x;exact⟨_,e⟩
 | dT kvs=>obtain⟨_,_,_,_,o,_,_,e,_⟩:=x;exact⟨_,e⟩
 | set S n=>obtain⟨o,_,_,_,e,_⟩:=x;exact⟨_,e⟩
 | ins C dx fs=>obtain⟨_,_,_,e,_⟩:=x;exact⟨_,e⟩
 | own y=>exact x
 | xd fs=>obtain⟨_,⟨_,_,_,e,_⟩,_⟩:=x;exact⟨_,e⟩
 | Se lo hi=>obtain⟨_,_,_,e⟩:=x;exact⟨_,e⟩
 | jV ob u=>obtain⟨e,_⟩:=x;exact⟨_,e⟩
 | II ps=>exact⟨_,x⟩
 | met f y=>exact⟨_,x⟩
 | ext φ=>obtain⟨_,e,_⟩:=x;exact e
theorem eC.stays{h h':Heap}(x:eC P w H h)(k:∀ b u ob,H b=some u->h.get? b=some ob->h'.get? b=some ob):eC P w H h':=fun a o e =>
 (x a o e).tj (fun b u hb q=>by
  rcases hb with rfl | hb
  ·exact k _ _ _ e q
  ·exact k _ _ _ hb q) (fun _ q=>q) fun _ _ q=>q
structure L5(P:u8)(w:World)(outer:List Env)(H:Hp)(s:Shared)(E:XK)(a C:Addr)(H':Hp)(B:Heap)(a0:Value)(s':Shared):Prop where
 os:s'.os=s.os
 bare:AllBare s'.gens
 un:Un (gR outer) [] H H' s.heap s'.heap
 cv:eC P w H' s'.heap
 new:H' a=none
 fly:Heap.FlyingW B outer a (.ref C) a0 s'.heap
 SQ:∀ b o,s.heap.get? b=some o->H b=none->b ∉ gR outer->B.get? b=some o
 L6:∀ b o u,s.heap.get? b=some o->H b=some u->∃ o',B.get? b=some o'
 FU:∀ b u,H' b=some u->∃ o',B.get? b=some o'
 want:E (.ref C) none H'
def vC(P:u8)(w:World):Ab:=fun outer H s E e s'=>∃(a C:Addr) (H':Hp) (B:Heap) (a0:Value),e=.ref a/\L5 P w outer H s E a C H' B a0 s'
section
variable {K:zn}{E:XK}
def rh(K:zn)(C:Addr):Prop:=∀ h:Heap,K.In h->∃(nm q:Str) (N:Addr) (bs bm:wf) (hdct:Bool) (sn:wv) (sub:wf) (ab:Bool) (col:Option Bool) (dd:wS) (k0 k1 k2 k3 k5:wP) (mN:xL),
 h.get? C=some (excClassObj nm q C N bs bm hdct sn sub ab col dd k0 k1 k2 k3 k5 "ValueError.__new__")/\h.Ns N mN/\mN "__init__"=none/\OwnTail h [.type "ValueError",.type "Exception",.type "BaseException",.type "object"] bm/\bm.contains (.type "BaseException")=true
def wK(C:Addr)(E:XK)(t:TA):TS:=fun _ σ H=>t σ H fun vs H1=>vs.length<=sizeLine/\E (.ref C) none H1
theorem CP{x:Str}{np:Pos}{e:Expr}{t:TA}(hk:rh K C)(hg:Gl (gf (vC P w) P w K mg base N qual scope f cd A outer s H E) x)(hm:mg x=some (.ref C))(ha:PA (gf (vC P w) P w K mg base N qual scope f cd A outer s H E) (e::es) t)(hd:autoParam ((x == ("__debug__":Str))=false) ra1)(he:autoParam (starEach (e::es) (envOfC qual scope s.heap.objs.size f cd)=(false,eval e (envOfC qual scope s.heap.objs.size f cd))::starEach es (envOfC qual scope s.heap.objs.size f cd)) ra0)(nL:autoParam ((backTo gg (starEach es (envOfC qual scope s.heap.objs.size f cd))).any (·.1)=false) ra0) :
  PS (gf (vC P w) P w K mg base N qual scope f cd A outer s H E) (.Raise (some (.Call (.Name x np) (e::es) [] gg)) none pos) (wK C E t):=by
 intro pins s1 σ H1 D I h;obtain⟨nm,q,Nn,bs,bm,hdct,sn,sub,ab,col,dd,k0,k1,k2,k3,k5,mN,hC,hN,SR,hT,hb⟩:=hk (gf (vC P w) P w K mg base N qual scope f cd A outer s H E).base I.ok.mod.Ou;refine wpAny_Raise_call_subT (C:=C) (N:=Nn) (nm:=nm) (q:=q) (bs:=bs) (bm:=bm) (hdct:=hdct) (sn:=sn) (sub:=sub) (ab:=ab) (col:=col) (dd:=dd) (k0:=k0) (k1:=k1) (k2:=k2) (k3:=k3) (k5:=k5) PySem.F.excBase_ValueError hb (I.ok.hd rfl) (by
  show(backTo gg (starEach (e::es) (envOfC qual scope s.heap.objs.size f cd))).any (·.1)=false;rw[he];show(false||(backTo gg (starEach es (envOfC qual scope s.heap.objs.size f cd))).any (·.1))=false;rw[nL];rfl) SR (mP I hg hm ⟨rfl,?_⟩ hd)
 have pj:=ha gg pins s1 σ H1 _ I h;rw[show(gf (vC P w) P w K mg base N qual scope f cd A outer s H E).env=envOfC qual scope s.heap.objs.size f cd from rfl]at pj ⊢;rw[he]at pj ⊢;refine Calls.evalArgs_plain (cL pj fun us s2 ⟨vs,H2,I2,r2,q2⟩=>?_);have KB:=I2.bk;refine⟨rfl,by rw[<- r2.length];exact q2.1,KB _ _ hC,hN.keeps KB,hT.keeps KB,fun h' a hx=>?_⟩;have wL:∀ en∈(envOfC qual scope s.heap.objs.size f cd::outer),∀ L,en.frame=some L->L∈gR (envOfC qual scope s.heap.objs.size f cd::outer):=fun en Zr L hL=>acU.mpr ⟨en,Zr,hL⟩;have Kz:s2.heap.FunFrames base (envOfC qual scope s.heap.objs.size f cd::outer):=I2.stack;have ub:Un (gR outer) [] H H2 s.heap s2.heap:=I2.base;have FC:∀ b∈gR outer,H b=none:=I2.ok.FC;have Zs:∀ b∈gR (envOfC qual scope s.heap.objs.size f cd::outer),H2 b=none:=I2.qD;have Xl:∀ b o,s.heap.get? b=some o->b ∉ gR outer->b ∉ gR (envOfC qual scope s.heap.objs.size f cd::outer):=fun b o q n z=>by
  rcases aan.mp (show b∈s.heap.objs.size::gR outer from z)with e | e
  ·have h2:=aar q;rw[e]at h2;exact absurd h2 (aa1 _)
  ·exact n e
 have UA:∀ b o,s2.heap.get? b=some o->b ∉ gR (envOfC qual scope s.heap.objs.size f cd::outer)->(PySem.W.hideAll s2.heap (gR (envOfC qual scope s.heap.objs.size f cd::outer))).get? b=some o:=fun b o q n=>PySem.W.hideAll_get _ q n;have SQ:∀ b o,s.heap.get? b=some o->H b=none->b ∉ gR outer->(PySem.W.hideAll s2.heap (gR (envOfC qual scope s.heap.objs.size f cd::outer))).get? b=some o:=fun b o q n nf=>UA b o (ub.keep b o q n nf (by simp)) (Xl b o q nf);have L6:∀ b o u,s.heap.get? b=some o->H b=some u->∃ o',(PySem.W.hideAll s2.heap (gR (envOfC qual scope s.heap.objs.size f cd::outer))).get? b=some o':=fun b o u q n=>by
  obtain⟨o1,e1⟩:=ub.there b o q (by simp);exact⟨o1,UA b o1 e1 (Xl b o q fun z=>by rw[FC b z]at n;cases n)⟩
 have FU:∀ b u,H2 b=some u->∃ o',(PySem.W.hideAll s2.heap (gR (envOfC qual scope s.heap.objs.size f cd::outer))).get? b=some o'/\s2.heap.get? b=some o':=fun b u n=>by
  obtain⟨ob,e⟩:=(I2.cv b u n).there;exact⟨ob,UA b ob e (fun z=>by rw[Zs b z]at n;cases n),e⟩
 show wpAny _ _ (leaving _ _) _ _ _;refine wpAny_leaves_madeW (L:=s.heap.objs.size) (base:=PySem.W.hideAll s2.heap (gR (envOfC qual scope s.heap.objs.size f cd::outer))) (h:=s2.heap) (show(A.deeper (envOfC qual scope s.heap.objs.size f cd)).frames=some (envOfC qual scope s.heap.objs.size f cd::outer) from I2.ok.frames) rfl (fun b o q=>PySem.W.of_hideAll _ q) (PySem.W.funFrames_hide Kz wL) hx fun Zt tt fl tu tn us=>?_;have Ju:∀ b o,s.heap.get? b=some o->H b=none->b∈gR outer->∃ sl,Zt.get? b=some { o with slots:=sl }:=fun b o q n hb=>by
  obtain⟨sl,e1⟩:=ub.slot b o q n hb (by simp);obtain⟨_,o2,e2,nd⟩:=Kz.mem (show b∈(envOfC qual scope s.heap.objs.size f cd::outer).filterMap (·.frame) from aax _ hb);rw[e1]at e2;cases e2;obtain⟨Tx,e3⟩:=us b _ (hx.keeps b _ e1) nd;exact⟨Tx,e3⟩
 refine⟨a,C,H2,_,_,rfl,I2.os,I2.bare,⟨fun b o q n nf _=>fl.1 b o (SQ b o q n nf),fun b o q n hb _=>Ju b o q n hb,ub.free,fun b o q _=>?_,ub.qA,ub.o8,ub.qB⟩,I2.cv.stays fun b u ob hb q=>?_,?_,fl,SQ,L6,fun b u n=>?_,q2.2⟩
 ·cases hH:H b with
  | some u =>
   obtain⟨o',e'⟩:=L6 b o u q hH;exact⟨o',fl.1 b o' e'⟩
  | none =>
   by_cases hb:b∈gR outer
   ·obtain⟨sl,e3⟩:=Ju b o q hH hb;exact⟨_,e3⟩
   ·exact⟨o,fl.1 b o (SQ b o q hH hb)⟩
 ·obtain⟨o',e',e2⟩:=FU b u hb;rw[q]at e2;cases e2;exact fl.1 b _ e'
 ·cases n:H2 a with
  | none=>rfl
  | some u =>
   obtain⟨_,_,e2⟩:=FU a u n;rw[hx.new]at e2;cases e2
 ·obtain⟨o',e',_⟩:=FU b u n;exact⟨o',e'⟩
end
noncomputable def Cx.Qi(X:Cx)(xe:xz):Cx:={ X with xe:=xe }
noncomputable def Cx.marked(X:Cx)(a:Addr)(xe:xz):Cx:={ X with A:=X.A.mark (some (.ref a)),calm:=false,xe:=xe }
def UB(a:Addr)(cls:Value):HO:=.ext fun h=>∃ o,h.get? a=some o/\o.cls=cls
section
variable {K:zn}{E:XK}
theorem rj{x:Str}{np:Pos}{e:Expr}{t:TA}(hk:rh K C)(hm:mg x=some (.ref C))(ha:SA (gf (vC P w) P w K mg base N qual scope f cd A outer s H E) (e::es) t)(hs:autoParam ((e::es).all noStar=true) ra0)(hg:autoParam (Gl (gf (vC P w) P w K mg base N qual scope f cd A outer s H E) x) ra0)(hd:autoParam ((x == ("__debug__":Str))=false) ra1) :
  SS (gf (vC P w) P w K mg base N qual scope f cd A outer s H E) (.Raise (some (.Call (.Name x np) (e::es) [] gg)) none pos) (wK C E t) :=
 ⟨CP hk hg hm ha.run hd (cW es _ (by rw[aaX,aaC]at hs;exact hs.1)) (fU (by rw[aaX,aaC]at hs;exact hs.2))⟩
end
theorem cM.Zu{K:zn}{x:Str}{st:Stmt}{k:Nat}{sp:Sp}(F:cM K x qual st f fd)(S:aB N ps (defScope st))(len:∀ vs H Q E,sp vs H Q E->vs.length=ps.length)(dJ:∀(bz:Value) (A:tx) (outer:List Env) (s:Shared) (H:Hp) (vs:List V) (Q:VK) (E:XK),cT k (A.deeper (envOfC qual (defScope st) s.heap.objs.size f bz))->sp vs H Q E ->
   ∃ t,sR (gf (vC P w) P w K mg base N qual (defScope st) f bz A outer s H E) (defBody st) t/\t { nx:=fun _ H'=>Q .dj H',rt:=Q } (start N vs) H):ba P w K mg base (vC P w) (k+1) f fd ps sp:=by
 obtain⟨oc,od,kV,doc,pm,an,bz,ct,vX,rfl,lk,zO⟩:=F.ex;refine IT lk zO S len fun A outer s H vs Q E hr vY=>?_;obtain⟨t,h,q⟩:=dJ bz A outer s H vs Q E hr vY;exact⟨t,h.run,q⟩
structure UC(P:u8)(w:World)(K:zn)(mg:xL)(base:Heap)(k:Nat)(x:Str)(f:Addr)(fd:wT)(ps:wv)(sp:Sp):Prop where
 ok:ba P w K mg base (vC P w) k f fd ps sp
 b:Binds K fd ps []
 kp:PySem.W.keepIn K (.ref f)=true
 m:mg x=some (.ref f)
inductive DV where
 | im (d:PyData) | pt (p:Addr) | cst (xs:List V) | rf (a:Addr) | ty (n:String) | vD (c:Addr) | raw (xs:List V) | lE (ns:wn) | tp (xs:List (PyData ⊕ Addr))
inductive Cell where
 | lst (xs:List DV) | aI (g:Addr) (n:Nat) | part | dk (kvs:List (Key×DV)) | dt (kvs:List (List Key×DV)) | ob (k d:Addr) (fs:List (Str×DV))
variable {c:Cell}
abbrev Wd:=Addr->Option Cell
variable {W:Wd}
def aH(W:Wd)(p:Addr)(c:Cell):Wd:=fun a=>if a=p then some c else W a
def j6(W:Wd)(p:Addr):Wd:=fun a=>if a=p then none else W a
theorem au:aH W p c p=some c:=by unfold aH;rw[aaE rfl]
theorem aE(h:a≠p):aH W p c a=W a:=by unfold aH;rw[aaA h]
theorem lF{c':Cell}:aH (aH W p c) p c'=aH W p c':=by funext a;unfold aH;split<;>rfl
theorem iE:j6 W p p=none:=by unfold j6;rw[aaE rfl]
theorem iP(h:a≠p):j6 W p a=W a:=by unfold j6;rw[aaA h]
open Classical in
noncomputable def hide (O:Addr->Prop) (H:Hp):Hp:=fun a=>if O a then none else H a
theorem aC{O:Addr->Prop}{o:HO}:hide O H a=some o↔¬ O a/\H a=some o:=by
 unfold hide
 by_cases h:O a
 ·rw[aaE h];exact⟨(fun z=>by cases z),(fun z=>absurd h z.1)⟩
 ·rw[aaA h];exact⟨fun z=>⟨h,z⟩,fun z=>z.2⟩
def Mu(o:Option HO):Prop:=∃ u,o=some u/\∀ xs,u≠.tup xs
theorem Mu.ne{o:Option HO}(h:Mu o):o≠none:=by obtain⟨u,e,_⟩:=h;rw[e];exact fun z=>nomatch z
structure DC where
 K:zn
 Rs:Hp->Addr->Addr->Nat->Prop
 H0:Hp
 T:Addr->Prop
 O:Addr->Prop
 E:XK
 ex:Addr->Prop
structure DC.Ok(C:DC):Prop where
 rs:∀{H H':Hp} {t g:Addr} {n:Nat},C.Rs H t g n->H' t=H t->H' g=H g->C.Rs H' t g n
 rn:∀{H:Hp} {t g:Addr} {n:Nat},C.Rs H t g n->Mu (H t)/\Mu (H g)
 ex:∀ c,C.ex c->∀ H',(∀ a o,C.H0 a=some o->¬ C.T a->H' a=some o)->C.E (.ref c) none H'
noncomputable def Fz (C:DC) (W:Wd) (H:Hp):Hp:=hide (fun a=>C.O a\/(W a).isSome=true) H
def gC(F:Hp):List (PyData ⊕ Addr)->List V->Prop
 | [],vs=>vs=[]
 | .inl d::r,vs=>∃ y ys,vs=y::ys/\Rep F d y/\gC F r ys
 | .inr p::r,vs=>∃ ys,vs=.ref p::ys/\gC F r ys
theorem gC.same{F F':Hp}(s:aT F F'):∀{ts:List (PyData ⊕ Addr)} {vs:List V},gC F ts vs->gC F' ts vs
 | [],_,h=>h
 | .inl _::_,_,⟨y,ys,e,h,r⟩=>⟨y,ys,e,Rep.same s h,gC.same s r⟩
 | .inr _::_,_,⟨ys,e,r⟩=>⟨ys,e,gC.same s r⟩
def dH(C:DC)(F:Hp):DV->V->Prop
 | .im d,x=>Rep F d x
 | .pt p,x=>x=.ref p
 | .cst xs,x=>∃ a,x=.ref a/\∀ H,fN C.K H a xs
 | .rf a,x=>x=.ref a
 | .ty n,x=>x=.ty n
 | .vD c,x=>∃ a,x=.ref a/\F a=some (UB a (.ref c))
 | .raw xs,x=>∃ a,x=.ref a/\F a=some (.tup xs)
 | .lE ns,x=>∃ a,x=.ref a/\gb C.K F a (ns.map V.int)
 | .tp ts,x=>∃ a vs,x=.ref a/\F a=some (.tup vs)/\gC F ts vs
def aM(C:DC)(F:Hp):List DV->List V->Prop
 | [],xs=>xs=[]
 | d::ds,xs=>∃ y ys,xs=y::ys/\dH C F d y/\aM C F ds ys
def OE:PyData ⊕ Addr->DV
 | .inl d=>.im d
 | .inr p=>.pt p
theorem oh{C:DC}{F:Hp}:∀{ts:List (PyData ⊕ Addr)} {vs:List V},gC F ts vs->aM C F (ts.map OE) vs
 | [],_,h=>h
 | .inl _::_,_,⟨y,ys,e,h,r⟩=>⟨y,ys,e,h,oh r⟩
 | .inr _::_,_,⟨ys,e,r⟩=>⟨_,ys,e,rfl,oh r⟩
theorem wM{C:DC}{F:Hp}:∀{ts:List (PyData ⊕ Addr)} {vs:List V},aM C F (ts.map OE) vs->gC F ts vs
 | [],_,h=>h
 | .inl _::_,_,⟨y,ys,e,h,r⟩=>⟨y,ys,e,h,wM r⟩
 | .inr _::_,_,⟨y,ys,e,h,r⟩=>⟨ys,by rw[e,show y=V.ref _ from h],wM r⟩
def bS(C:DC)(W:Wd)(H:Hp)(p:Addr):Cell->Prop
 | .lst aK=>∃ xs,H p=some (.lst xs)/\aM C (Fz C W H) aK xs
 | .aI g n=>C.Rs H p g n/\W g=some .part/\∀ t' g' n',W t'=some (.aI g' n')->t'=p
 | .part=>Mu (H p)
 | .dk kvs=>∃ kvs',H p=some (.dK kvs')/\kvs'.map (·.1)=kvs.map (·.1)/\aM C (Fz C W H) (kvs.map (·.2)) (kvs'.map (·.2))
 | .dt kvs=>∃ kvs',H p=some (.dT kvs')/\kvs'.map (·.1)=kvs.map (·.1)/\aM C (Fz C W H) (kvs.map (·.2)) (kvs'.map (·.2))
 | .ob k d fs=>∃ gq,H p=some (.ins k d gq)/\gq.map (·.1)=fs.map (·.1)/\aM C (Fz C W H) (fs.map (·.2)) (gq.map (·.2))
abbrev bR:=List (Option DV)
def Slots(C:DC)(F:Hp):bR->St->Prop
 | [],[]=>True
 | none::ρ,_::σ=>Slots C F ρ σ
 | some dv::ρ,some v::σ=>dH C F dv v/\Slots C F ρ σ
 | _,_=>False
structure DR(C:DC)(σ:St)(H:Hp)(ρ:bR)(W:Wd):Prop where
 ok:C.Ok
 fr:∀ a o,C.H0 a=some o->¬ C.T a->H a=some o
 ho:∀ a,C.O a->H a≠none
 th:∀ a,C.T a->H a≠none
 sl:Slots C (Fz C W H) ρ σ
 ce:∀ p c,W p=some c->(C.H0 p=none\/C.T p)/\¬ C.O p/\bS C W H p c
section
variable {C:DC}{F F':Hp}{σ:St}{ρ:bR}{H':Hp}{W':Wd}{dv:DV}{x:V}{aK:List DV}{xs:List V}
theorem dH.mono(s:aT F F'):∀{dv:DV},dH C F dv x->dH C F' dv x
 | .im _,h=>Rep.same s h
 | .pt _,h=>h
 | .cst _,h=>h
 | .rf _,h=>h
 | .ty _,h=>h
 | .vD _,⟨a,e,h⟩=>⟨a,e,s _ _ h⟩
 | .raw _,⟨a,e,h⟩=>⟨a,e,s _ _ h⟩
 | .lE _,⟨a,e,h⟩=>⟨a,e,s.seq h⟩
 | .tp _,⟨a,vs,e,h,r⟩=>⟨a,vs,e,s _ _ h,r.same s⟩
theorem aM.mono(s:aT F F'):∀{aK:List DV} {xs:List V},aM C F aK xs->aM C F' aK xs
 | [],_,h=>h
 | _::_,_,⟨y,ys,e,h,r⟩=>⟨y,ys,e,h.mono s,aM.mono s r⟩
theorem aM.length:∀{aK:List DV} {xs:List V},aM C F aK xs->aK.length=xs.length
 | [],_,h=>by cases h;rfl
 | _::_,_,⟨y,ys,e,_,r⟩=>by subst e;simp[aM.length r]
theorem aM.get:∀{aK:List DV} {xs:List V} {i:Nat} {dv:DV},aM C F aK xs->aK[i]?=some dv->∃ x,xs[i]?=some x/\dH C F dv x
 | [],_,_,_,_,e=>by simp at e
 | _::_,_,0,_,⟨y,ys,e1,r,_⟩,e=>by simp at e;subst e e1;exact⟨y,rfl,r⟩
 | _::_,_,i+1,d,⟨y,ys,e1,_,rs⟩,e=>by
  obtain⟨x,h1,h2⟩:=aM.get (i:=i) (dv:=d) rs (by simpa using e);subst e1;exact⟨x,by simpa using h1,h2⟩
theorem aM.get'{i:Nat}(r:aM C F aK xs)(e:xs[i]?=some x):∃ dv,aK[i]?=some dv/\dH C F dv x:=by
 have hl:=r.length;have hi:i < xs.length:=(aas.mp e).1;obtain⟨y,h1,h2⟩:=r.get (i:=i) (dv:=aK[i]) (by simp[hl,hi]);rw[e]at h1;cases h1;exact⟨_,by simp[hl,hi],h2⟩
theorem aM.append:∀{aK:List DV} {xs:List V} {Qj:List DV} {FI:List V},aM C F aK xs->aM C F Qj FI->aM C F (aK++Qj) (xs++FI)
 | [],_,_,_,h,h'=>by cases h;exact h'
 | _::_,_,_,_,⟨y,ys,e,h,r⟩,h'=>by subst e;exact⟨y,_,rfl,h,aM.append r h'⟩
theorem aM.one(h:dH C F dv x):aM C F [dv] [x]:=⟨x,[],rfl,h,rfl⟩
theorem aM.set:∀{aK:List DV} {xs:List V} (i:Nat),aM C F aK xs->dH C F dv x->aM C F (aK.set i dv) (xs.set i x)
 | [],_,_,h,_=>by cases h;exact rfl
 | _::_,_,0,⟨y,ys,e,h,r⟩,h'=>by subst e;exact⟨x,ys,rfl,h',r⟩
 | _::_,_,i+1,⟨y,ys,e,h,r⟩,h'=>by subst e;exact⟨y,_,rfl,h,aM.set i r h'⟩
theorem aM.take:∀{aK:List DV} {xs:List V} (i:Nat),aM C F aK xs->aM C F (aK.take i) (xs.take i)
 | [],_,_,h=>by cases h;simp[aM]
 | _::_,_,0,_=>by simp[aM]
 | _::_,_,i+1,⟨y,ys,e,h,r⟩=>by subst e;exact⟨y,_,rfl,h,aM.take i r⟩
theorem aM.drop:∀{aK:List DV} {xs:List V} (i:Nat),aM C F aK xs->aM C F (aK.drop i) (xs.drop i)
 | [],_,_,h=>by cases h;simp[aM]
 | _::_,_,0,h=>h
 | _::_,_,i+1,⟨y,ys,e,h,r⟩=>by subst e;exact aM.drop i r
theorem aM.erase:∀{aK:List DV} {xs:List V} (i:Nat),aM C F aK xs->aM C F (aK.eraseIdx i) (xs.eraseIdx i)
 | [],_,_,h=>by cases h;exact rfl
 | _::_,_,0,⟨y,ys,e,h,r⟩=>by subst e;exact r
 | _::_,_,i+1,⟨y,ys,e,h,r⟩=>by subst e;exact⟨y,_,rfl,h,aM.erase i r⟩
theorem aM.rep(k:Nat)(h:aM C F aK xs):aM C F (List.replicate k aK).flatten (List.replicate k xs).flatten:=by
 induction k with
 | zero=>exact rfl
 | succ k ih=>rw[abC,abC,ab2,ab2];exact h.append ih
theorem aM.gD:∀{ds:wE} {xs:List V},az F ds xs->aM C F (ds.map .im) xs
 | [],_,h=>h
 | _::_,_,⟨y,ys,e,h,r⟩=>⟨y,ys,e,h,aM.gD r⟩
theorem aM.uc:∀{ds:wE} {xs:List V},aM C F (ds.map .im) xs->az F ds xs
 | [],_,h=>h
 | _::_,_,⟨y,ys,e,h,r⟩=>⟨y,ys,e,h,aM.uc r⟩
theorem Slots.mono(s:aT F F'):∀{ρ:bR} {σ:St},Slots C F ρ σ->Slots C F' ρ σ
 | [],[],h=>h
 | none::ρ,_::σ,h=>Slots.mono (ρ:=ρ) (σ:=σ) s h
 | some _::_,some _::_,h=>⟨h.1.mono s,Slots.mono s h.2⟩
 | some _::_,none::_,h=>h.elim
 | [],_::_,h=>h.elim
 | none::_,[],h=>h.elim
 | some _::_,[],h=>h.elim
theorem Slots.get:∀{ρ:bR} {σ:St} {i:Nat} {dv:DV},Slots C F ρ σ->ρ[i]?=some (some dv)->∃ v,σ[i]?=some (some v)/\dH C F dv v
 | [],[],_,_,_,e=>by simp at e
 | none::_,_::_,0,_,_,e=>by simp at e
 | none::ρ,_::σ,i+1,_,h,e=>by
  obtain⟨v,h1,h2⟩:=Slots.get (ρ:=ρ) (σ:=σ) (i:=i) h (by simpa using e);exact⟨v,by simpa using h1,h2⟩
 | some _::_,some v::_,0,_,h,e=>by simp at e;subst e;exact⟨v,rfl,h.1⟩
 | some _::_,some _::_,i+1,_,h,e=>by
  obtain⟨v,h1,h2⟩:=Slots.get (i:=i) h.2 (by simpa using e);exact⟨v,by simpa using h1,h2⟩
 | some _::_,none::_,_,_,h,_=>h.elim
 | [],_::_,_,_,h,_=>h.elim
 | none::_,[],_,_,h,_=>h.elim
 | some _::_,[],_,_,h,_=>h.elim
theorem Slots.set{v:V}(hv:dH C F dv v):∀{ρ:bR} {σ:St} (i:Nat),Slots C F ρ σ->Slots C F (ρ.set i (some dv)) (σ.set i (some v))
 | [],[],_,h=>by cases ‹Nat›<;>exact h
 | none::_,_::_,0,h=>⟨hv,h⟩
 | none::ρ,_::σ,i+1,h=>Slots.set (ρ:=ρ) (σ:=σ) hv i h
 | some _::_,some _::_,0,h=>⟨hv,h.2⟩
 | some _::_,some _::_,i+1,h=>⟨h.1,Slots.set hv i h.2⟩
 | some _::_,none::_,_,h=>h.elim
 | [],_::_,_,h=>h.elim
 | none::_,[],_,h=>h.elim
 | some _::_,[],_,h=>h.elim
theorem Slots.at(h:Slots C F ρ σ)(i:Nat):Slots C F [(ρ[i]?).join] [(σ[i]?).join]:=by
 cases e:(ρ[i]?).join with
 | none=>exact trivial
 | some dv =>
  have e':ρ[i]?=some (some dv):=by
   cases q:ρ[i]? with
   | none=>rw[q]at e;cases e
   | some o=>rw[q]at e;exact abK some e
  obtain⟨v,h1,h2⟩:=h.get e';rw[h1];exact⟨h2,trivial⟩
def Az(ix:List (Option Nat))(ρ:bR):bR:=ix.map fun o=>match o with | none=>none | some j=>(ρ[j]?).join
theorem Slots.blk(h:Slots C F ρ σ):∀ ix:List (Option Nat),Slots C F (Az ix ρ) (L2.blk ix σ)
 | []=>trivial
 | none::r=>by show Slots C F (none::Az r ρ) (none::L2.blk r σ);exact Slots.blk h r
 | some j::r=>by
  have h1:=h.at j;have h2:=Slots.blk h r;show Slots C F ((ρ[j]?).join::Az r ρ) ((σ[j]?).join::L2.blk r σ);cases e:(ρ[j]?).join with
  | none=>exact h2
  | some dv =>
   rw[e]at h1;cases e2:(σ[j]?).join with
   | none=>rw[e2]at h1;exact h1.elim
   | some v=>rw[e2]at h1;exact⟨h1.1,h2⟩
theorem Fz.le{o:HO}(h:Fz C W H a=some o):H a=some o:=(aC.mp h).2
theorem Fz.sm:aT (Fz C W H) H:=fun _ _ h=>Fz.le h
theorem Fz.same(hW:∀ a,(W' a).isSome=true->(W a).isSome=true\/H a=none)(hH:∀ a o,H a=some o->W a=none->H' a=some o):aT (Fz C W H) (Fz C W' H'):=fun a o h=>by
 obtain⟨h1,h2⟩:=aC.mp h;refine aC.mpr ⟨fun z=>?_,hH a o h2 ?_⟩
 ·rcases z with z | z
  ·exact h1 (.inl z)
  ·rcases hW a z with q | q
   ·exact h1 (.inr q)
   ·rw[q]at h2;cases h2
 ·cases e:W a with
  | none=>rfl
  | some c=>exact absurd (.inr (by rw[e];rfl)) h1
theorem bS.mono{c:Cell}(s:aT (Fz C W H) (Fz C W' H'))(ok:C.Ok)(hp:H' p=H p)(hg:∀ g,W g=some .part->W' g=some .part/\H' g=H g)(ht:∀ t' g' n',W' t'=some (.aI g' n')->∃ n,W t'=some (.aI g' n))(h:bS C W H p c):bS C W' H' p c:=by
 cases c with
 | lst aK=>obtain⟨xs,e,r⟩:=h;exact⟨xs,by rw[hp];exact e,r.mono s⟩
 | aI g n =>
  obtain⟨r,e,u⟩:=h;refine⟨ok.rs r hp (hg g e).2,(hg g e).1,fun t' g' n' q=>?_⟩;obtain⟨m,q⟩:=ht t' g' n' q;exact u t' g' m q
 | part=>show Mu (H' p);rw[hp];exact h
 | dk kvs=>obtain⟨ks,e,k,r⟩:=h;exact⟨ks,by rw[hp];exact e,k,r.mono s⟩
 | dt kvs=>obtain⟨ks,e,k,r⟩:=h;exact⟨ks,by rw[hp];exact e,k,r.mono s⟩
 | ob _ _ kvs=>obtain⟨ks,e,k,r⟩:=h;exact⟨ks,by rw[hp];exact e,k,r.mono s⟩
theorem bS.there(ok:C.Ok)(h:bS C W H p c):H p≠none:=by
 cases c with
 | lst aK=>obtain⟨xs,e,r⟩:=h;rw[e];exact fun z=>nomatch z
 | aI g n=>exact(ok.rn h.1).1.ne
 | part=>exact h.ne
 | dk kvs=>obtain⟨ks,e,k,r⟩:=h;rw[e];exact fun z=>nomatch z
 | dt kvs=>obtain⟨ks,e,k,r⟩:=h;rw[e];exact fun z=>nomatch z
 | ob _ _ kvs=>obtain⟨ks,e,k,r⟩:=h;rw[e];exact fun z=>nomatch z
theorem bS.mu(ok:C.Ok)(h:bS C W H p c):Mu (H p):=by
 cases c with
 | lst aK=>obtain⟨xs,e,r⟩:=h;exact⟨_,e,fun _ z=>nomatch z⟩
 | aI g n=>exact(ok.rn h.1).1
 | part=>exact h
 | dk kvs=>obtain⟨ks,e,k,r⟩:=h;exact⟨_,e,fun _ z=>nomatch z⟩
 | dt kvs=>obtain⟨ks,e,k,r⟩:=h;exact⟨_,e,fun _ z=>nomatch z⟩
 | ob _ _ kvs=>obtain⟨ks,e,k,r⟩:=h;exact⟨_,e,fun _ z=>nomatch z⟩
theorem DR.there(D:DR C σ H ρ W)(h:W p=some c):H p≠none:=(D.ce p c h).2.2.there D.ok
theorem DR.fresh(D:DR C σ H ρ W)(h:H p=none):W p=none:=by
 cases e:W p with
 | none=>rfl
 | some c=>exact absurd h (D.there e)
theorem DR.nO(D:DR C σ H ρ W)(h:H p=none):¬ C.O p:=fun z=>D.ho p z h
theorem DR.Jv(D:DR C σ H ρ W)(h:H p=none):C.H0 p=none:=by
 cases e:C.H0 p with
 | none=>rfl
 | some o =>
  by_cases ht:C.T p
  ·exact absurd h (D.th p ht)
  ·rw[D.fr p o e ht]at h;cases h
theorem DR.step(D:DR C σ H ρ W)(hW:∀ a,(W' a).isSome=true->(W a).isSome=true\/H a=none)(hH:∀ a o,H a=some o->W a=none->H' a=some o)(hn:∀ a,H a≠none->H' a≠none)(hc:aT (Fz C W H) (Fz C W' H')->∀ p c,W' p=some c->(C.H0 p=none\/C.T p)/\¬ C.O p/\bS C W' H' p c):DR C σ H' ρ W'/\aT (Fz C W H) (Fz C W' H'):=by
 have s:=Fz.same (C:=C) hW hH;refine⟨⟨D.ok,fun a o e ht=>?_,fun a ha=>hn a (D.ho a ha),fun a ha=>hn a (D.th a ha),D.sl.mono s,hc s⟩,s⟩;refine hH a o (D.fr a o e ht) ?_;cases q:W a with
 | none=>rfl
 | some c =>
  rcases (D.ce a c q).1 with z | z
  ·rw[e]at z;cases z
  ·exact absurd z ht
end
end L2
namespace L2
open PySem PySem.Spec PyProof.Rows
variable {H F:Hp}{d dx:PyData}
def Cell.plain:Cell->Bool
 | .aI _ _=>false
 | .part=>false
 | _=>true
section
variable {C:DC}{σ:St}{ρ:bR}{H':Hp}{W W':Wd}{p:Addr}{dv:DV}{x:V}{aK UD:List DV}{xs:List V}
theorem ud{a:Addr}{o u:HO}(h:H p=none)(e:H a=some o):upd H p u a=some o:=by rw[bw (ck e h)];exact e
theorem wN{a:Addr}{o:HO}(h:H a≠none):upd H p o a≠none:=by
 unfold upd;split
 ·exact fun z=>nomatch z
 ·exact h
theorem DR.Bt(D:DR C σ H ρ W)(h:H p=none)(o:HO):DR C σ (upd H p o) ρ W/\aT (Fz C W H) (Fz C W (upd H p o))/\Fz C W (upd H p o) p=some o:=by
 have np:∀ a,H a≠none->a≠p:=fun a ha z=>ha (by rw[z];exact h);obtain⟨d,s⟩:=D.step (W':=W) (H':=upd H p o) (fun a z=>.inl z) (fun a u e _=>ud h e) (fun a ha=>wN ha) fun s q c e=>by
  obtain⟨h1,h2,h3⟩:=D.ce q c e;exact⟨h1,h2,h3.mono s D.ok (bw (np q (D.there e))) (fun g hg=>⟨hg,bw (np g (D.there hg))⟩) fun t' g' n' z=>⟨n',z⟩⟩
 refine⟨d,s,aC.mpr ⟨fun z=>?_,cn⟩⟩;rcases z with z | z
 ·exact D.nO h z
 ·rw[D.fresh h]at z;cases z
theorem DR.L8{c:Cell}{o:HO}(D:DR C σ H ρ W)(h:H p=none)(hp:c.plain=true)(hc:aT (Fz C W H) (Fz C (aH W p c) (upd H p o))->bS C (aH W p c) (upd H p o) p c):DR C σ (upd H p o) ρ (aH W p c)/\aT (Fz C W H) (Fz C (aH W p c) (upd H p o)):=by
 have np:∀ a,H a≠none->a≠p:=fun a ha z=>ha (by rw[z];exact h);refine D.step (fun a z=>?_) (fun a u e _=>ud h e) (fun a ha=>wN ha) fun s q c' e=>?_
 ·by_cases hq:a=p
  ·exact .inr (by rw[hq];exact h)
  ·rw[aE hq]at z;exact .inl z
 ·by_cases hq:q=p
  ·subst hq;rw[au]at e;cases e;exact⟨.inl (D.Jv h),D.nO h,hc s⟩
  ·rw[aE hq]at e;obtain⟨h1,h2,h3⟩:=D.ce q c' e;refine⟨h1,h2,h3.mono s D.ok (bw hq) (fun g hg=>?_) fun t' g' n' z=>?_⟩
   ·have:=np g (D.there hg);exact⟨by rw[aE this];exact hg,bw this⟩
   ·by_cases ht:t'=p
    ·subst ht;rw[au]at z;cases z;cases hp
    ·rw[aE ht]at z;exact⟨n',z⟩
theorem DR.UE(D:DR C σ H ρ W)(h:H p=none)(r:aM C (Fz C W H) aK xs):DR C σ (upd H p (.lst xs)) ρ (aH W p (.lst aK))/\aT (Fz C W H) (Fz C (aH W p (.lst aK)) (upd H p (.lst xs))) :=
 D.L8 h rfl fun s=>⟨xs,cn,r.mono s⟩
theorem DR.OF{c c0:Cell}{o:HO}(D:DR C σ H ρ W)(e:W p=some c0)(h0:c0.plain=true)(h1:c.plain=true)(hc:aT (Fz C W H) (Fz C (aH W p c) (upd H p o))->bS C (aH W p c) (upd H p o) p c):DR C σ (upd H p o) ρ (aH W p c)/\aT (Fz C W H) (Fz C (aH W p c) (upd H p o)):=by
 refine D.step (fun a z=>?_) (fun a u q w=>?_) (fun a ha=>wN ha) fun s q c' e'=>?_
 ·by_cases hq:a=p
  ·exact .inl (by rw[hq,e];rfl)
  ·rw[aE hq]at z;exact .inl z
 ·rw[bw (fun z=>by rw[z,e]at w;cases w)];exact q
 ·by_cases hq:q=p
  ·subst hq;rw[au]at e';cases e';exact⟨(D.ce q c0 e).1,(D.ce q c0 e).2.1,hc s⟩
  ·rw[aE hq]at e';obtain⟨FJ,h2,h3⟩:=D.ce q c' e';refine⟨FJ,h2,h3.mono s D.ok (bw hq) (fun g hg=>?_) fun t' g' n' z=>?_⟩
   ·have:g≠p:=fun z=>by rw[z,e]at hg;cases hg;cases h0
    exact⟨by rw[aE this];exact hg,bw this⟩
   ·by_cases ht:t'=p
    ·subst ht;rw[au]at z;cases z;cases h1
    ·rw[aE ht]at z;exact⟨n',z⟩
theorem DR.wr(D:DR C σ H ρ W)(e:W p=some (.lst UD))(r:aM C (Fz C W H) aK xs):DR C σ (upd H p (.lst xs)) ρ (aH W p (.lst aK))/\aT (Fz C W H) (Fz C (aH W p (.lst aK)) (upd H p (.lst xs))) :=
 D.OF e rfl rfl fun s=>⟨xs,cn,r.mono s⟩
theorem DR.del{c0:Cell}(D:DR C σ H ρ W)(e:W p=some c0)(h0:c0.plain=true):DR C σ H ρ (j6 W p)/\aT (Fz C W H) (Fz C (j6 W p) H):=by
 refine D.step (fun a z=>?_) (fun a u q w=>q) (fun a ha=>ha) fun s q c' e'=>?_
 ·by_cases hq:a=p
  ·rw[hq,iE]at z;cases z
  ·rw[iP hq]at z;exact .inl z
 ·by_cases hq:q=p
  ·subst hq;rw[iE]at e';cases e'
  ·rw[iP hq]at e';obtain⟨FJ,h2,h3⟩:=D.ce q c' e';refine⟨FJ,h2,h3.mono s D.ok rfl (fun g hg=>?_) fun t' g' n' z=>?_⟩
   ·have:g≠p:=fun z=>by rw[z,e]at hg;cases hg;cases h0
    exact⟨by rw[iP this];exact hg,rfl⟩
   ·by_cases ht:t'=p
    ·subst ht;rw[iE]at z;cases z
    ·rw[iP ht]at z;exact⟨n',z⟩
theorem gW{a:Addr}(s:aT H H')(h:H a≠none):H' a=H a:=by
 cases e:H a with
 | none=>exact absurd e h
 | some o=>exact s a o e
theorem rm(s:aT H H'):∀ a,H a≠none->H' a≠none:=fun a h=>by rw[gW s h];exact h
theorem DR.same(D:DR C σ H ρ W)(s:aT H H'):DR C σ H' ρ W/\aT (Fz C W H) (Fz C W H'):=by
 refine D.step (fun a z=>.inl z) (fun a u q _=>s a u q) (rm s) fun s' q c e=>?_;obtain⟨h1,h2,h3⟩:=D.ce q c e;exact⟨h1,h2,h3.mono s' D.ok (gW s (D.there e)) (fun g hg=>⟨hg,gW s (D.there hg)⟩) fun t' g' n' z=>⟨n',z⟩⟩
theorem DR.kp{t g:Addr}{n n':Nat}(D:DR C σ H ρ W)(e:W t=some (.aI g n))(k:Kp t g H H')(r:C.Rs H' t g n'):DR C σ H' ρ (aH W t (.aI g n'))/\aT (Fz C W H) (Fz C (aH W t (.aI g n')) H'):=by
 obtain⟨_,eg,uq⟩:=(D.ce t _ e).2.2;have keep:∀ a,a≠t->a≠g->H a≠none->H' a=H a:=fun a h1 h2 h=>by
  cases q:H a with
  | none=>exact absurd q h
  | some o=>exact k a o q h1 h2
 have gt:g≠t:=fun z=>by rw[z,e]at eg;cases eg
 refine D.step (fun a z=>?_) (fun a u q w=>?_) (fun a ha=>?_) fun s q c e'=>?_
 ·by_cases hq:a=t
  ·exact .inl (by rw[hq,e];rfl)
  ·rw[aE hq]at z;exact .inl z
 ·exact k a u q (fun z=>by rw[z,e]at w;cases w) (fun z=>by rw[z,eg]at w;cases w)
 ·by_cases h1:a=t
  ·rw[h1];exact(D.ok.rn r).1.ne
  by_cases h2:a=g
  ·rw[h2];exact(D.ok.rn r).2.ne
  rw[keep a h1 h2 ha];exact ha
 ·by_cases hq:q=t
  ·subst hq;rw[au]at e';cases e';refine⟨(D.ce q _ e).1,(D.ce q _ e).2.1,r,by rw[aE gt];exact eg,fun t' g' m z=>?_⟩
   by_cases ht:t'=q
   ·exact ht
   ·rw[aE ht]at z;exact uq t' g' m z
  ·rw[aE hq]at e';obtain⟨FJ,h2,h3⟩:=D.ce q c e';refine⟨FJ,h2,?_⟩
   by_cases AA:q=g
   ·subst AA;rw[eg]at e';cases e';exact(D.ok.rn r).2
   ·cases c with
    | aI g2 n2=>exact absurd (uq q g2 n2 e') hq
    | part=>show Mu (H' q);rw[keep q hq AA (D.there e')];exact h3
    | lst ds=>obtain⟨xs,z,rr⟩:=h3;exact⟨xs,k q _ z hq AA,rr.mono s⟩
    | dk ds=>obtain⟨xs,z,kk,rr⟩:=h3;exact⟨xs,k q _ z hq AA,kk,rr.mono s⟩
    | dt ds=>obtain⟨xs,z,kk,rr⟩:=h3;exact⟨xs,k q _ z hq AA,kk,rr.mono s⟩
    | ob _ _ ds=>obtain⟨xs,z,kk,rr⟩:=h3;exact⟨xs,k q _ z hq AA,kk,rr.mono s⟩
theorem DR.set(D:DR C σ H ρ W)(i:Nat)(h:dH C (Fz C W H) dv x):DR C (σ.set i (some x)) H (ρ.set i (some dv)) W:=⟨D.ok,D.fr,D.ho,D.th,D.sl.set h i,D.ce⟩
theorem DR.slots{bG:St}{cC:bR}(D:DR C σ H ρ W)(h:Slots C (Fz C W H) cC bG):DR C bG H cC W:=⟨D.ok,D.fr,D.ho,D.th,h,D.ce⟩
def fX(f:DV->Option PyData):List DV->Option wE
 | []=>some []
 | x::r=>(f x).bind fun d=>(fX f r).map (d::·)
def dat:Nat->Wd->DV->Option PyData
 | _,_,.im d=>some d
 | n+1,W,.pt p=>match W p with
  | some (.lst xs)=>(fX (dat n W) xs).map .list
  | _=>none
 | n+1,W,.tp ts=>(fX (dat n W) (ts.map OE)).map .tuple
 | _,_,_=>none
theorem jF{f:DV->Option PyData}(hf:∀ d,f (.im d)=some d):∀ ds:List PyData,fX f (ds.map .im)=some ds
 | []=>rfl
 | d::r=>by rw[aaz];unfold fX;rw[hf,jF hf r];rfl
theorem gE{F:Hp}{f:DV->Option PyData}(hf:∀ dv x d,dH C (Fz C W H) dv x->f dv=some d->Rep F d x):∀{aK:List DV} {xs:List V} {ds:wE},aM C (Fz C W H) aK xs->fX f aK=some ds->az F ds xs
 | [],_,_,h,e=>by cases h;cases e;exact rfl
 | d::r,_,ds,⟨y,ys,e1,h,hr⟩,e=>by
  unfold fX at e;cases q:f d with
  | none=>rw[q]at e;cases e
  | some d' =>
   rw[q]at e;cases q2:fX f r with
   | none=>rw[q2]at e;cases e
   | some Bu =>
    rw[q2]at e;cases e;exact⟨y,ys,e1,hf _ _ _ h q,gE hf hr q2⟩
def eT:Option Cell->Prop
 | some (.aI _ _)=>True
 | some .part=>True
 | _=>False
theorem gv{o:Option Cell}(h:eT o):∃ c,o=some c:=by
 cases o with
 | none=>exact h.elim
 | some c=>exact⟨c,rfl⟩
theorem DR.dat(D:DR C σ H ρ W):∀(n:Nat) {dv:DV} {x:V} {d:PyData},dH C (Fz C W H) dv x->dat n W dv=some d->Rep (hide (fun a=>C.O a\/eT (W a)) H) d x
 | n,.im d',x,d,h,e=>by
  have e':d'=d:=by cases n<;>exact aaV e
  subst e';exact Rep.same (fun a o z=>by obtain⟨z1,z2⟩:=aC.mp z;exact aC.mpr ⟨fun w=>z1 (w.elim .inl fun w=>.inr (by obtain⟨c,e⟩:=gv w;rw[e];rfl)),z2⟩) h
 | 0,.pt p,_,_,_,e=>by cases e
 | n+1,.pt p,x,d,h,e=>by
  unfold L2.dat at e;cases q:W p with
  | none=>rw[q]at e;cases e
  | some c =>
   rw[q]at e;cases c with
   | lst ys =>
    cases q2:fX (L2.dat n W) ys with
    | none=>simp[q2]at e
    | some ds =>
     simp[q2]at e;subst e;obtain⟨_,h2,xs,hx,hr⟩:=D.ce p _ q;exact⟨p,xs,h,aC.mpr ⟨fun w=>w.elim h2 fun w=>by rw[q]at w;exact w,hx⟩,gE (fun dv x d h e=>DR.dat D n h e) hr q2⟩
   | aI _ _=>cases e
   | part=>cases e
   | dk _=>cases e
   | dt _=>cases e
   | ob _ _ _=>cases e
 | 0,.cst _,_,_,_,e=>by cases e
 | n+1,.cst _,_,_,_,e=>by cases e
 | 0,.rf _,_,_,_,e=>by cases e
 | n+1,.rf _,_,_,_,e=>by cases e
 | 0,.ty _,_,_,_,e=>by cases e
 | n+1,.ty _,_,_,_,e=>by cases e
 | 0,.vD _,_,_,_,e=>by cases e
 | n+1,.vD _,_,_,_,e=>by cases e
 | 0,.raw _,_,_,_,e=>by cases e
 | n+1,.raw _,_,_,_,e=>by cases e
 | 0,.lE _,_,_,_,e=>by cases e
 | n+1,.lE _,_,_,_,e=>by cases e
 | 0,.tp _,_,_,_,e=>by cases e
 | n+1,.tp ts,x,d,h,e=>by
  unfold L2.dat at e;cases q2:fX (L2.dat n W) (ts.map OE) with
  | none=>simp[q2]at e
  | some ds =>
   simp[q2]at e;subst e;obtain⟨p,vs,e1,h1,r⟩:=h;exact⟨p,vs,e1,aC.mpr ⟨fun w=>(aC.mp h1).1 (w.elim .inl fun w=>.inr (by obtain⟨c,e⟩:=gv w;rw[e];rfl)),(aC.mp h1).2⟩,gE (fun dv x d h e=>DR.dat D n h e) (oh r) q2⟩
theorem GX{O:Addr->Prop}:aT (hide O H) H:=fun a o h=>(aC.mp h).2
theorem DR.rp(D:DR C σ H ρ W){n:Nat}(h:dH C (Fz C W H) dv x)(e:L2.dat n W dv=some d):Rep H d x:=(D.dat n h e).same GX
def gQ(f:Wd->DV->Option (PyData×Wd)):Wd->List DV->Option (List PyData×Wd)
 | W,[]=>some ([],W)
 | W,x::r=>(f W x).bind fun(d,W1)=>(gQ f W1 r).map fun(ds,W2)=>(d::ds,W2)
def jV:Nat->Wd->DV->Option (PyData×Wd)
 | _,W,.im d=>some (d,W)
 | n+1,W,.pt p=>match W p with
  | some (.lst xs)=>(gQ (jV n) (j6 W p) xs).map fun(ds,W1)=>(.list ds,W1)
  | _=>none
 | _,_,_=>none
theorem fg{f:Wd->DV->Option (PyData×Wd)}{W:Wd}(hf:∀ W d,f W (.im d)=some (d,W)):∀ ds:List PyData,gQ f W (ds.map .im)=some (ds,W)
 | []=>rfl
 | d::r=>by rw[aaz];unfold gQ;rw[hf];show(gQ f W (r.map .im)).map _=_;rw[fg hf r];rfl
def Jw(C:DC)(σ:St)(ρ:bR)(f:Wd->DV->Option (PyData×Wd)):Prop:=∀{H:Hp} {W W':Wd} {dv:DV} {x:V} {d:PyData},DR C σ H ρ W->dH C (Fz C W H) dv x->f W dv=some (d,W')->DR C σ H ρ W'/\aT (Fz C W H) (Fz C W' H)/\Rep (Fz C W' H) d x/\∀ a,W a=none->W' a=none
theorem gX{f:Wd->DV->Option (PyData×Wd)}(hf:Jw C σ ρ f):∀{aK:List DV} {W:Wd} {xs:List V} {ds:wE} {W':Wd},DR C σ H ρ W->aM C (Fz C W H) aK xs->gQ f W aK=some (ds,W')->DR C σ H ρ W'/\aT (Fz C W H) (Fz C W' H)/\az (Fz C W' H) ds xs/\∀ a,W a=none->W' a=none
 | [],W,_,_,_,D,h,e=>by cases h;cases e;exact⟨D,aT.refl _,rfl,fun _ z=>z⟩
 | d::r,W,_,ds,W',D,⟨y,ys,e1,h,hr⟩,e=>by
  unfold gQ at e;cases q:f W d with
  | none=>rw[q]at e;cases e
  | some dw =>
   obtain⟨d',W1⟩:=dw;rw[q]at e;cases q2:gQ f W1 r with
   | none=>simp[q2]at e
   | some UG =>
    obtain⟨Bu,W2⟩:=UG;simp[q2]at e;obtain⟨e3,e4⟩:=e;subst e3 e4;obtain⟨D1,s1,r1,k1⟩:=hf D h q;obtain⟨D2,s2,r2,k2⟩:=gX hf D1 (hr.mono s1) q2;exact⟨D2,s1.trans s2,⟨y,ys,e1,r1.same s2,r2⟩,fun a z=>k2 a (k1 a z)⟩
theorem j7:∀ n:Nat,Jw C σ ρ (jV n)
 | n,H,W,W',.im d',x,d,D,h,e=>by
  have e':(d',W)=(d,W'):=by cases n<;>exact aaV e
  cases e';exact⟨D,aT.refl _,h,fun _ z=>z⟩
 | 0,_,_,_,.pt p,_,_,_,_,e=>by cases e
 | n+1,H,W,W',.pt p,x,d,D,h,e=>by
  unfold jV at e;cases q:W p with
  | none=>rw[q]at e;cases e
  | some c =>
   rw[q]at e;cases c with
   | lst ys =>
    cases q2:gQ (jV n) (j6 W p) ys with
    | none=>simp[q2]at e
    | some dw =>
     obtain⟨ds,W1⟩:=dw;simp[q2]at e;obtain⟨e3,e4⟩:=e;subst e3 e4;obtain⟨_,h2,xs,hx,hr⟩:=D.ce p _ q;obtain⟨D1,s1⟩:=D.del q rfl;obtain⟨D2,s2,r2,k2⟩:=gX (j7 n) D1 (hr.mono s1) q2;refine⟨D2,s1.trans s2,⟨p,xs,h,aC.mpr ⟨fun z=>?_,hx⟩,r2⟩,fun a z=>k2 a ?_⟩
     ·rcases z with z | z
      ·exact h2 z
      ·rw[k2 p iE]at z;cases z
     ·by_cases ha:a=p
      ·rw[ha];exact iE
      ·rw[iP ha];exact z
   | aI _ _=>cases e
   | part=>cases e
   | dk _=>cases e
   | dt _=>cases e
   | ob _ _ _=>cases e
 | 0,_,_,_,.cst _,_,_,_,_,e=>by cases e
 | n+1,_,_,_,.cst _,_,_,_,_,e=>by cases e
 | 0,_,_,_,.rf _,_,_,_,_,e=>by cases e
 | n+1,_,_,_,.rf _,_,_,_,_,e=>by cases e
 | 0,_,_,_,.ty _,_,_,_,_,e=>by cases e
 | n+1,_,_,_,.ty _,_,_,_,_,e=>by cases e
 | 0,_,_,_,.vD _,_,_,_,_,e=>by cases e
 | n+1,_,_,_,.vD _,_,_,_,_,e=>by cases e
 | 0,_,_,_,.raw _,_,_,_,_,e=>by cases e
 | n+1,_,_,_,.raw _,_,_,_,_,e=>by cases e
 | 0,_,_,_,.lE _,_,_,_,_,e=>by cases e
 | n+1,_,_,_,.lE _,_,_,_,_,e=>by cases e
 | 0,_,_,_,.tp _,_,_,_,_,e=>by cases e
 | n+1,_,_,_,.tp _,_,_,_,_,e=>by cases e
end
abbrev DK:=DV->Wd->Prop
abbrev cV:=bR->Wd->DK->Prop
abbrev mY:=bR->Wd->(Bool->Wd->Prop)->Prop
abbrev ml:=bR->Wd->(List DV->Wd->Prop)->Prop
abbrev L9:=bR->Wd->(Option Int->Wd->Prop)->Prop
abbrev pU:=DV->DV->Wd->DK->Prop
def KE(C:DC)(σ:St)(ρ:bR)(W:Wd)(H:Hp)(Qd:DK)(Q:VK):Prop:=∀ x dv H' W',DR C σ H' ρ W'->aT (Fz C W H) (Fz C W' H')->dH C (Fz C W' H') dv x->Qd dv W'->Q x H'
def SU(C:DC)(σ:St)(ρ:bR)(W:Wd)(H:Hp)(Qd:Bool->Wd->Prop)(Q:Bool->Hp->Prop):Prop:=∀ b H' W',DR C σ H' ρ W'->aT (Fz C W H) (Fz C W' H')->Qd b W'->Q b H'
def KA(C:DC)(σ:St)(ρ:bR)(W:Wd)(H:Hp)(Qd:List DV->Wd->Prop)(Q:List V->Hp->Prop):Prop:=∀ xs aK H' W',DR C σ H' ρ W'->aT (Fz C W H) (Fz C W' H')->aM C (Fz C W' H') aK xs->Qd aK W'->Q xs H'
def KO(C:DC)(σ:St)(ρ:bR)(W:Wd)(H:Hp)(Qd:v0->Wd->Prop)(Q:v0->Hp->Prop):Prop:=∀ o H' W',DR C σ H' ρ W'->aT (Fz C W H) (Fz C W' H')->Qd o W'->Q o H'
class mD (C:DC) (K:zn):Prop where
 eq:C.K=K
instance {K:zn}{Rs:Hp->Addr->Addr->Nat->Prop}{H0:Hp}{T O:Addr->Prop}{E:XK}{ex:Addr->Prop}:mD ⟨K,Rs,H0,T,O,E,ex⟩ K:=⟨rfl⟩
class GY (C:DC) (Rs:Hp->Addr->Addr->Nat->Prop):Prop where
 eq:C.Rs=Rs
instance {K:zn}{Rs:Hp->Addr->Addr->Nat->Prop}{H0:Hp}{T O:Addr->Prop}{E:XK}{ex:Addr->Prop}:GY ⟨K,Rs,H0,T,O,E,ex⟩ Rs:=⟨rfl⟩
class Xm (C:DC) (E:XK) (X:outParam (Addr->Prop)):Prop where
 e:C.E=E
 x:C.ex=X
instance {K:zn}{Rs:Hp->Addr->Addr->Nat->Prop}{H0:Hp}{T O:Addr->Prop}{E:XK}{ex:Addr->Prop}:Xm ⟨K,Rs,H0,T,O,E,ex⟩ E ex:=⟨rfl,rfl⟩
class LE (C:DC) (t:TE) (d:outParam cV):Prop where
 go:∀{σ:St} {H:Hp} {ρ:bR} {W:Wd} {Qd:DK} {Q:VK},DR C σ H ρ W->d ρ W Qd->KE C σ ρ W H Qd Q->t σ H Q
class LT (C:DC) (t:TT) (d:outParam mY):Prop where
 go:∀{σ:St} {H:Hp} {ρ:bR} {W:Wd} {Qd:Bool->Wd->Prop} {Q:Bool->Hp->Prop},DR C σ H ρ W->d ρ W Qd->SU C σ ρ W H Qd Q->t σ H Q
class LA (C:DC) (t:TA) (d:outParam ml):Prop where
 go:∀{σ:St} {H:Hp} {ρ:bR} {W:Wd} {Qd:List DV->Wd->Prop} {Q:List V->Hp->Prop},DR C σ H ρ W->d ρ W Qd->KA C σ ρ W H Qd Q->t σ H Q
class LO (C:DC) (t:TO) (d:outParam L9):Prop where
 go:∀{σ:St} {H:Hp} {ρ:bR} {W:Wd} {Qd:v0->Wd->Prop} {Q:v0->Hp->Prop},DR C σ H ρ W->d ρ W Qd->KO C σ ρ W H Qd Q->t σ H Q
class AB (C:DC) (r:R2) (d:outParam pU):Prop where
 go:∀{σ:St} {H:Hp} {ρ:bR} {W:Wd} {Qd:DK} {Q:VK} {a b:DV} {x y:V},DR C σ H ρ W->dH C (Fz C W H) a x->dH C (Fz C W H) b y->d a b W Qd->KE C σ ρ W H Qd Q->r x y H Q
class UH (C:DC) (r:V->Hp->VK->Prop) (d:outParam (DV->Wd->DK->Prop)):Prop where
 go:∀{σ:St} {H:Hp} {ρ:bR} {W:Wd} {Qd:DK} {Q:VK} {a:DV} {x:V},DR C σ H ρ W->dH C (Fz C W H) a x->d a W Qd->KE C σ ρ W H Qd Q->r x H Q
class Jx (C:DC) (r:List V->Hp->VK->Prop) (d:outParam (List DV->Wd->DK->Prop)):Prop where
 go:∀{σ:St} {H:Hp} {ρ:bR} {W:Wd} {Qd:DK} {Q:VK} {as:List DV} {xs:List V},DR C σ H ρ W->aM C (Fz C W H) as xs->d as W Qd->KE C σ ρ W H Qd Q->r xs H Q
class OG (C:DC) (r:V->List V->Hp->VK->Prop) (d:outParam (DV->List DV->Wd->DK->Prop)):Prop where
 go:∀{σ:St} {H:Hp} {ρ:bR} {W:Wd} {Qd:DK} {Q:VK} {a:DV} {x:V} {as:List DV} {xs:List V},DR C σ H ρ W->dH C (Fz C W H) a x->aM C (Fz C W H) as xs->d a as W Qd->KE C σ ρ W H Qd Q->r x xs H Q
section
variable {C:DC}{ta tb tc te:TE}{da db dc:cV}{r r':R2}{dr UI:pU}{c c':TT}{dt Qk:mY}{ts:TA}{ds:ml}{σ:St}{H':Hp}{ρ:bR}{W W':Wd}{Qd:DK}{Q:VK}{x:V}{dv:DV}
theorem KE.mono(k:KE C σ ρ W H Qd Q)(s:aT (Fz C W H) (Fz C W' H')):KE C σ ρ W' H' Qd Q:=fun x dv H2 W2 D s2 v q=>k x dv H2 W2 D (s.trans s2) v q
theorem KE.now(k:KE C σ ρ W H Qd Q)(D:DR C σ H ρ W)(v:dH C (Fz C W H) dv x)(q:Qd dv W):Q x H:=k x dv H W D (aT.refl _) v q
theorem KE.to(k:KE C σ ρ W H Qd Q)(D:DR C σ H' ρ W'/\aT (Fz C W H) (Fz C W' H'))(v:dH C (Fz C W' H') dv x)(q:Qd dv W'):Q x H':=k x dv H' W' D.1 D.2 v q
def Ql(i:Nat):cV:=fun ρ W Q=>∃ v,ρ[i]?=some (some v)/\Q v W
instance {i:Nat}:LE C (KD i) (Ql i):=⟨fun D zz k=>by obtain⟨v,e,q⟩:=zz; obtain⟨u,h1,h2⟩:=D.sl.get e;exact⟨u,h1,k.now D h2 q⟩⟩
def dC(v:DV):cV:=fun _ W Q=>Q v W
instance {n:Int}:LE C (tC (.int n)) (dC (.im (.int n))):=⟨fun D h k=>k.now (dv:=.im (.int n)) D rfl h⟩
instance {b:Bool}:LE C (tC (.bl b)) (dC (.im (.bool b))):=⟨fun D h k=>k.now (dv:=.im (.bool b)) D rfl h⟩
instance {s:Str}:LE C (tC (.str s)) (dC (.im (.str s))):=⟨fun D h k=>k.now (dv:=.im (.str s)) D rfl h⟩
instance:LE C (tC .dj) (dC (.im .none)):=⟨fun D h k=>k.now (dv:=.im .none) D rfl h⟩
instance {n:String}:LE C (tC (.ty n)) (dC (.ty n)):=⟨fun D h k=>k.now (dv:=.ty n) D rfl h⟩
def Xn(dr:pU)(da db:cV):cV:=fun ρ W Q=>da ρ W fun v W1=>db ρ W1 fun u W2=>dr v u W2 Q
instance [ir:AB C r dr][ia:LE C ta da][ib:LE C tb db]:LE C (zU r ta tb) (Xn dr da db):=⟨fun D h k=>ia.go D h fun x dv H1 W1 D1 s1 v1 h1=>ib.go D1 h1 fun y du H2 W2 D2 s2 v2 h2=>ir.go D2 (v1.mono s2) v2 h2 (k.mono (s1.trans s2))⟩
def Xo(f:DV->Wd->DK->Prop)(da:cV):cV:=fun ρ W Q=>da ρ W fun v W1=>f v W1 Q
instance {u:V->Hp->VK->Prop}{f:DV->Wd->DK->Prop}[iu:UH C u f][ia:LE C ta da]:LE C (Sq u ta) (Xo f da):=⟨fun D h k=>ia.go D h fun x dv H1 W1 D1 s1 v1 h1=>iu.go D1 v1 h1 (k.mono s1)⟩
def UJ(da:cV):mY:=fun ρ W Q=>da ρ W fun v W1=>∃ b,v=.im (.bool b)/\Q b W1
instance [ia:LE C ta da]:LT C (tB ta) (UJ da):=⟨fun D h k=>ia.go D h fun x dv H1 W1 D1 s1 v1 zz=>by obtain⟨b,e,q⟩:=zz; subst e;exact⟨b,v1,k b H1 W1 D1 s1 q⟩⟩
instance [ia:LE C ta da]:LT C (yt ta) (UJ da):=⟨fun D h k=>ia.go D h fun x dv H1 W1 D1 s1 v1 zz=>by obtain⟨b,e,q⟩:=zz; subst e;exact⟨b,v1,k b H1 W1 D1 s1 q⟩⟩
def Qm(a b:mY):mY:=fun ρ W Q=>a ρ W fun c W1=>if c=true then b ρ W1 Q else Q false W1
def Xp(a b:mY):mY:=fun ρ W Q=>a ρ W fun c W1=>if c=true then Q true W1 else b ρ W1 Q
def Qn(a:mY):mY:=fun ρ W Q=>a ρ W fun c W1=>Q (!c) W1
theorem SU.mono{Qd:Bool->Wd->Prop}{Q:Bool->Hp->Prop}(k:SU C σ ρ W H Qd Q)(s:aT (Fz C W H) (Fz C W' H')):SU C σ ρ W' H' Qd Q:=fun b H2 W2 D s2 q=>k b H2 W2 D (s.trans s2) q
instance [it:LT C c dt][CS:LT C c' Qk]:LT C (KL c c') (Qm dt Qk):=⟨fun D h k=>it.go D h fun b H1 W1 D1 s1 h1=>by
 cases b with
 | true=>exact CS.go D1 h1 (k.mono s1)
 | false=>exact k false H1 W1 D1 s1 h1⟩
instance [it:LT C c dt][CS:LT C c' Qk]:LT C (TH c c') (Xp dt Qk):=⟨fun D h k=>it.go D h fun b H1 W1 D1 s1 h1=>by
 cases b with
 | true=>exact k true H1 W1 D1 s1 h1
 | false=>exact CS.go D1 h1 (k.mono s1)⟩
instance [it:LT C c dt]:LT C (KN c) (Qn dt):=⟨fun D h k=>it.go D h fun b H1 W1 D1 s1 h1=>k (!b) H1 W1 D1 s1 h1⟩
def Jy(a b:cV):cV:=fun ρ W Q=>a ρ W fun v W1=>∃ c,v=.im (.bool c)/\if c=true then b ρ W1 Q else Q (.im (.bool false)) W1
def Qp(a b:cV):cV:=fun ρ W Q=>a ρ W fun v W1=>∃ c,v=.im (.bool c)/\if c=true then Q (.im (.bool true)) W1 else b ρ W1 Q
def Jz(a:cV):cV:=fun ρ W Q=>a ρ W fun v W1=>∃ c,v=.im (.bool c)/\Q (.im (.bool (!c))) W1
instance [ia:LE C ta da][ib:LE C tb db]:LE C (BJ ta tb) (Jy da db):=⟨fun D h k=>ia.go D h fun x dv H1 W1 D1 s1 v1 zz=>by
 obtain⟨b,e,q⟩:=zz
 subst e;refine⟨b,v1,?_⟩;cases b with
 | true=>exact ib.go D1 q (k.mono s1)
 | false=>exact(k.mono s1).now (dv:=.im (.bool _)) D1 rfl q⟩
instance [ia:LE C ta da][ib:LE C tb db]:LE C (KS ta tb) (Qp da db):=⟨fun D h k=>ia.go D h fun x dv H1 W1 D1 s1 v1 zz=>by
 obtain⟨b,e,q⟩:=zz
 subst e;refine⟨b,v1,?_⟩;cases b with
 | true=>exact(k.mono s1).now (dv:=.im (.bool _)) D1 rfl q
 | false=>exact ib.go D1 q (k.mono s1)⟩
instance [ia:LE C ta da]:LE C (BK ta) (Jz da):=⟨fun D h k=>ia.go D h fun x dv H1 W1 D1 s1 v1 zz=>by obtain⟨b,e,q⟩:=zz; subst e;exact⟨b,v1,(k.mono s1).now (dv:=.im (.bool _)) D1 rfl q⟩⟩
def Xq(c:mY)(a b:cV):cV:=fun ρ W Q=>c ρ W fun k W1=>if k=true then a ρ W1 Q else b ρ W1 Q
instance [it:LT C c dt][ia:LE C ta da][ib:LE C tb db]:LE C (TJ c ta tb) (Xq dt da db):=⟨fun D h k=>it.go D h fun b H1 W1 D1 s1 h1=>by
 cases b with
 | true=>exact ia.go D1 h1 (k.mono s1)
 | false=>exact ib.go D1 h1 (k.mono s1)⟩
def isNone:DV->Bool
 | .im .none=>true
 | _=>false
theorem pV:∀{dv:DV} {x:V},dH C F dv x->decide (x=.dj)=isNone dv
 | .im .none,x,h=>by rw[show x=.dj from h];rfl
 | .im (.bool _),x,h=>by rw[show x=.bl _ from h];rfl
 | .im (.int _),x,h=>by rw[show x=.int _ from h];exact aat (fun z=>nomatch z)
 | .im (.str _),x,h=>by rw[show x=.str _ from h];exact aat (fun z=>nomatch z)
 | .im (.list _),x,⟨a,_,e,_⟩=>by rw[e];exact aat (fun z=>nomatch z)
 | .im (.tuple _),x,⟨a,_,e,_⟩=>by rw[e];exact aat (fun z=>nomatch z)
 | .im (.dict _),x,h=>h.elim
 | .pt _,x,h=>by rw[show x=.ref _ from h];exact aat (fun z=>nomatch z)
 | .cst _,x,⟨a,e,_⟩=>by rw[e];exact aat (fun z=>nomatch z)
 | .rf _,x,h=>by rw[show x=.ref _ from h];exact aat (fun z=>nomatch z)
 | .ty _,x,h=>by rw[show x=.ty _ from h];exact aat (fun z=>nomatch z)
 | .vD _,x,⟨a,e,_⟩=>by rw[e];exact aat (fun z=>nomatch z)
 | .raw _,x,⟨a,e,_⟩=>by rw[e];exact aat (fun z=>nomatch z)
 | .lE _,x,⟨a,e,_⟩=>by rw[e];exact aat (fun z=>nomatch z)
 | .tp _,x,⟨a,_,e,_⟩=>by rw[e];exact aat (fun z=>nomatch z)
def Qq(a:cV):cV:=fun ρ W Q=>a ρ W fun v W1=>Q (.im (.bool (isNone v))) W1
def JA(a:cV):cV:=fun ρ W Q=>a ρ W fun v W1=>Q (.im (.bool (!isNone v))) W1
instance [ia:LE C ta da]:LE C (FX ta) (Qq da):=⟨fun D h k=>ia.go D h fun x dv H1 W1 D1 s1 v1 q=>by rw[pV v1];exact(k.mono s1).now (dv:=.im (.bool _)) D1 rfl q⟩
instance [ia:LE C ta da]:LE C (BG ta) (JA da):=⟨fun D h k=>ia.go D h fun x dv H1 W1 D1 s1 v1 q=>by rw[pV v1];exact(k.mono s1).now (dv:=.im (.bool _)) D1 rfl q⟩
def CT(r r':pU)(a b c:cV):cV:=fun ρ W Q=>a ρ W fun x W1=>b ρ W1 fun y W2=>r x y W2 fun z W3=>∃ k,z=.im (.bool k)/\if k=true then c ρ W3 fun w W4=>r' y w W4 Q else Q (.im (.bool false)) W3
instance [ir:AB C r dr][Zv:AB C r' UI][ia:LE C ta da][ib:LE C tb db][ic:LE C tc dc]:LE C (vQ r r' ta tb tc) (CT dr UI da db dc):=⟨fun D h k=>ia.go D h fun x dv H1 W1 D1 s1 v1 h1=>ib.go D1 h1 fun y du H2 W2 D2 s2 v2 h2=>ir.go D2 (v1.mono s2) v2 h2 fun z dz H3 W3 D3 s3 v3 zz=>by
 obtain⟨b,e,q⟩:=zz
 subst e;refine⟨b,v3,?_⟩;cases b with
 | true=>exact ic.go D3 q fun w dw H4 W4 D4 s4 v4 h4=>Zv.go D4 ((v2.mono s3).mono s4) v4 h4 (k.mono (((s1.trans s2).trans s3).trans s4))
 | false=>exact(k.mono ((s1.trans s2).trans s3)).now (dv:=.im (.bool _)) D3 rfl q⟩
def Qr:ml:=fun _ W Q=>Q [] W
def JB(a:cV)(b:ml):ml:=fun ρ W Q=>a ρ W fun v W1=>b ρ W1 fun vs W2=>Q (v::vs) W2
instance:LA C qH Qr:=⟨fun D h k=>k [] [] _ _ D (aT.refl _) rfl h⟩
instance [ia:LE C ta da][is:LA C ts ds]:LA C (nK ta ts) (JB da ds):=⟨fun D h k=>ia.go D h fun x dv H1 W1 D1 s1 v1 h1=>is.go D1 h1 fun xs aK H2 W2 D2 s2 v2 h2=>k (x::xs) (dv::aK) H2 W2 D2 (s1.trans s2) ⟨x,xs,rfl,v1.mono s2,v2⟩ h2⟩
def FK:V->DV
 | .dj=>.im .none
 | .bl b=>.im (.bool b)
 | .int i=>.im (.int i)
 | .str s=>.im (.str s)
 | .ref a=>.rf a
 | .ty n=>.ty n
 | _=>.im (.dict [])
theorem Ma:∀{x:V},eE x=true->dH C F (FK x) x
 | .dj,_=>rfl
 | .bl _,_=>rfl
 | .int _,_=>rfl
 | .str _,_=>rfl
 | .ref _,h=>by cases h
 | .ty _,h=>by cases h
 | .yg _,h=>by cases h
 | .FT _,h=>by cases h
theorem mZ{F:Hp}:∀{xs:List V},xs.all eE=true->aM C F (xs.map FK) xs
 | [],_=>rfl
 | x::r,h=>by
  rw[aaX,aaC]at h;exact⟨x,r,rfl,Ma h.1,mZ h.2⟩
def Xr(vs:List V):ml:=fun _ W Q=>vs.all eE=true/\Q (vs.map FK) W
instance {vs:List V}:LA C (tK vs) (Xr vs):=⟨fun D h k=>k vs _ _ _ D (aT.refl _) (mZ h.1) h.2⟩
noncomputable def Mb:DV->Option V
 | .rf a=>some (.ref a)
 | .ty n=>some (.ty n)
 | _=>none
noncomputable def CU:List DV->Option (List V)
 | []=>some []
 | x::r=>(Mb x).bind fun v=>(CU r).map (v::·)
theorem GZ{v:V}:∀{dv:DV} {x:V},dH C F dv x->Mb dv=some v->x=v
 | .rf a,x,h,e=>by cases e;exact h
 | .ty a,x,h,e=>by cases e;exact h
 | .im _,_,_,e=>by cases e
 | .pt _,_,_,e=>by cases e
 | .cst _,_,_,e=>by cases e
 | .vD _,_,_,e=>by cases e
 | .raw _,_,_,e=>by cases e
 | .lE _,_,_,e=>by cases e
 | .tp _,_,_,e=>by cases e
theorem yL{F:Hp}:∀{aK:List DV} {xs vs:List V},aM C F aK xs->CU aK=some vs->xs=vs
 | [],_,_,h,e=>by cases h;cases e;rfl
 | d::r,_,_,⟨y,ys,e1,h,hr⟩,e=>by
  unfold CU at e;cases q:Mb d with
  | none=>rw[q]at e;cases e
  | some v =>
   rw[q]at e;cases q2:CU r with
   | none=>simp[q2]at e
   | some vs =>
    simp[q2]at e;subst e;rw[e1,GZ h q,yL hr q2]
noncomputable def mm(vs:List DV)(W1:Wd)(Q:DK):Prop:=vs.length<=sizeLine/\((∃ ds W2,gQ (jV 3) W1 vs=some (ds,W2)/\Q (.im (.tuple ds)) W2)\/(∃ us,CU vs=some us/\Q (.raw us) W1)\/∃ ts,vs=ts.map OE/\Q (.tp ts) W1)
noncomputable def Qt(a:ml):cV:=fun ρ W Q=>a ρ W fun vs W1=>mm vs W1 Q
noncomputable instance [is:LA C ts ds]:LE C (Lm ts) (Qt ds):=⟨fun D h k=>is.go D h fun xs aK H1 W1 D1 s1 v1 ⟨hl,h1⟩=>⟨by rw[<- v1.length];exact hl,fun p hp=>by
 rcases h1 with⟨ds,W2,e,q⟩ | ⟨us,e,q⟩ | ⟨Zw,e,q⟩
 ·obtain⟨D2,s2,r2,k2⟩:=gX (j7 3) D1 v1 e;obtain⟨D3,s3,e3⟩:=D2.Bt hp (.tup xs);exact k _ (.im (.tuple ds)) _ _ D3 ((s1.trans s2).trans s3) ⟨p,xs,rfl,e3,az.same s3 r2⟩ q
 ·obtain⟨D3,s3,e3⟩:=D1.Bt hp (.tup xs);exact k _ (.raw us) _ _ D3 (s1.trans s3) ⟨p,rfl,by rw[e3,yL v1 e]⟩ q
 ·subst e;obtain⟨D3,s3,e3⟩:=D1.Bt hp (.tup xs);exact k _ (.tp Zw) _ _ D3 (s1.trans s3) ⟨p,xs,rfl,e3,(wM v1).same s3⟩ q⟩⟩
def i5(vs:List DV)(W:Wd)(Q:DK):Prop:=(∀ p,W p=none->Q (.pt p) (aH W p (.lst vs)))\/∃ ds,vs=ds.map .im/\Q (.im (.list ds)) W
theorem gY{vs:List DV}{xs:List V}{p:Addr}(D:DR C σ H ρ W)(r:aM C (Fz C W H) vs xs)(hp:H p=none)(h:i5 vs W Qd)(k:KE C σ ρ W H Qd Q):Q (.ref p) (upd H p (.lst xs)):=by
 rcases h with h | ⟨ds,rfl,h⟩
 ·exact k.to (dv:=.pt p) (D.UE hp r) rfl (h p (D.fresh hp))
 ·obtain⟨D3,s3,e3⟩:=D.Bt hp (.lst xs);exact k _ (.im (.list ds)) _ _ D3 s3 ⟨p,xs,rfl,e3,az.same s3 r.uc⟩ h
def yM(vs:List DV)(W:Wd)(Q:DK):Prop:=vs.length<=sizeLine/\i5 vs W Q
def Qu(a:ml):cV:=fun ρ W Q=>a ρ W fun vs W1=>yM vs W1 Q
instance [is:LA C ts ds]:LE C (B4 ts) (Qu ds):=⟨fun D h k=>is.go D h fun xs aK H1 W1 D1 s1 v1 ⟨hl,h1⟩=>⟨by rw[<- v1.length];exact hl,fun p hp=>by
 exact gY D1 v1 hp h1 (k.mono s1)⟩⟩
class yN (f:Int->Int->V) (g:outParam (Int->Int->PyData)):Prop where
 at_:∀ i j F,Rep F (g i j) (f i j)
instance:yN (fun i j=>.int (i+j)) (fun i j=>.int (i+j)):=⟨fun _ _ _=>rfl⟩
instance:yN (fun i j=>.int (i - j)) (fun i j=>.int (i - j)):=⟨fun _ _ _=>rfl⟩
instance:yN (fun i j=>.int (i * j)) (fun i j=>.int (i * j)):=⟨fun _ _ _=>rfl⟩
instance:yN (fun i j=>.int (i / j)) (fun i j=>.int (i / j)):=⟨fun _ _ _=>rfl⟩
instance:yN (fun i j=>.int (i % j)) (fun i j=>.int (i % j)):=⟨fun _ _ _=>rfl⟩
instance:yN (fun i j=>.int (i ^ j.toNat)) (fun i j=>.int (i ^ j.toNat)):=⟨fun _ _ _=>rfl⟩
instance:yN (fun i j=>.bl (decide (i < j))) (fun i j=>.bool (decide (i < j))):=⟨fun _ _ _=>rfl⟩
instance:yN (fun i j=>.bl (decide (i<=j))) (fun i j=>.bool (decide (i<=j))):=⟨fun _ _ _=>rfl⟩
instance:yN (fun i j=>.bl (decide (j < i))) (fun i j=>.bool (decide (j < i))):=⟨fun _ _ _=>rfl⟩
instance:yN (fun i j=>.bl (decide (j<=i))) (fun i j=>.bool (decide (j<=i))):=⟨fun _ _ _=>rfl⟩
def Xs(g:Int->Int->PyData):pU:=fun a b W Q=>∃ i j,a=.im (.int i)/\b=.im (.int j)/\Q (.im (g i j)) W
def dI(P:Int->Int->Prop)(g:Int->Int->PyData):pU:=fun a b W Q=>∃ i j,a=.im (.int i)/\b=.im (.int j)/\P i j/\Q (.im (g i j)) W
instance {f:Int->Int->V}{g:Int->Int->PyData}[yN f g]:AB C (FG f) (Xs g):=⟨fun D h1 h2 zz k=>by obtain⟨i,j,e1,e2,q⟩:=zz; subst e1 e2;exact⟨i,j,h1,h2,k.now (dv:=.im (g i j)) D (yN.at_ (f:=f) i j _) q⟩⟩
instance {P:Int->Int->Prop}{f:Int->Int->V}{g:Int->Int->PyData}[yN f g]:AB C (rI P f) (dI P g):=⟨fun D h1 h2 zz k=>by obtain⟨i,j,e1,e2,p,q⟩:=zz; subst e1 e2;exact⟨i,j,h1,h2,p,k.now (dv:=.im (g i j)) D (yN.at_ (f:=f) i j _) q⟩⟩
def dU(g:Int->PyData):DV->Wd->DK->Prop:=fun a W Q=>∃ i,a=.im (.int i)/\Q (.im (g i)) W
instance:UH C (rU fun i=>.int (-i)) (dU fun i=>.int (-i)):=⟨fun D h1 zz k=>by obtain⟨i,e1,q⟩:=zz; subst e1;exact⟨i,h1,k.now (dv:=.im (.int (-i))) D rfl q⟩⟩
end
mutual
theorem Rep.inj{H:Hp}:∀{d d':PyData} {v:V},Rep H d v->Rep H d' v->d=d'
 | .none,d',v,h,h'=>by
  rw[show v=.dj from h]at h';cases d' with
  | none=>rfl
  | bool _=>cases (show V.dj=.bl _ from h')
  | int _=>cases (show V.dj=.int _ from h')
  | str _=>cases (show V.dj=.str _ from h')
  | list _=>obtain⟨a,xs,e,_⟩:=h';cases e
  | tuple _=>obtain⟨a,xs,e,_⟩:=h';cases e
  | dict _=>exact h'.elim
 | .bool b,d',v,h,h'=>by
  rw[show v=.bl b from h]at h';cases d' with
  | none=>cases (show V.bl b=.dj from h')
  | bool _=>cases (show V.bl b=.bl _ from h');rfl
  | int _=>cases (show V.bl b=.int _ from h')
  | str _=>cases (show V.bl b=.str _ from h')
  | list _=>obtain⟨a,xs,e,_⟩:=h';cases e
  | tuple _=>obtain⟨a,xs,e,_⟩:=h';cases e
  | dict _=>exact h'.elim
 | .int b,d',v,h,h'=>by
  rw[show v=.int b from h]at h';cases d' with
  | none=>cases (show V.int b=.dj from h')
  | bool _=>cases (show V.int b=.bl _ from h')
  | int _=>cases (show V.int b=.int _ from h');rfl
  | str _=>cases (show V.int b=.str _ from h')
  | list _=>obtain⟨a,xs,e,_⟩:=h';cases e
  | tuple _=>obtain⟨a,xs,e,_⟩:=h';cases e
  | dict _=>exact h'.elim
 | .str b,d',v,h,h'=>by
  rw[show v=.str b from h]at h';cases d' with
  | none=>cases (show V.str b=.dj from h')
  | bool _=>cases (show V.str b=.bl _ from h')
  | int _=>cases (show V.str b=.int _ from h')
  | str _=>cases (show V.str b=.str _ from h');rfl
  | list _=>obtain⟨a,xs,e,_⟩:=h';cases e
  | tuple _=>obtain⟨a,xs,e,_⟩:=h';cases e
  | dict _=>exact h'.elim
 | .list ds,d',v,⟨a,xs,e,ha,r⟩,h'=>by
  subst e;cases d' with
  | none=>cases (show V.ref a=.dj from h')
  | bool _=>cases (show V.ref a=.bl _ from h')
  | int _=>cases (show V.ref a=.int _ from h')
  | str _=>cases (show V.ref a=.str _ from h')
  | list _=>obtain⟨a',FI,e,pj,r'⟩:=h';cases e;rw[ha]at pj;cases pj;rw[az.inj r r']
  | tuple _=>obtain⟨a',FI,e,pj,r'⟩:=h';cases e;rw[ha]at pj;cases pj
  | dict _=>exact h'.elim
 | .tuple ds,d',v,⟨a,xs,e,ha,r⟩,h'=>by
  subst e;cases d' with
  | none=>cases (show V.ref a=.dj from h')
  | bool _=>cases (show V.ref a=.bl _ from h')
  | int _=>cases (show V.ref a=.int _ from h')
  | str _=>cases (show V.ref a=.str _ from h')
  | list _=>obtain⟨a',FI,e,pj,r'⟩:=h';cases e;rw[ha]at pj;cases pj
  | tuple _=>obtain⟨a',FI,e,pj,r'⟩:=h';cases e;rw[ha]at pj;cases pj;rw[az.inj r r']
  | dict _=>exact h'.elim
 | .dict _,_,_,h,_=>h.elim
theorem az.inj{H:Hp}:∀{ds Bu:wE} {xs:List V},az H ds xs->az H Bu xs->ds=Bu
 | [],Bu,xs,h,h'=>by
  cases h;cases Bu with
  | nil=>rfl
  | cons _ _=>obtain⟨_,_,e,_⟩:=h';cases e
 | d::ds,Bu,xs,⟨y,ys,e,h,r⟩,h'=>by
  subst e;cases Bu with
  | nil=>cases (show y::ys=[] from h')
  | cons d' r'=>obtain⟨_,_,e,h2,r2⟩:=h';cases e;rw[Rep.inj h h2,az.inj r r2]
end
open Classical in
noncomputable def yO (H:Hp) (v:V):Option PyData:=if h:∃ d,Rep H d v then some (Classical.choose h)else none
theorem CV{v:V}(h:Rep H d v):yO H v=some d:=by
 unfold yO;rw[dif_pos ⟨d,h⟩];exact abK some (Rep.inj (Classical.choose_spec (⟨d,h⟩:∃ d,Rep H d v)) h)
noncomputable def jO (H:Hp) (dx:PyData) (u:Value):Bool:=match O0 u with
 | some v=>match yO H v with
  | some d=>PyData.eqv d dx
  | none=>false
 | none=>false
theorem yP{u:Value}{v:V}(r:RelV v u)(h:Rep H d v):jO H dx u=PyData.eqv d dx:=by
 unfold jO;rw[r.abs];show(match yO H v with | some d=>PyData.eqv d dx | none=>false)=_;rw[CV h]
theorem jf{H:Hp}{dx:PyData}:∀{ds:wE} {xs:List V} {us:wf},az H ds xs->Vals xs us->us.any (jO H dx)=ds.any fun d=>PyData.eqv d dx
 | [],_,_,h,r=>by cases h;cases r;rfl
 | d::ds,_,_,⟨y,ys,e,h,hr⟩,r=>by
  subst e;cases r with
  | cons r1 r2=>rw[abl,abl,yP r1 h,jf hr r2]
section
variable {X:Cx}{C:DC}
theorem jg{pins:yp}{s:Shared}{σ:St}{H:Hp}{x:V}{v:Value}{dx:PyData}(I:Inv X pins σ H s)(hu:X.A.units+64 < cLine)(rx:RelV x v)(hx:Rep H dx x)(cx:dx.canLay0=true)(hd:dx.depth<=62) :
  ∀{ds:wE} {xs:List V} {us:wf},az H ds xs->Vals xs us->PyData.canLayAll0 ds=true->∀ u∈us,SeqAt.EqAt X.A.in1 s u v (jO H dx u)
 | [],_,_,h,r,_=>fun u hu=>by cases h;cases r;cases hu
 | d::ds,_,_,⟨y,ys,e,h,hr⟩,r,cl=>fun u UK=>by
  subst e;have Xu:d.canLay0=true/\PyData.canLayAll0 ds=true:=by simpa [PyData.canLayAll0] using cl
  cases r with
  | cons r1 r2 =>
   rcases aan.mp UK with e | UK
   ·subst e;rw[yP r1 h];obtain⟨as,q1⟩:=h.reads I.cv r1;obtain⟨bs,q2⟩:=hx.reads I.cv rx;exact SeqAt.eqAt_reads d dx X.A.in1 s u v as bs q1 q2 Xu.1 cx (by
     have:X.A.in1.units<=X.A.units+1:=by first | exact aao _ | (simp[Around.in1]) | omega
     omega)
   ·exact jg I hu rx hx cx hd hr r2 Xu.2 u UK
def Mc(K:zn)(neg:Bool):R2:=fun x y H Q=>∃ p xs dx ds,y=.ref p/\(gb K H p xs\/fN K H p xs)/\Rep H dx x/\az H ds xs/\dx.canLay0=true/\PyData.canLayAll0 ds=true/\dx.depth<=62/\Q (.bl (if neg then !ds.any (fun d=>PyData.eqv d dx)else ds.any fun d=>PyData.eqv d dx)) H
theorem Md(hu:X.A.units+64 < cLine):iq X (compareOp .In) (Mc X.K false):=by
 intro pins s σ H x y v u Q I rx ry h;obtain⟨p,xs,dx,ds,rfl,hq,hx,hs,cx,cs,hd,q⟩:=h;cases ry;rcases hq with hq | hq
 ·obtain⟨aV,r,pl,hz⟩:=I.list hq;refine SeqAt.in_listAt (jO H dx) pl.isList (fun w hw=>jg I hu rx hx cx hd hs r cs w (by simpa using hw)) ⟨.bl _,H,I,rfl,?_⟩;rw[show aV.toArray.any (jO H dx)=aV.any (jO H dx) by simp,jf hs r];exact q
 ·obtain⟨aV,r,pl,hz⟩:=I.tuple hq;refine SeqAt.in_tupleAt (jO H dx) pl (fun w hw=>jg I hu rx hx cx hd hs r cs w (by simpa using hw)) ⟨.bl _,H,I,rfl,?_⟩;rw[show aV.toArray.any (jO H dx)=aV.any (jO H dx) by simp,jf hs r];exact q
theorem AD(hu:X.A.units+64 < cLine):iq X (compareOp .NotIn) (Mc X.K true):=by
 intro pins s σ H x y v u Q I rx ry h;obtain⟨p,xs,dx,ds,rfl,hq,hx,hs,cx,cs,hd,q⟩:=h;cases ry;rcases hq with hq | hq
 ·obtain⟨aV,r,pl,hz⟩:=I.list hq;refine SeqAt.notIn_listAt (jO H dx) pl.isList (fun w hw=>jg I hu rx hx cx hd hs r cs w (by simpa using hw)) ⟨.bl _,H,I,rfl,?_⟩;rw[show aV.toArray.any (jO H dx)=aV.any (jO H dx) by simp,jf hs r];exact q
 ·obtain⟨aV,r,pl,hz⟩:=I.tuple hq;refine SeqAt.notIn_tupleAt (jO H dx) pl (fun w hw=>jg I hu rx hx cx hd hs r cs w (by simpa using hw)) ⟨.bl _,H,I,rfl,?_⟩;rw[show aV.toArray.any (jO H dx)=aV.any (jO H dx) by simp,jf hs r];exact q
def Me:R2:=fun x y H Q=>WK x y H Q\/PK x y H Q
def Mf:R2:=fun x y H Q=>WL x y H Q\/PL x y H Q
theorem aG(hu:X.A.units+64 < cLine):iq X (compareOp .Eq) Me:=fun pins s σ H x y v u Q I rx ry h=>h.elim (O9 pins s σ H x y v u Q I rx ry) (LL hu pins s σ H x y v u Q I rx ry)
theorem bD(hu:X.A.units+64 < cLine):iq X (compareOp .NotEq) Mf:=fun pins s σ H x y v u Q I rx ry h=>h.elim (Pa pins s σ H x y v u Q I rx ry) (LM hu pins s σ H x y v u Q I rx ry)
noncomputable def Mg(K:zn)(neg:Bool):R2:=fun x y H Q=>TZ K neg x y H Q\/Mc K neg x y H Q
theorem iQ(hu:X.A.units+64 < cLine):iq X (compareOp .In) (Mg X.K false):=fun pins s σ H x y v u Q I rx ry h=>h.elim (Aj pins s σ H x y v u Q I rx ry) (Md hu pins s σ H x y v u Q I rx ry)
theorem lG(hu:X.A.units+64 < cLine):iq X (compareOp .NotIn) (Mg X.K true):=fun pins s σ H x y v u Q I rx ry h=>h.elim (qP pins s σ H x y v u Q I rx ry) (AD hu pins s σ H x y v u Q I rx ry)
end
end L2
namespace L2
open PySem PySem.Spec PyProof.Rows
variable {C:DC}{σ:St}{H H' F:Hp}{ρ:bR}{W W':Wd}{Qd Q:DK}{x qual:Str}{vs us as:List DV}{xs:List V}{ds:wE}{v dv:DV}{da:cV}{T:String}{hi:v0}{a p f g:Addr}{n:Nat}{X:Cx}{E:XK}{N ps:wv}{P:u8}{w:World}{mg:xL}{base:Heap}{st:Stmt}{fd:wT}{c:Cell}{pos:Pos}{es:v6}{ns:wn}{κ:Type}{nx ct Qs:bR->Wd->Prop}{m:Int}{d:PyData}{items:Array Value}{Kc:Wd->Prop}{rt:DV->Wd->Prop}
def yQ:PyData->Bool
 | .none=>true
 | .bool _=>true
 | .int _=>true
 | .str _=>true
 | _=>false
noncomputable def G0:V->PyData
 | .dj=>.none
 | .bl b=>.bool b
 | .int i=>.int i
 | .str s=>.str s
 | _=>.dict []
def dS(W:Wd):DV->Option (List DV)
 | .im (.list ds)=>some (ds.map .im)
 | .pt p=>match W p with
  | some (.lst xs)=>some xs
  | _=>none
 | _=>none
def kG:DV->Option (List DV)
 | .im (.tuple ds)=>some (ds.map .im)
 | .cst xs=>if xs.all eE=true then some (xs.map FK)else none
 | .tp ts=>some (ts.map OE)
 | _=>none
def pk:DV->Option (List DV)
 | .lE ns=>some (ns.map fun n=>.im (.int n))
 | _=>none
def iF(W:Wd)(dv:DV):Option (List DV):=match dS W dv with
 | some vs=>some vs
 | none=>match pk dv with
  | some vs=>some vs
  | none=>kG dv
section
variable {Q:VK}{x y:V}{a b:DV}
theorem DR.dS(D:DR C σ H ρ W)(h:dH C (Fz C W H) a x)(e:L2.dS W a=some vs):∃ p xs,x=.ref p/\H p=some (.lst xs)/\aM C (Fz C W H) vs xs:=by
 cases a with
 | im d =>
  cases d with
  | list ds=>cases e;obtain⟨p,xs,e1,h1,r⟩:=h;exact⟨p,xs,e1,Fz.le h1,.gD r⟩
  | _=>cases e
 | pt p =>
  unfold L2.dS at e;cases q:W p with
  | none=>simp[q]at e
  | some c =>
   cases c with
   | lst ys=>simp[q]at e;subst e;obtain⟨_,_,xs,h1,r⟩:=D.ce p _ q;exact⟨p,xs,h,h1,r⟩
   | _=>simp[q]at e
 | _=>cases e
theorem DR.kG(D:DR C σ H ρ W)(h:dH C (Fz C W H) a x)(e:L2.kG a=some vs):∃ p xs,x=.ref p/\fN C.K H p xs/\aM C (Fz C W H) vs xs:=by
 cases a with
 | im d =>
  cases d with
  | tuple ds=>cases e;obtain⟨p,xs,e1,h1,r⟩:=h;exact⟨p,xs,e1,fN.of (Fz.le h1),.gD r⟩
  | _=>cases e
 | cst ys =>
  obtain⟨p,e1,h1⟩:=h;unfold L2.kG at e
  by_cases q:ys.all eE=true
  ·simp only[q,acu]at e;cases e;exact⟨p,ys,e1,h1 H,mZ q⟩
  ·simp only[q]at e;cases e
 | tp ts=>cases e;obtain⟨p,AE,e1,h1,r⟩:=h;exact⟨p,AE,e1,fN.of (Fz.le h1),oh r⟩
 | _=>cases e
theorem jh{F:Hp}:∀ ns:List Int,aM C F (ns.map fun n=>.im (.int n)) (ns.map V.int)
 | []=>rfl
 | n::r=>⟨.int n,r.map V.int,rfl,rfl,jh r⟩
theorem DR.pk(D:DR C σ H ρ W)(h:dH C (Fz C W H) a x)(e:L2.pk a=some vs):∃ p xs,x=.ref p/\gb C.K H p xs/\gb C.K (Fz C W H) p xs/\aM C (Fz C W H) vs xs:=by
 cases a with
 | lE ns=>cases e;obtain⟨p,e1,h1⟩:=h;exact⟨p,_,e1,(Fz.sm (C:=C) (W:=W)).seq h1,h1,jh ns⟩
 | _=>cases e
theorem DR.iF(D:DR C σ H ρ W)(h:dH C (Fz C W H) a x)(e:L2.iF W a=some vs):∃ p xs,x=.ref p/\(gb C.K H p xs\/fN C.K H p xs)/\aM C (Fz C W H) vs xs:=by
 unfold L2.iF at e;cases q:L2.dS W a with
 | some us=>rw[q]at e;cases e;obtain⟨p,xs,e1,h1,r⟩:=D.dS h q;exact⟨p,xs,e1,.inl (gb.of h1),r⟩
 | none =>
  rw[q]at e;cases q2:L2.pk a with
  | some us=>rw[q2]at e;cases e;obtain⟨p,xs,e1,h1,_,r⟩:=D.pk h q2;exact⟨p,xs,e1,.inl h1,r⟩
  | none=>rw[q2]at e;obtain⟨p,xs,e1,h1,r⟩:=D.kG h e;exact⟨p,xs,e1,.inr h1,r⟩
theorem aM.iy{F:Hp}{i:Int}(r:aM C F vs xs)(e:L2.iy vs i=some a):∃ x,L2.iy xs i=some x/\dH C F a x:=by
 unfold L2.iy at e ⊢;rw[<- r.length];cases q:Ai vs.length i with
 | none=>rw[q]at e;cases e
 | some j=>rw[q]at e;exact r.get e
def Mh(d1 d2:PyData):Prop:=(∃ a b,d1=.str a/\d2=.str b)\/(d1.canLay0=true/\d2.canLay0=true/\min d1.depth d2.depth<=64)
def CW:pU:=fun a b W Q=>∃ d1 d2,dat 4 W a=some d1/\dat 4 W b=some d2/\Mh d1 d2/\Q (.im (.bool (PyData.eqv d1 d2))) W
def AF:pU:=fun a b W Q=>∃ d1 d2,dat 4 W a=some d1/\dat 4 W b=some d2/\Mh d1 d2/\Q (.im (.bool (!PyData.eqv d1 d2))) W
instance:AB C Me CW:=⟨fun D h1 h2 zz k=>by
 obtain⟨d1,d2,e1,e2,ok,q⟩:=zz
 have r1:=D.rp h1 e1;have r2:=D.rp h2 e2;rcases ok with⟨a,b,rfl,rfl⟩ | ⟨c1,c2,hd⟩
 ·cases r1;cases r2;refine .inl ⟨rfl,k.now (dv:=.im (.bool _)) D ?_ q⟩;show V.bl _=V.bl _;congr 1;show _=(a == b);rw[show decide (V.str a=V.str b)=decide (a=b) by simp]
  by_cases e:a=b<;>simp[e]
 ·exact .inr ⟨d1,d2,r1,r2,c1,c2,hd,k.now (dv:=.im (.bool _)) D rfl q⟩⟩
instance:AB C Mf AF:=⟨fun D h1 h2 zz k=>by
 obtain⟨d1,d2,e1,e2,ok,q⟩:=zz
 have r1:=D.rp h1 e1;have r2:=D.rp h2 e2;rcases ok with⟨a,b,rfl,rfl⟩ | ⟨c1,c2,hd⟩
 ·cases r1;cases r2;refine .inl ⟨rfl,k.now (dv:=.im (.bool _)) D ?_ q⟩;show V.bl _=V.bl _;congr 1;show _=!(a == b);rw[show decide (V.str a=V.str b)=decide (a=b) by simp]
  by_cases e:a=b<;>simp[e]
 ·exact .inr ⟨d1,d2,r1,r2,c1,c2,hd,k.now (dv:=.im (.bool _)) D rfl q⟩⟩
def gF(W:Wd)(dv:DV):Option (List PyData):=(iF W dv).bind fun vs=>fX (dat 3 W) vs
theorem DR.gF{ds:wE}(D:DR C σ H ρ W)(h:dH C (Fz C W H) a x)(e:L2.gF W a=some ds):∃ p xs,x=.ref p/\(gb C.K H p xs\/fN C.K H p xs)/\az H ds xs:=by
 unfold L2.gF at e;cases q:L2.iF W a with
 | none=>rw[q]at e;cases e
 | some vs =>
  rw[q]at e;obtain⟨p,xs,e1,h1,r⟩:=D.iF h q;exact⟨p,xs,e1,h1,gE (fun dv x d h e=>D.rp h e) r e⟩
def UL(dx:PyData)(ds:wE):Prop:=(yQ dx=true/\ds.all yQ=true)\/(dx.canLay0=true/\PyData.canLayAll0 ds=true/\dx.depth<=62)
theorem ue:∀{d:PyData} {x:V},yQ d=true->Rep F d x->eE x=true/\d=G0 x
 | .none,_,_,h=>by cases h;exact⟨rfl,rfl⟩
 | .bool _,_,_,h=>by cases h;exact⟨rfl,rfl⟩
 | .int _,_,_,h=>by cases h;exact⟨rfl,rfl⟩
 | .str _,_,_,h=>by cases h;exact⟨rfl,rfl⟩
 | .list _,_,h,_=>by cases h
 | .tuple _,_,h,_=>by cases h
 | .dict _,_,h,_=>by cases h
theorem G1:∀{x y:V},eE x=true->eE y=true->GB y x=PyData.eqv (G0 y) (G0 x):=by
 intro x y hx hy;cases x<;>cases y<;>first | rfl | cases hx | cases hy
theorem uf{F:Hp}:∀{ds:wE} {xs:List V},ds.all yQ=true->az F ds xs->xs.all eE=true/\∀ x,eE x=true->Sy x xs=ds.any fun d=>PyData.eqv d (G0 x)
 | [],_,_,h=>by cases h;exact⟨rfl,fun _ _=>rfl⟩
 | d::ds,_,hf,⟨y,ys,e,h,r⟩=>by
  subst e;rw[aaX,aaC]at hf;obtain⟨f1,e1⟩:=ue hf.1 h;obtain⟨f2,e2⟩:=uf hf.2 r;refine⟨by rw[aaX,f1,f2];rfl,fun x hx=>?_⟩;have:=e2 x hx;unfold Sy at this ⊢;rw[abl,abl,this,G1 hx f1,e1]
def ug(neg:Bool):pU:=fun a b W Q=>∃ dx ds,dat 3 W a=some dx/\gF W b=some ds/\UL dx ds/\Q (.im (.bool (if neg then !ds.any (fun d=>PyData.eqv d dx)else ds.any fun d=>PyData.eqv d dx))) W
noncomputable instance {K:zn}[hk:mD C K]{neg:Bool}:AB C (Mg K neg) (ug neg):=by
 obtain⟨rfl⟩:=hk;exact⟨fun D h1 h2 zz k=>by
 obtain⟨dx,ds,e1,e2,ok,q⟩:=zz
 have r1:=D.rp h1 e1;obtain⟨p,xs,rfl,hq,r2⟩:=D.gF h2 e2;rcases ok with⟨f1,f2⟩ | ⟨c1,c2,hd⟩
 ·obtain⟨g1,g2⟩:=ue f1 r1;obtain⟨g3,g4⟩:=uf f2 r2;refine .inl ⟨p,xs,rfl,hq,g1,g3,?_⟩;rw[g4 _ g1,<- g2];exact k.now (dv:=.im (.bool _)) D rfl q
 ·exact .inr ⟨p,xs,dx,ds,rfl,hq,r1,r2,c1,c2,hd,k.now (dv:=.im (.bool _)) D rfl q⟩⟩
noncomputable def Mi(W:Wd)(a:DV)(i:Int):Option DV:=match a with
 | .im (.str z)=>if z.length<=sizeLine then(iy z.cps.toList i).map fun c=>.im (.str ⟨#[c]⟩)else none
 | a=>(iF W a).bind fun vs=>iy vs i
noncomputable def Mj:pU:=fun a b W Q=>∃ i v,b=.im (.int i)/\Mi W a i=some v/\Q v W
theorem CY(D:DR C σ H ρ W)(h1:dH C (Fz C W H) a x){i:Int}{Q':VK}(e:((iF W a).bind fun vs=>iy vs i)=some v)(q:∀ z,dH C (Fz C W H) v z->Q' z H):Sx C.K x (.int i) H Q':=by
 cases q1:iF W a with
 | none=>rw[q1]at e;cases e
 | some vs =>
  rw[q1]at e;obtain⟨p,xs,rfl,hq,r⟩:=D.iF h1 q1;obtain⟨z,hz,rz⟩:=r.iy e;rcases hq with hq | hq
  ·exact .inl ⟨p,xs,i,z,rfl,rfl,hq,hz,q z rz⟩
  ·exact .inr (.inl ⟨p,xs,i,z,rfl,rfl,hq,hz,q z rz⟩)
noncomputable instance {K:zn}[hk:mD C K]:AB C (Sx K) Mj:=by
 obtain⟨rfl⟩:=hk;exact⟨fun{σ H ρ W Qd Q a b x y} D h1 h2 ⟨i,v,e1,e2,q⟩ k=>by
 subst e1;cases (show y=V.int i from h2);cases a with
 | im d =>
  cases d with
  | str z =>
   cases (show x=V.str z from h1)
   by_cases hz:z.length<=sizeLine
   ·simp only[Mi,hz,acu]at e2;cases q2:iy z.cps.toList i with
    | none=>simp[q2]at e2
    | some c=>simp[q2]at e2;subst e2;exact .inr (.inr ⟨z,i,c,rfl,rfl,hz,q2,k.now (dv:=.im (.str _)) D rfl q⟩)
   ·simp only[Mi,hz]at e2;cases e2
  | _=>exact CY D h1 e2 fun z hz=>k.now D hz q
 | _=>exact CY D h1 e2 fun z hz=>k.now D hz q⟩
def Qv:pU:=fun a b W Q=>∃ vs us,dS W a=some vs/\dS W b=some us/\vs.length+us.length<=sizeLine/\i5 (vs++us) W Q
instance:AB C Px Qv:=⟨fun D h1 h2 zz k=>by
 obtain⟨vs,us,e1,e2,hl,q⟩:=zz
 obtain⟨p1,xs,rfl,hx,rx⟩:=D.dS h1 e1;obtain⟨p2,ys,rfl,hy,ry⟩:=D.dS h2 e2;exact⟨p1,p2,xs,ys,rfl,rfl,hx,hy,by rw[<- rx.length,<- ry.length];exact hl,fun p hp=>gY D (rx.append ry) hp q k⟩⟩
def Qw:pU:=fun a b W Q=>∃ vs n,dS W a=some vs/\b=.im (.int n)/\-(2 ^ 63)<=n/\n < 2 ^ 63/\vs.length * n.toNat<=sizeLine/\i5 (List.replicate n.toNat vs).flatten W Q
instance:AB C Py Qw:=⟨fun D h1 h2 zz k=>by
 obtain⟨vs,n,e1,e2,l1,l2,hl,q⟩:=zz
 obtain⟨p1,xs,rfl,hx,rx⟩:=D.dS h1 e1;subst e2;exact⟨p1,n,xs,rfl,h2,hx,l1,l2,by rw[<- rx.length];exact hl,fun p hp=>gY D (rx.rep n.toNat) hp q k⟩⟩
theorem az.append{F:Hp}:∀{ds:wE} {xs:List V} {Bu:wE} {FI:List V},az F ds xs->az F Bu FI->az F (ds++Bu) (xs++FI)
 | [],_,_,_,h,h'=>by cases h;exact h'
 | _::_,_,_,_,⟨y,ys,e,h,r⟩,h'=>by subst e;exact⟨y,_,rfl,h,az.append r h'⟩
def Qx:pU:=fun a b W Q=>∃ ds es,a=.im (.tuple ds)/\b=.im (.tuple es)/\ds.length+es.length<=sizeLine/\Q (.im (.tuple (ds++es))) W
instance {K:zn}[hk:mD C K]:AB C (Js K) Qx:=by
 obtain⟨rfl⟩:=hk;exact⟨fun D h1 h2 zz k=>by
 obtain⟨ds,es,e1,e2,hl,q⟩:=zz
 subst e1 e2;obtain⟨p1,xs,rfl,hx,rx⟩:=h1;obtain⟨p2,ys,rfl,hy,ry⟩:=h2;refine⟨p1,p2,xs,ys,rfl,rfl,fN.of (Fz.le hx),fN.of (Fz.le hy),by rw[<- rx.length,<- ry.length];exact hl,fun e=>?_,fun _ e=>?_,fun _ _ p hp=>?_⟩
 ·subst e;have:ds=[]:=abG.mp (by rw[rx.length];rfl);subst this;exact k.now (dv:=.im (.tuple es)) D ⟨p2,ys,rfl,hy,ry⟩ q
 ·subst e;have:es=[]:=abG.mp (by rw[ry.length];rfl);subst this;rw[ab0]at q;exact k.now (dv:=.im (.tuple ds)) D ⟨p1,xs,rfl,hx,rx⟩ q
 ·obtain⟨D3,s3,e3⟩:=D.Bt hp (.tup (xs++ys));exact k _ (.im (.tuple (ds++es))) _ _ D3 s3 ⟨p,_,rfl,e3,az.same s3 (rx.append ry)⟩ q⟩
end
section
variable {Q:VK}{x y:V}{a b:DV}{te:TE}{ts:TA}{ds:ml}
theorem aM.dX(h:aM C F [a] xs):∃ x,xs=[x]/\dH C F a x:=by
 obtain⟨y,ys,e,h1,h2⟩:=h;cases h2;exact⟨y,e,h1⟩
theorem aM.nh(h:aM C F [a,b] xs):∃ x y,xs=[x,y]/\dH C F a x/\dH C F b y:=by
 obtain⟨y,ys,e,h1,h2⟩:=h;obtain⟨z,rfl,h3⟩:=h2.dX;exact⟨y,z,e,h1,h3⟩
def UM(f:List DV->Wd->DK->Prop)(d:ml):cV:=fun ρ W Q=>d ρ W fun vs W1=>f vs W1 Q
instance {rr:List V->Hp->VK->Prop}{f:List DV->Wd->DK->Prop}[ir:Jx C rr f][is:LA C ts ds]:LE C (Lq rr ts) (UM f ds):=⟨fun D h k=>is.go D h fun xs aK H1 W1 D1 s1 v1 h1=>ir.go D1 v1 h1 (k.mono s1)⟩
def G2:List DV->Wd->DK->Prop:=fun as W Q=>∃ a vs,as=[a]/\iF W a=some vs/\Q (.im (.int vs.length)) W
instance {K:zn}[hk:mD C K]:Jx C (CO K) G2:=by
 obtain⟨rfl⟩:=hk;exact⟨fun D h zz k=>by
 obtain⟨a,vs,e,e2,q⟩:=zz
 subst e;obtain⟨x,rfl,hx⟩:=h.dX;obtain⟨p,xs,rfl,hq,r⟩:=D.iF hx e2;refine⟨p,xs,rfl,hq,?_⟩;rw[<- r.length];exact k.now (dv:=.im (.int _)) D rfl q⟩
def rq:List DV->Wd->DK->Prop:=fun as W Q=>∃ a vs,as=[a]/\iF W a=some vs/\i5 vs W Q
instance {K:zn}[hk:mD C K]:Jx C (yK K) rq:=by
 obtain⟨rfl⟩:=hk;exact⟨fun D h zz k=>by
 obtain⟨a,vs,e,e2,q⟩:=zz
 subst e;obtain⟨x,rfl,hx⟩:=h.dX;obtain⟨p,xs,rfl,hq,r⟩:=D.iF hx e2;exact⟨p,xs,rfl,hq,fun l hl=>gY D r hl q k⟩⟩
def Ml:List DV->Wd->DK->Prop:=fun as W Q=>∃ a,as=[a]/\((∃ vs ds W2,dS W a=some vs/\gQ (jV 3) W vs=some (ds,W2)/\Q (.im (.tuple ds)) W2)\/∃ ds,a=.im (.tuple ds)/\Q a W)
instance {K:zn}[hk:mD C K]:Jx C (CN K) Ml:=by
 obtain⟨rfl⟩:=hk;exact⟨fun D h zz k=>by
 obtain⟨a,e,q⟩:=zz
 subst e;obtain⟨x,rfl,hx⟩:=h.dX;rcases q with⟨vs,ds,W2,e2,e3,q⟩ | ⟨ds,e2,q⟩
 ·obtain⟨p,xs,rfl,hq,r⟩:=D.dS hx e2;obtain⟨D2,s2,r2,k2⟩:=gX (j7 3) D r e3;refine⟨p,xs,rfl,.inl ⟨gb.of hq,fun l hl=>?_⟩⟩;obtain⟨D3,s3,e4⟩:=D2.Bt hl (.tup xs);exact k _ (.im (.tuple ds)) _ _ D3 (s2.trans s3) ⟨l,xs,rfl,e4,az.same s3 r2⟩ q
 ·subst e2;obtain⟨p,xs,rfl,h1,r⟩:=hx;exact⟨p,xs,rfl,.inr ⟨fN.of (Fz.le h1),k.now (dv:=.im (.tuple ds)) D ⟨p,xs,rfl,h1,r⟩ q⟩⟩⟩
def JC:List DV->Wd->DK->Prop:=fun as W Q=>∃ i j,as=[.im (.int i),.im (.int j)]/\Q (.im (.int (if j > i then j else i))) W
instance:Jx C Jr JC:=⟨fun D h zz k=>by
 obtain⟨i,j,e,q⟩:=zz
 subst e;obtain⟨x,y,rfl,hx,hy⟩:=h.nh;cases hx;cases hy;exact⟨i,j,rfl,k.now (dv:=.im (.int _)) D rfl q⟩⟩
def CZ:List DV->Wd->DK->Prop:=fun as W Q=>(∃ i,as=[.im (.int i)]/\Q (.im (.int i)) W)\/∃ b,as=[.im (.bool b)]/\Q (.im (.int (if b then 1 else 0))) W
instance:Jx C Jt CZ:=⟨fun D h q k=>by
 rcases q with⟨i,e,q⟩ | ⟨b,e,q⟩
 ·subst e;obtain⟨x,rfl,hx⟩:=h.dX;cases hx;exact .inl ⟨i,rfl,k.now (dv:=.im (.int _)) D rfl q⟩
 ·subst e;obtain⟨x,rfl,hx⟩:=h.dX;cases hx;exact .inr ⟨b,rfl,k.now (dv:=.im (.int _)) D rfl q⟩⟩
noncomputable def ji:List DV->Option (List Bool)
 | []=>some []
 | .im (.bool b)::r=>(ji r).map (b::·)
 | _=>none
theorem pW{F:Hp}:∀{vs:List DV} {xs:List V} {bs:List Bool},aM C F vs xs->ji vs=some bs->xs=bs.map V.bl
 | [],_,_,h,e=>by cases h;cases e;rfl
 | .im (.bool b)::r,_,bs,⟨y,ys,e1,h,hr⟩,e=>by
  unfold ji at e;cases q:ji r with
  | none=>rw[q]at e;cases e
  | some cs =>
   rw[q]at e;cases e;rw[e1,show y=V.bl b from h,pW hr q];rfl
 | .im .none::_,_,_,_,e=>by cases e
 | .im (.int _)::_,_,_,_,e=>by cases e
 | .im (.str _)::_,_,_,_,e=>by cases e
 | .im (.list _)::_,_,_,_,e=>by cases e
 | .im (.tuple _)::_,_,_,_,e=>by cases e
 | .im (.dict _)::_,_,_,_,e=>by cases e
 | .pt _::_,_,_,_,e=>by cases e
 | .cst _::_,_,_,_,e=>by cases e
 | .rf _::_,_,_,_,e=>by cases e
 | .ty _::_,_,_,_,e=>by cases e
 | .vD _::_,_,_,_,e=>by cases e
 | .raw _::_,_,_,_,e=>by cases e
 | .lE _::_,_,_,_,e=>by cases e
 | .tp _::_,_,_,_,e=>by cases e
theorem wO(bs:List Bool):ji (bs.map fun b=>.im (.bool b))=some bs:=by
 induction bs with
 | nil=>rfl
 | cons b r ih=>rw[aaz];unfold ji;rw[ih];rfl
noncomputable def UN:List DV->Wd->DK->Prop:=fun as W Q=>∃ a vs bs,as=[a]/\dS W a=some vs/\ji vs=some bs/\Q (.im (.bool (bs.any id))) W
noncomputable instance {K:zn}[hk:mD C K]:Jx C (Qh K) UN:=by
 obtain⟨rfl⟩:=hk;exact⟨fun D h zz k=>by
 obtain⟨a,vs,bs,e,e1,e2,q⟩:=zz
 subst e;obtain⟨x,rfl,hx⟩:=h.dX;obtain⟨p,xs,rfl,hq,r⟩:=D.dS hx e1;rw[pW r e2]at hq;exact⟨p,bs,rfl,gb.of hq,k.now (dv:=.im (.bool _)) D rfl q⟩⟩
def Qy(T:String):List DV->Wd->DK->Prop:=fun as W Q=>∃ a d,as=[a,.ty T]/\dat 4 W a=some d/\Q (.im (.bool (P2 d T))) W
instance {T:String}:Jx C (GK T) (Qy T):=⟨fun D h zz k=>by
 obtain⟨a,d,e,e1,q⟩:=zz
 subst e;obtain⟨x,y,rfl,hx,hy⟩:=h.nh;cases hy;exact⟨x,d,rfl,D.rp hx e1,k.now (dv:=.im (.bool _)) D rfl q⟩⟩
def wQ(T:String)(a:DV)(W:Wd):Prop:=(T = "list"/\∃ vs,dS W a=some vs)\/(T = "str"/\∃ s,a=.im (.str s))\/(T = "dict"/\∃ p,a=.pt p/\((∃ kvs,W p=some (.dk kvs))\/∃ kvs,W p=some (.dt kvs)))
theorem G3(D:DR C σ H ρ W)(h:dH C (Fz C W H) a x)(e:wQ T a W):T2 C.K T x H:=by
 rcases e with⟨rfl,vs,e⟩ | ⟨rfl,s,rfl⟩ | ⟨rfl,p,rfl,e⟩
 ·obtain⟨p,xs,rfl,hq,r⟩:=D.dS h e;exact .inl ⟨rfl,xs,gb.of hq⟩
 ·cases h;exact rfl
 ·cases h;rcases e with⟨kvs,e⟩ | ⟨kvs,e⟩
  ·obtain⟨_,_,ks,h1,_⟩:=D.ce p _ e;exact .inr (.inr (.inl ⟨rfl,.inl ⟨ks,h1⟩⟩))
  ·obtain⟨_,_,ks,h1,_⟩:=D.ce p _ e;exact .inr (.inr (.inl ⟨rfl,.inr ⟨ks,h1⟩⟩))
def Xv(T:String)(f:DV->List DV->Wd->DK->Prop)(d:cV)(e:ml):cV:=fun ρ W Q=>d ρ W fun a W1=>wQ T a W1/\e ρ W1 fun vs W2=>f a vs W2 Q
instance {K:zn}[hk:mD C K]{T:String}{rr:V->List V->Hp->VK->Prop}{f:DV->List DV->Wd->DK->Prop}[ir:OG C rr f][ia:LE C te da][is:LA C ts ds]:LE C (T3 K T rr te ts) (Xv T f da ds):=by
 obtain⟨rfl⟩:=hk;exact⟨fun D h k=>ia.go D h fun x dv H1 W1 D1 s1 v1 ⟨ht,h1⟩=>⟨G3 D1 v1 ht,is.go D1 h1 fun xs aK H2 W2 D2 s2 v2 h2=>ir.go D2 (v1.mono s2) v2 h2 (k.mono (s1.trans s2))⟩⟩
def rA:DV->List DV->Wd->DK->Prop:=fun a as W Q=>∃ p vs v,a=.pt p/\as=[v]/\W p=some (.lst vs)/\vs.length < sizeLine/\Q (.im .none) (aH W p (.lst (vs++[v])))
instance:OG C yB rA:=⟨fun D h1 h2 zz k=>by
 obtain⟨p,vs,v,e1,e2,e3,hl,q⟩:=zz
 subst e1 e2;cases h1;obtain⟨y,rfl,hy⟩:=h2.dX;obtain⟨_,_,xs,h3,r⟩:=D.ce p _ e3;exact⟨p,xs,y,rfl,rfl,h3,by rw[<- r.length];exact hl,k.to (dv:=.im .none) (D.wr e3 (r.append (.one hy))) rfl q⟩⟩
def Mm:DV->List DV->Wd->DK->Prop:=fun a as W Q=>∃ p vs i j v,a=.pt p/\as=[.im (.int i)]/\W p=some (.lst vs)/\-(2 ^ 63)<=i/\i < 2 ^ 63/\seqIndex? i vs.length=some j/\vs[j]?=some v/\Q v (aH W p (.lst (vs.eraseIdx j)))
instance:OG C Cq Mm:=⟨fun D h1 h2 zz k=>by
 obtain⟨p,vs,i,j,v,e1,e2,e3,l1,l2,e4,e5,q⟩:=zz
 subst e1 e2;cases h1;obtain⟨y,rfl,hy⟩:=h2.dX;cases hy;obtain⟨_,_,xs,h3,r⟩:=D.ce p _ e3;obtain⟨y,hy,ry⟩:=r.get e5;obtain⟨D2,s2⟩:=D.wr e3 (r.erase j);exact⟨p,xs,i,j,y,rfl,rfl,h3,l1,l2,by rw[<- r.length];exact e4,hy,k _ v _ _ D2 s2 (ry.mono s2) q⟩⟩
def yR:L9:=fun _ W Q=>Q none W
def JD(d:cV):L9:=fun ρ W Q=>d ρ W fun v W1=>∃ i,v=.im (.int i)/\Q (some i) W1
instance:LO C qK yR:=⟨fun D h k=>k none _ _ D (aT.refl _) h⟩
instance [ia:LE C te da]:LO C (Ci te) (JD da):=⟨fun D h k=>ia.go D h fun x dv H1 W1 D1 s1 v1 zz=>by obtain⟨i,e,q⟩:=zz; subst e;exact⟨i,v1,k (some i) H1 W1 D1 s1 q⟩⟩
class SV (C:DC) (r:V->v0->v0->Hp->VK->Prop) (d:outParam (DV->v0->v0->Wd->DK->Prop)):Prop where
 go:∀{σ:St} {H:Hp} {ρ:bR} {W:Wd} {Qd:DK} {Q:VK} {a:DV} {x:V} {lo hi:v0},DR C σ H ρ W->dH C (Fz C W H) a x->d a lo hi W Qd->KE C σ ρ W H Qd Q->r x lo hi H Q
def Xw(f:DV->v0->v0->Wd->DK->Prop)(d:cV)(l u:L9):cV:=fun ρ W Q=>d ρ W fun v W1=>l ρ W1 fun lo W2=>u ρ W2 fun hi W3=>f v lo hi W3 Q
instance {rr:V->v0->v0->Hp->VK->Prop}{f:DV->v0->v0->Wd->DK->Prop}{tl tu:TO}{dl du:L9}[ir:SV C rr f][ia:LE C te da][il:LO C tl dl][iu:LO C tu du]:LE C (TY rr te tl tu) (Xw f da dl du) :=
 ⟨fun D h k=>ia.go D h fun x dv H1 W1 D1 s1 v1 h1=>il.go D1 h1 fun lo H2 W2 D2 s2 h2=>iu.go D2 h2 fun hi H3 W3 D3 s3 h3=>ir.go D3 ((v1.mono s2).mono s3) h3 (k.mono ((s1.trans s2).trans s3))⟩
def cutD{α:Type}(xs:List α)(lo hi:v0):List α:=(xs.drop (HT.de xs.length 0 lo)).take (HT.de xs.length xs.length hi - HT.de xs.length 0 lo)
theorem aM.cut{lo:v0}(h:aM C F vs xs):aM C F (cutD vs lo hi) (lx xs lo hi):=by
 unfold cutD lx;rw[<- h.length];exact(h.drop _).take _
theorem az.drop{F:Hp}:∀{ds:wE} {xs:List V} (i:Nat),az F ds xs->az F (ds.drop i) (xs.drop i)
 | [],_,_,h=>by cases h;simp[az]
 | _::_,_,0,h=>h
 | _::_,_,i+1,⟨y,ys,e,h,r⟩=>by subst e;exact az.drop i r
theorem az.take{F:Hp}:∀{ds:wE} {xs:List V} (i:Nat),az F ds xs->az F (ds.take i) (xs.take i)
 | [],_,_,h=>by cases h;simp[az]
 | _::_,_,0,_=>by simp[az]
 | _::_,_,i+1,⟨y,ys,e,h,r⟩=>by subst e;exact⟨y,_,rfl,h,az.take i r⟩
theorem az.cut{ds:wE}{lo:v0}(h:az F ds xs):az F (cutD ds lo hi) (lx xs lo hi):=by
 unfold cutD lx;rw[<- h.length];exact(h.drop _).take _
def Qz:DV->v0->v0->Wd->DK->Prop:=fun a lo hi W Q=>∃ vs,(dS W a=some vs\/pk a=some vs)/\i5 (cutD vs lo hi) W Q
instance {K:zn}[hk:mD C K]:SV C (Pq K) Qz:=by
 obtain⟨rfl⟩:=hk;exact⟨fun D h zz k=>by
 obtain⟨vs,e,q⟩:=zz
 rcases e with e | e
 ·obtain⟨p,xs,rfl,hq,r⟩:=D.dS h e;exact⟨p,xs,rfl,gb.of hq,fun l hl=>gY D r.cut hl q k⟩
 ·obtain⟨p,xs,rfl,hq,_,r⟩:=D.pk h e;exact⟨p,xs,rfl,hq,fun l hl=>gY D r.cut hl q k⟩⟩
def G4:DV->v0->v0->Wd->DK->Prop:=fun a lo hi W Q=>∃ ds,a=.im (.tuple ds)/\¬ (HT.de ds.length 0 lo=0/\HT.de ds.length ds.length hi=ds.length)/\Q (.im (.tuple (cutD ds lo hi))) W
instance {K:zn}[hk:mD C K]:SV C (Pl K) G4:=by
 obtain⟨rfl⟩:=hk;exact⟨fun D h zz k=>by
 obtain⟨ds,e,hn,q⟩:=zz
 subst e;obtain⟨p,xs,rfl,hq,r⟩:=h;refine⟨p,xs,rfl,fN.of (Fz.le hq),by rw[<- r.length];exact hn,fun l hl=>?_⟩;obtain⟨D3,s3,e3⟩:=D.Bt hl (.tup (lx xs _ _));exact k _ (.im (.tuple _)) _ _ D3 s3 ⟨l,_,rfl,e3,az.same s3 r.cut⟩ q⟩
end
abbrev rB:=DV->bR->Wd->(bR->Wd->Prop)->Prop
abbrev rC:=List DV->bR->Wd->(bR->Wd->Prop)->Prop
structure gG where
 nx:bR->Wd->Prop
 rt:DK
 bk:bR->Wd->Prop
 ct:bR->Wd->Prop
abbrev jP:=gG->bR->Wd->Prop
variable {b:jP}
def KG(C:DC)(F:Hp)(Qd:bR->Wd->Prop)(Q:St->Hp->Prop):Prop:=∀ bG H' cC W',DR C bG H' cC W'->aT F (Fz C W' H')->Qd cC W'->Q bG H'
class LG (C:DC) (g:TG) (d:outParam rB):Prop where
 go:∀{σ:St} {H:Hp} {ρ:bR} {W:Wd} {v:V} {dv:DV} {Qd:bR->Wd->Prop} {Q:St->Hp->Prop},DR C σ H ρ W->dH C (Fz C W H) dv v->d dv ρ W Qd->KG C (Fz C W H) Qd Q->g v σ H Q
class SX (C:DC) (g:vA) (d:outParam rC):Prop where
 go:∀{σ:St} {H:Hp} {ρ:bR} {W:Wd} {vs:List V} {aK:List DV} {Qd:bR->Wd->Prop} {Q:St->Hp->Prop},DR C σ H ρ W->aM C (Fz C W H) aK vs->d aK ρ W Qd->KG C (Fz C W H) Qd Q->g vs σ H Q
structure EM(C:DC)(F:Hp)(De:gG)(D:Ends):Prop where
 nx:KG C F De.nx D.nx
 bk:KG C F De.bk D.bk
 ct:KG C F De.ct D.ct
 rt:∀ x dv bG H' cC W',DR C bG H' cC W'->aT F (Fz C W' H')->dH C (Fz C W' H') dv x->De.rt dv W'->D.rt x H'
class LS (C:DC) (t:TS) (d:outParam jP):Prop where
 go:∀{σ:St} {H:Hp} {ρ:bR} {W:Wd} {De:gG} {D:Ends},DR C σ H ρ W->d De ρ W->EM C (Fz C W H) De D->t D σ H
section
variable {ta tb tc te to ti:TE}{db dc Xx di:cV}{r r':R2}{dr UI:pU}{c c':TT}{dt Qk:mY}{ts:TA}{ds:ml}{Q:VK}{x:V}{g:TG}{dg:rB}{gs:vA}{QA:rC}{t u:TS}{d e:jP}{F':Hp}
theorem KG.mono{Qd:bR->Wd->Prop}{Q:St->Hp->Prop}(k:KG C F Qd Q)(s:aT F F'):KG C F' Qd Q:=fun bG H' cC W' D s' q=>k bG H' cC W' D (s.trans s') q
theorem EM.mono{De:gG}{D:Ends}(m:EM C F De D)(s:aT F F'):EM C F' De D:=⟨m.nx.mono s,m.bk.mono s,m.ct.mono s,fun x dv bG H' cC W' D s' v q=>m.rt x dv bG H' cC W' D (s.trans s') v q⟩
def Xy(i:Nat):rB:=fun dv ρ W Q=>Q (ρ.set i (some dv)) W
instance {i:Nat}:LG C (nF i) (Xy i):=⟨fun D v h k=>k _ _ _ _ (D.set i v) (aT.refl _) h⟩
def Xz:rC:=fun vs ρ W Q=>vs=[]/\Q ρ W
def XA(a:rB)(b:rC):rC:=fun vs ρ W Q=>∃ v r,vs=v::r/\a v ρ W fun cC W'=>b r cC W' Q
instance:SX C K4 Xz:=⟨fun D v h k=>by obtain⟨e,q⟩:=h;subst e;cases v;exact⟨rfl,k _ _ _ _ D (aT.refl _) q⟩⟩
instance [ia:LG C g dg][ib:SX C gs QA]:SX C (BP g gs) (XA dg QA):=⟨fun D v h k=>by
 obtain⟨dv,r,e,q⟩:=h;subst e;obtain⟨y,ys,e,v1,v2⟩:=v;subst e;exact⟨y,ys,rfl,ia.go D v1 q fun bG H' cC W' D' s' q'=>ib.go D' (v2.mono s') q' (k.mono s')⟩⟩
def yS(a b dv:DV)(W2:Wd)(Kc:Wd->Prop):Prop:=∃ p vs k j,a=.pt p/\b=.im (.int k)/\W2 p=some (.lst vs)/\Ai vs.length k=some j/\Kc (aH W2 p (.lst (vs.set j dv)))
def XB(o i:cV):rB:=fun dv ρ W Q=>o ρ W fun a W1=>i ρ W1 fun b W2=>yS a b dv W2 (Q ρ)
instance [io:LE C to Xx][ii:LE C ti di]:LG C (K6 to ti IV) (XB Xx di):=⟨fun D v h k=>io.go D h fun x dx H1 W1 D1 s1 v1 h1=>ii.go D1 h1 fun y dy H2 W2 D2 s2 v2 zz=>by
 obtain⟨p,vs,n,j,e1,e2,e3,e4,q⟩:=zz
 subst e1 e2;cases (v1.mono s2);cases v2;obtain⟨_,_,xs,h3,r⟩:=D2.ce p _ e3;obtain⟨D3,s3⟩:=D2.wr e3 (r.set j ((v.mono s1).mono s2));exact⟨p,xs,n,j,rfl,rfl,h3,by rw[<- r.length];exact e4,k _ _ _ _ D3 ((s1.trans s2).trans s3) q⟩⟩
def JE:jP:=fun De ρ W=>De.nx ρ W
instance:LS C BM JE:=⟨fun D h m=>m.nx _ _ _ _ D (aT.refl _) h⟩
def jQ(a b:jP):jP:=fun De ρ W=>a ⟨b De,De.rt,De.bk,De.ct⟩ ρ W
instance [ia:LS C t d][ib:LS C u e]:LS C (KZ t u) (jQ d e):=⟨fun D h m=>ia.go D h ⟨fun bG H' cC W' D' s' q=>ib.go D' q (m.mono s'),m.bk,m.ct,m.rt⟩⟩
def yT(a:cV):jP:=fun De ρ W=>a ρ W fun _ W1=>De.nx ρ W1
instance [ia:LE C ta da]:LS C (BO ta) (yT da):=⟨fun D h m=>ia.go D h fun x dv H1 W1 D1 s1 v1 q=>m.nx _ _ _ _ D1 s1 q⟩
def QB(a:cV):jP:=fun De ρ W=>a ρ W De.rt
instance [ia:LE C ta da]:LS C (K0 ta) (QB da):=⟨fun D h m=>ia.go D h fun x dv H1 W1 D1 s1 v1 q=>m.rt x dv _ _ _ _ D1 s1 v1 q⟩
def Mn(c:mY)(a b:jP):jP:=fun De ρ W=>c ρ W fun k W1=>if k=true then a De ρ W1 else b De ρ W1
instance [it:LT C c dt][ia:LS C t d][ib:LS C u e]:LS C (K2 c t u) (Mn dt d e):=⟨fun D h m=>it.go D h fun b H1 W1 D1 s1 h1=>by
 cases b with
 | true=>exact ia.go D1 h1 (m.mono s1)
 | false=>exact ib.go D1 h1 (m.mono s1)⟩
def G5(a:cV)(g:rB):jP:=fun De ρ W=>a ρ W fun v W1=>g v ρ W1 De.nx
instance [ia:LE C ta da][ig:LG C g dg]:LS C (vM ta g) (G5 da dg):=⟨fun D h m=>ia.go D h fun x dv H1 W1 D1 s1 v1 q=>ig.go D1 v1 q (m.nx.mono s1)⟩
def C1(P:Prop)(a:ml):jP:=fun _ ρ W=>a ρ W fun vs _=>vs.length<=sizeLine/\P
instance {E':XK}{X':Addr->Prop}[he:Xm C E' X']{k:Addr}[ia:LA C ts ds]:LS C (wK k E' ts) (C1 (X' k) ds):=by
 obtain⟨rfl,rfl⟩:=he;exact⟨fun D h m=>ia.go D h fun xs aK H1 W1 D1 s1 v1 ⟨hl,p⟩=>⟨by rw[<- v1.length];exact hl,D1.ok.ex k p H1 D1.fr⟩⟩
def C3(c:mY)(b:jP):jP:=fun De ρ W=>∃ Pv:Nat->bR->Wd->Prop,(∃ m,Pv m ρ W)/\∀ m ρ W,Pv m ρ W->c ρ W fun k W1=>if k=true then b ⟨fun cC W'=>∃ m',m' < m/\Pv m' cC W',De.rt,De.nx,fun cC W'=>∃ m',m' < m/\Pv m' cC W'⟩ ρ W1 else De.nx ρ W1
instance [it:LT C c dt][ib:LS C t d]:LS C (vN c t) (C3 dt d):=⟨fun{σ H ρ W De D} R h m=>by
 obtain⟨Pv,⟨m0,p0⟩,hs⟩:=h;refine⟨fun n bG H'=>∃ cC W',DR C bG H' cC W'/\aT (Fz C W H) (Fz C W' H')/\Pv n cC W',⟨m0,ρ,W,R,aT.refl _,p0⟩,?_⟩;rintro n bG H' ⟨cC,W',D',s',p'⟩;refine it.go D' (hs n cC W' p') fun b H1 W1 D1 s1 h1=>?_;cases b with
 | true =>
  refine⟨fun Bq H2=>∃ jj W2,DR C Bq H2 jj W2/\aT (Fz C W H) (Fz C W2 H2)/\∃ m',m' < n/\Pv m' jj W2,fun Bq H2 ⟨jj,W2,D2,s2,m',l,p2⟩=>⟨m',l,jj,W2,D2,s2,p2⟩,ib.go D1 h1 ?_⟩;have ss:=s'.trans s1;exact⟨fun Bq H2 jj W2 D2 s2 q=>⟨jj,W2,D2,ss.trans s2,q⟩,m.nx.mono ss,fun Bq H2 jj W2 D2 s2 q=>⟨jj,W2,D2,ss.trans s2,q⟩,(m.mono ss).rt⟩
 | false=>exact m.nx _ _ _ _ D1 (s'.trans s1) h1⟩
structure pX where
 vs:List DV
 kp:Wd->Prop
abbrev FL:=bR->Wd->(pX->Wd->Prop)->Prop
structure G6(C:DC)(F:Hp)(J:It)(it:pX):Prop where
 go:∀ i σ H ρ W,DR C σ H ρ W->aT F (Fz C W H)->it.kp W->i < it.vs.length->J.go i H
 FF:∀ i σ H ρ W,DR C σ H ρ W->aT F (Fz C W H)->it.kp W->i < it.vs.length->∀ x H',J.FF i H x H'->DR C σ H' ρ W/\aT (Fz C W H) (Fz C W H')/\∃ dv,it.vs[i]?=some dv/\dH C (Fz C W H') dv x
 stop:∀ σ H ρ W,DR C σ H ρ W->aT F (Fz C W H)->it.kp W->J.stop it.vs.length H
class LI (C:DC) (w:TI) (d:outParam FL):Prop where
 go:∀{σ:St} {H:Hp} {ρ:bR} {W:Wd} {Qd:pX->Wd->Prop} {Q:It->Hp->Prop},DR C σ H ρ W->d ρ W Qd->(∀ J it H' W',DR C σ H' ρ W'->aT (Fz C W H) (Fz C W' H')->G6 C (Fz C W' H') J it->Qd it W'->Q J H')->w σ H Q
def pY(it:pX)(g:rB)(b:jP)(De:gG)(ρ:bR)(W1:Wd):Prop:=∃ Pv:Nat->bR->Wd->Prop,Pv 0 ρ W1/\(∀ i ρ W,Pv i ρ W->it.kp W) /\
 (∀ i v ρ W,it.vs[i]?=some v->Pv i ρ W->g v ρ W fun jj W2=>b ⟨Pv (i+1),De.rt,De.nx,Pv (i+1)⟩ jj W2)/\∀ ρ W,Pv it.vs.length ρ W->De.nx ρ W
def QC(w:FL)(g:rB)(b:jP):jP:=fun De ρ W=>w ρ W fun it W1=>pY it g b De ρ W1
instance {w:TI}{dw:FL}[iw:LI C w dw][ig:LG C g dg][ib:LS C t d]:LS C (La w g t) (QC dw dg d):=⟨fun{σ H ρ W De D} R h m=>iw.go R h fun J it H1 W1 D1 s1 ok zz=>by
 obtain⟨Pv,p0,kp,hs,hd⟩:=zz
 refine⟨fun i n bG H'=>n=it.vs.length - i/\i<=it.vs.length/\∃ cC W',DR C bG H' cC W'/\aT (Fz C W1 H1) (Fz C W' H')/\Pv i cC W',⟨it.vs.length,by simp,aaK _,ρ,W1,D1,aT.refl _,p0⟩,?_⟩;rintro i n bG H' ⟨rfl,hi,cC,W',D',s',p'⟩;have kw:=kp i cC W' p'
 by_cases iz:i < it.vs.length
 ·refine .inr ⟨ok.go i bG H' cC W' D' s' kw iz,fun Bq H2=>∃ jj W2,DR C Bq H2 jj W2/\aT (Fz C W1 H1) (Fz C W2 H2)/\Pv (i+1) jj W2,fun Bq H2 ⟨jj,W2,D2,s2,p2⟩=>⟨it.vs.length - (i+1),by omega,rfl,iz,jj,W2,D2,s2,p2⟩,fun x H2 hy=>?_⟩;obtain⟨D2,s2,dv,e,v⟩:=ok.FF i bG H' cC W' D' s' kw iz x H2 hy;refine ig.go D2 v (hs i dv cC W' e p') fun yl H3 XC W3 D3 s3 q3=>ib.go D3 q3 ?_;have ss:=(s'.trans s2).trans s3;exact⟨fun Zx H4 UO W4 D4 s4 q=>⟨UO,W4,D4,ss.trans s4,q⟩,m.nx.mono (s1.trans ss),fun Zx H4 UO W4 D4 s4 q=>⟨UO,W4,D4,ss.trans s4,q⟩,(m.mono (s1.trans ss)).rt⟩
 ·have e:i=it.vs.length:=by omega
  subst e;exact .inl ⟨ok.stop bG H' cC W' D' s' kw,m.nx _ _ _ _ D' (s1.trans s') (hd cC W' p')⟩⟩
def uh(it:pX)(g:rB)(c:mY)(e:cV)(ρ:bR)(W1:Wd)(Q:DK):Prop:=it.vs.length<=sizeLine/\∃ Pv:Nat->List DV->Wd->Prop,Pv 0 [] W1/\(∀ i ys W,Pv i ys W->it.kp W) /\
 (∀ i v ys W,it.vs[i]?=some v->ys.length<=i->Pv i ys W->g v ρ W fun jj W2=>c jj W2 fun b W3=>if b=true then e jj W3 fun y W4=>Pv (i+1) (ys++[y]) W4 else Pv (i+1) ys W3) /\
 ∀ ys W,Pv it.vs.length ys W->i5 ys W Q
def JF(w:FL)(g:rB)(c:mY)(e:cV)(ix:List (Option Nat)):cV:=fun ρ W Q=>w ρ W fun it W1=>uh it g c e (Az ix ρ) W1 Q
instance {w:TI}{dw:FL}{ix:List (Option Nat)}[iw:LI C w dw][ig:LG C g dg][it:LT C c dt][ie:LE C te da]:LE C (ua w g c te ix) (JF dw dg dt da ix):=⟨fun{σ H ρ W Qd Q} R h k=>iw.go R h fun J CS H1 W1 D1 s1 ok zz=>by
 obtain⟨hz,Pv,p0,kp,hs,hd⟩:=zz
 refine⟨fun i n ys H'=>n=CS.vs.length - i/\i<=CS.vs.length/\∃ zs W',DR C σ H' ρ W'/\aT (Fz C W1 H1) (Fz C W' H')/\aM C (Fz C W' H') zs ys/\zs.length<=i/\Pv i zs W',⟨CS.vs.length,by simp,aaK _,[],W1,D1,aT.refl _,rfl,aao _,p0⟩,?_⟩;rintro i n ys H' ⟨rfl,hi,zs,W',D',s',vz,hl,p'⟩;have kw:=kp i zs W' p'
 by_cases iz:i < CS.vs.length
 ·refine .inr ⟨ok.go i σ H' ρ W' D' s' kw iz,by rw[<- vz.length];omega,
   fun y H2=>∃ zy W2,DR C σ H2 ρ W2/\aT (Fz C W1 H1) (Fz C W2 H2)/\aM C (Fz C W2 H2) zs ys/\dH C (Fz C W2 H2) zy y/\Pv (i+1) (zs++[zy]) W2,fun H2=>∃ W2,DR C σ H2 ρ W2/\aT (Fz C W1 H1) (Fz C W2 H2)/\aM C (Fz C W2 H2) zs ys/\Pv (i+1) zs W2,
   fun y H2 ⟨zy,W2,D2,s2,v2,vy,p2⟩=>⟨CS.vs.length - (i+1),by omega,rfl,iz,zs++[zy],W2,D2,s2,v2.append (.one vy),by rw[aaQ];simp;omega,p2⟩,
   fun H2 ⟨W2,D2,s2,v2,p2⟩=>⟨CS.vs.length - (i+1),by omega,rfl,iz,zs,W2,D2,s2,v2,by omega,p2⟩,fun x H2 hy=>?_⟩
  obtain⟨D2,s2,dv,e,v⟩:=ok.FF i σ H' ρ W' D' s' kw iz x H2 hy;have Zy:DR C (blk ix σ) H2 (Az ix ρ) W':=D2.slots (D2.sl.blk ix);refine ig.go Zy v (hs i dv zs W' e hl p') fun yl H3 XC W3 D3 s3 q3=>it.go D3 q3 fun b H4 W4 D4 s4 h4=>?_;have back:∀ H5 W5,DR C yl H5 XC W5->aT (Fz C W' H2) (Fz C W5 H5)->DR C σ H5 ρ W5:=fun H5 W5 D5 s5=>D5.slots (D2.sl.mono s5);cases b with
  | true =>
   refine ie.go D4 h4 fun y zy H5 W5 D5 s5 v5 q5=>?_;exact⟨zy,W5,back H5 W5 D5 ((s3.trans s4).trans s5),(((s'.trans s2).trans s3).trans s4).trans s5,vz.mono (((s2.trans s3).trans s4).trans s5),v5,q5⟩
  | false=>exact⟨W4,back H4 W4 D4 (s3.trans s4),((s'.trans s2).trans s3).trans s4,vz.mono ((s2.trans s3).trans s4),h4⟩
 ·have e:i=CS.vs.length:=by omega
  subst e;refine .inl ⟨ok.stop σ H' ρ W' D' s' kw,fun p hp=>?_⟩;exact gY D' vz hp (hd zs W' p') (k.mono (s1.trans s'))⟩
def QD:mY:=fun _ W Q=>Q true W
instance:LT C L0 QD:=⟨fun D h k=>k true _ _ D (aT.refl _) h⟩
def C4(v:DV)(W1:Wd)(Q:pX->Wd->Prop):Prop:=(∃ ds,v=.im (.list ds)/\Q ⟨ds.map .im,fun _=>True⟩ W1)\/(∃ p vs,v=.pt p/\W1 p=some (.lst vs)/\Q ⟨vs,fun W'=>W' p=some (.lst vs)⟩ W1)\/(∃ ns,v=.lE ns/\Q ⟨ns.map fun n=>.im (.int n),fun _=>True⟩ W1)
def C5(a:cV):FL:=fun ρ W Q=>a ρ W fun v W1=>C4 v W1 Q
theorem wR{it:pX}(h:∀ σ H ρ W,DR C σ H ρ W->aT F (Fz C W H)->it.kp W->∃ xs,gb C.K H a xs/\aM C (Fz C W H) it.vs xs):G6 C F (TK C.K a) it where
 go:=fun i σ H ρ W D s kw hi=>by
  obtain⟨xs,q,v⟩:=h σ H ρ W D s kw;have hl:=v.length;exact⟨xs,xs[i]'(by omega),q,by simp[show i < xs.length by omega]⟩
 FF:=fun i σ H ρ W D s kw hi x H' zz=>by
  obtain⟨e,y⟩:=zz
  obtain⟨xs,q,v⟩:=h σ H ρ W D s kw;subst e;obtain⟨dv,e2,v2⟩:=v.get' (y xs q);exact⟨D,aT.refl _,dv,e2,v2⟩
 stop:=fun σ H ρ W D s kw=>by
  obtain⟨xs,q,v⟩:=h σ H ρ W D s kw;exact⟨xs,q,by rw[v.length];exact aao _⟩
instance {K:zn}[hk:mD C K][ia:LE C ta da]:LI C (BS K ta) (C5 da):=by
 obtain⟨rfl⟩:=hk;exact⟨fun D h k=>ia.go D h fun x dv H1 W1 D1 s1 v1 h1=>by
 rcases h1 with⟨ds,e,q⟩ | ⟨p,vs,e,ew,q⟩ | ⟨ns,e,q⟩
 ·subst e;obtain⟨p,xs,rfl,hp,r⟩:=v1;exact⟨p,rfl,⟨xs,gb.of (Fz.le hp)⟩,k _ _ _ _ D1 s1 (wR fun σ H ρ W D s _=>⟨xs,gb.of (Fz.le (s _ _ hp)),.gD (az.same s r)⟩) q⟩
 ·subst e;cases v1;obtain⟨_,_,xs,h3,r⟩:=D1.ce p _ ew;exact⟨p,rfl,⟨xs,gb.of h3⟩,k _ _ _ _ D1 s1 (wR fun σ H ρ W D s kw=>by
   obtain⟨_,_,ys,h4,r4⟩:=D.ce p _ kw;exact⟨ys,gb.of h4,r4⟩) q⟩
 ·subst e;obtain⟨p,rfl,hp⟩:=v1;exact⟨p,rfl,⟨_,(Fz.sm (C:=C) (W:=W1)).seq hp⟩,k _ _ _ _ D1 s1 (wR fun σ H ρ W D s _=>⟨_,(Fz.sm (C:=C) (W:=W)).seq (s.seq hp),jh ns⟩) q⟩⟩
theorem AG(D:DR C σ H ρ W)(h:dH C (Fz C W H) dv x)(e:kG dv=some vs):∃ p xs,x=.ref p/\∀ bG H' cC W',DR C bG H' cC W'->aT (Fz C W H) (Fz C W' H')->fN C.K H' p xs/\aM C (Fz C W' H') vs xs:=by
 cases dv with
 | im d =>
  cases d with
  | tuple ds=>cases e;obtain⟨p,xs,e1,h1,r⟩:=h;exact⟨p,xs,e1,fun bG H' cC W' D' s=>⟨fN.of (Fz.le (s _ _ h1)),.gD (az.same s r)⟩⟩
  | _=>cases e
 | cst ys =>
  obtain⟨p,e1,h1⟩:=h;unfold kG at e
  by_cases q:ys.all eE=true
  ·simp only[q,acu]at e;cases e;exact⟨p,ys,e1,fun bG H' cC W' D' s=>⟨h1 H',mZ q⟩⟩
  ·simp only[q]at e;cases e
 | tp ts=>cases e;obtain⟨p,AE,e1,h1,r⟩:=h;exact⟨p,AE,e1,fun bG H' cC W' D' s=>⟨fN.of (Fz.le (s _ _ h1)),oh (r.same s)⟩⟩
 | _=>cases e
theorem Mo{lo:Int}:G6 C F (Sl lo n) ⟨(List.range n).map fun i=>.im (.int (lo+(i:Nat))),fun _=>True⟩ where
 go:=fun i σ H ρ W D s kw hi=>by show i < n;simpa using hi
 FF:=fun i σ H ρ W D s kw hi x H' zz=>by
  obtain⟨e,y⟩:=zz
  subst e;have C6:i < n:=by simpa using hi
  exact⟨D,aT.refl _,.im (.int (lo+i)),by simp[C6],y⟩
 stop:=fun σ H ρ W D s kw=>by show n<=_;simp
def Mp(vs:List DV)(W1:Wd)(Q:pX->Wd->Prop):Prop:=∃ j:Int,vs=[.im (.int j)]/\-(2 ^ 62)<=j/\j < 2 ^ 62/\Q ⟨(List.range j.toNat).map fun i=>.im (.int (0+(i:Nat))),fun _=>True⟩ W1
def JG(a:ml):FL:=fun ρ W Q=>a ρ W fun vs W1=>Mp vs W1 Q
instance [is:LA C ts ds]:LI C (BV ts) (JG ds):=⟨fun D h k=>is.go D h fun xs aK H1 W1 D1 s1 v1 zz=>by
 obtain⟨j,e,l1,l2,q⟩:=zz
 subst e;obtain⟨x,rfl,hx⟩:=v1.dX;cases hx;exact⟨j,rfl,l1,l2,k _ _ _ _ D1 s1 Mo q⟩⟩
end
variable {B':pX->Wd->Prop}
section
variable {ta:TE}{ts:TA}{ds:ml}{Q:VK}{x:V}{F':Hp}
def AH(k:SK)(W:Wd)(dv:DV):Option (List DV):=match k with
 | .L=>match dS W dv with
  | some vs=>some vs
  | none=>pk dv
 | .T=>kG dv
def wU(dv:DV)(vs:List DV):Wd->Prop:=match dv with
 | .pt p=>fun W'=>W' p=some (.lst vs)
 | _=>fun _=>True
theorem pZ(D:DR C σ H ρ W)(h:dH C (Fz C W H) dv x){k:SK}(e:AH k W dv=some vs):∃ p,x=.ref p/\wU dv vs W/\∀ bG H' cC W',DR C bG H' cC W'->aT (Fz C W H) (Fz C W' H')->wU dv vs W'->∃ xs,wm C.K k H' p xs/\aM C (Fz C W' H') vs xs:=by
 cases k with
 | T =>
  obtain⟨p,xs,e1,hk⟩:=AG D h (show kG dv=some vs from e);have tt:∀ W',wU dv vs W':=fun W'=>by
   cases dv with
   | pt q=>cases (show kG (.pt q)=some vs from e)
   | _=>exact trivial
  exact⟨p,e1,tt W,fun bG H' cC W' D' s _=>⟨xs,hk bG H' cC W' D' s⟩⟩
 | L =>
  cases dv with
  | im d =>
   cases d with
   | list ds =>
    cases (show some (ds.map DV.im)=some vs from e);obtain⟨p,xs,e1,h1,r⟩:=h;exact⟨p,e1,trivial,fun bG H' cC W' D' s _=>⟨xs,gb.of (Fz.le (s _ _ h1)),.gD (az.same s r)⟩⟩
   | _=>cases (show none=some vs from e)
  | pt p =>
   unfold AH dS at e;cases q:W p with
   | none=>simp[q,pk]at e
   | some c =>
    cases c with
    | lst ys =>
     simp[q]at e;subst e;refine⟨p,h,q,fun bG H' cC W' D' s kw=>?_⟩;obtain⟨_,_,zs,h4,r4⟩:=D'.ce p _ kw;exact⟨zs,gb.of h4,r4⟩
    | _=>simp[q,pk]at e
  | lE ns =>
   cases (show some (ns.map fun n=>DV.im (.int n))=some vs from e);obtain⟨p,e1,h1⟩:=h;exact⟨p,e1,trivial,fun bG H' cC W' D' s _=>⟨_,(Fz.sm (C:=C) (W:=W')).seq (s.seq h1),jh ns⟩⟩
  | _=>cases (show none=some vs from e)
noncomputable def Mq:DV->Option PyData
 | .im d=>some d
 | _=>none
theorem rD:∀{vs:List DV} {ds:wE},fX Mq vs=some ds->vs=ds.map .im
 | [],_,e=>by cases e;rfl
 | .im d::r,_,e=>by
  unfold fX at e;cases q:fX Mq r with
  | none=>simp[Mq,q]at e
  | some cs=>simp[Mq,q]at e;subst e;rw[rD q];rfl
 | .pt _::_,_,e=>by cases e
 | .cst _::_,_,e=>by cases e
 | .rf _::_,_,e=>by cases e
 | .ty _::_,_,e=>by cases e
 | .vD _::_,_,e=>by cases e
 | .raw _::_,_,e=>by cases e
 | .lE _::_,_,e=>by cases e
 | .tp _::_,_,e=>by cases e
noncomputable def UP(k1 k2:SK)(vs:List DV)(W1:Wd)(Q:pX->Wd->Prop):Prop:=∃ v1 v2 Mr vE d1 d2,vs=[v1,v2]/\AH k1 W1 v1=some Mr/\AH k2 W1 v2=some vE/\fX Mq Mr=some d1/\fX Mq vE=some d2 /\
 Q ⟨(d1.zip d2).map fun p=>.im (.tuple [p.1,p.2]),fun W'=>wU v1 Mr W'/\wU v2 vE W'⟩ W1
noncomputable def QE(k1 k2:SK)(a:ml):FL:=fun ρ W Q=>a ρ W fun vs W1=>UP k1 k2 vs W1 Q
theorem Ms{k1 k2:SK}{b:Addr}{d1 d2:wE}{kp:Wd->Prop}(h1:∀ σ H ρ W,DR C σ H ρ W->aT F (Fz C W H)->kp W->∃ xs,wm C.K k1 H a xs/\az (Fz C W H) d1 xs)(h2:∀ σ H ρ W,DR C σ H ρ W->aT F (Fz C W H)->kp W->∃ xs,wm C.K k2 H b xs/\az (Fz C W H) d2 xs) :
  G6 C F (Ui C.K k1 k2 a b) ⟨(d1.zip d2).map fun p=>.im (.tuple [p.1,p.2]),kp⟩ where
 go:=fun i σ H ρ W D s kw hi=>by
  obtain⟨xs,q1,r1⟩:=h1 σ H ρ W D s kw;obtain⟨ys,q2,r2⟩:=h2 σ H ρ W D s kw;have C6:i < d1.length/\i < d2.length:=by simp at hi;omega
  have l1:=r1.length;have l2:=r2.length;exact⟨xs,ys,xs[i]'(by omega),ys[i]'(by omega),q1,q2,by simp[show i < xs.length by omega],by simp[show i < ys.length by omega]⟩
 FF:=fun i σ H ρ W D s kw hi x H' zz=>by
  obtain⟨p,y,z,e,hp,eH,g1,g2⟩:=zz
  subst e eH;obtain⟨xs,q1,r1⟩:=h1 σ H ρ W D s kw;obtain⟨ys,q2,r2⟩:=h2 σ H ρ W D s kw;have C6:i < d1.length/\i < d2.length:=by simp at hi;omega
  obtain⟨y',ey,ry⟩:=r1.get (i:=i) (d:=d1[i]) (by simp[C6.1]);obtain⟨z',ez,rz⟩:=r2.get (i:=i) (d:=d2[i]) (by simp[C6.2]);rw[g1 xs q1]at ey;cases ey;rw[g2 ys q2]at ez;cases ez;obtain⟨D2,s2,e2⟩:=D.Bt hp (.tup [y,z]);refine⟨D2,s2,.im (.tuple [d1[i],d2[i]]),?_,p,_,rfl,e2,y,_,rfl,ry.same s2,z,_,rfl,rz.same s2,rfl⟩;have:(d1.zip d2)[i]?=some (d1[i],d2[i]):=by simp[abi,C6.1,C6.2]
  show((d1.zip d2).map fun p=>DV.im (.tuple [p.1,p.2]))[i]?=_;rw[aap,this];rfl
 stop:=fun σ H ρ W D s kw=>by
  obtain⟨xs,q1,r1⟩:=h1 σ H ρ W D s kw;obtain⟨ys,q2,r2⟩:=h2 σ H ρ W D s kw;refine⟨xs,ys,q1,q2,?_⟩;show xs.length<=((d1.zip d2).map _).length\/ys.length<=((d1.zip d2).map _).length;rw[aak,adp,<- r1.length,<- r2.length];omega
noncomputable instance {K:zn}[hk:mD C K]{k1 k2:SK}[is:LA C ts ds]:LI C (LU K k1 k2 ts) (QE k1 k2 ds):=by
 obtain⟨rfl⟩:=hk;exact⟨fun D h k=>is.go D h fun xs aK H1 W1 D1 s1 v1 zz=>by
 obtain⟨a,b,Mr,vE,d1,d2,e,e1,e2,i1,i2,q⟩:=zz
 subst e;obtain⟨x,y,rfl,hx,hy⟩:=v1.nh;obtain⟨p1,rfl,Zz,f1⟩:=pZ D1 hx e1;obtain⟨p2,rfl,ZA,f2⟩:=pZ D1 hy e2;have u1:=rD i1;have u2:=rD i2;subst u1 u2;refine⟨p1,p2,rfl,let ⟨xs,q,_⟩:=f1 _ _ _ _ D1 (aT.refl _) Zz;⟨xs,q⟩,let ⟨xs,q,_⟩:=f2 _ _ _ _ D1 (aT.refl _) ZA;⟨xs,q⟩,k _ _ _ _ D1 s1 (Ms (fun σ H ρ W D s kw=>?_) fun σ H ρ W D s kw=>?_) q⟩
 ·obtain⟨xs,q,r⟩:=f1 σ H ρ W D s kw.1;exact⟨xs,q,r.uc⟩
 ·obtain⟨xs,q,r⟩:=f2 σ H ρ W D s kw.2;exact⟨xs,q,r.uc⟩⟩
inductive Res where
 | im (d:PyData) | nw (ds:wE)
def SY:Res->Bool
 | .im d=>Im d
 | .nw ds=>kF ds
def yU(O:Addr->Prop)(H H':Hp):Res->V->Prop
 | .im d,v=>Rep (hide O H') d v
 | .nw ds,v=>∃ p xs,v=.ref p/\H p=none/\H' p=some (.lst xs)/\az (hide (fun a=>O a\/a=p) H') ds xs
abbrev ll:=List PyData->(Res->Prop)->(Addr->Prop)->Prop
def eZ(S:ll):Sp:=fun vs H Q E=>∃(O:Addr->Prop) (ds:wE) (R:Res->Prop) (X:Addr->Prop),(∀ a,O a->H a≠none)/\az (hide O H) ds vs/\S ds R X/\(∀ r v H',R r->aT H H'->yU O H H' r v->Q v H')/\∀ c H',X c->aT H H'->E (.ref c) none H'
def j8(W:Wd)(Q:DK):Res->Prop
 | .im d=>Q (.im d) W
 | .nw ds=>(∀ p,W p=none->Q (.pt p) (aH W p (.lst (ds.map .im))))\/Q (.im (.list ds)) W
def ui(S:ll)(X:Addr->Prop):List DV->Wd->DK->Prop:=fun as W Q =>
 (∃ ds,fX (dat 4 W) as=some ds/\S ds (fun r=>SY r=true/\j8 W Q r) X)\/∃ ds W1,gQ (jV 4) W as=some (ds,W1)/\S ds (j8 W1 Q) X
class G7 (C:DC) (sp:Sp) (E:XK) (d:outParam (List DV->Wd->DK->Prop)):Prop where
 go:∀{σ:St} {H:Hp} {ρ:bR} {W:Wd} {Qd:DK} {Q:VK} {as:List DV} {xs:List V},DR C σ H ρ W->aM C (Fz C W H) as xs->d as W Qd->KE C σ ρ W H Qd Q->sp xs H Q E
theorem DR.sameNew(D:DR C σ H ρ W)(s:aT H H'){aK:List DV}(hp:H p=none)(uj:H' p=some (.lst xs))(r:aM C (Fz C (aH W p (.lst aK)) H') aK xs):DR C σ H' ρ (aH W p (.lst aK))/\aT (Fz C W H) (Fz C (aH W p (.lst aK)) H'):=by
 have np:∀ a,H a≠none->a≠p:=fun a ha z=>ha (by rw[z];exact hp);refine D.step (fun a z=>?_) (fun a u e _=>s a u e) (rm s) fun s' q c' e=>?_
 ·by_cases hq:a=p
  ·exact .inr (by rw[hq];exact hp)
  ·rw[aE hq]at z;exact .inl z
 ·by_cases hq:q=p
  ·subst hq;rw[au]at e;cases e;exact⟨.inl (D.Jv hp),D.nO hp,xs,uj,r⟩
  ·rw[aE hq]at e;obtain⟨h1,h2,h3⟩:=D.ce q c' e;refine⟨h1,h2,h3.mono s' D.ok (gW s (D.there e)) (fun g hg=>?_) fun t' g' n' z=>?_⟩
   ·have:=np g (D.there hg);exact⟨by rw[aE this];exact hg,gW s (D.there hg)⟩
   ·by_cases ht:t'=p
    ·subst ht;rw[au]at z;cases z
    ·rw[aE ht]at z;exact⟨n',z⟩
theorem DR.tp(D:DR C σ H ρ W){O:Addr->Prop}(hO:∀ a,C.O a->O a):Tp (hide O H) (Fz C W H):=fun b xs e=>by
 obtain⟨h1,h2⟩:=aC.mp e;refine aC.mpr ⟨fun z=>?_,h2⟩;rcases z with z | z
 ·exact h1 (hO b z)
 ·cases q:W b with
  | none=>rw[q]at z;cases z
  | some c =>
   obtain⟨u,e1,e2⟩:=(D.ce b c q).2.2.mu D.ok;rw[h2]at e1;cases e1;exact e2 xs rfl
theorem yV{S:ll}{X:Addr->Prop}(hX:∀ c H',X c->(∀ a o,C.H0 a=some o->¬ C.T a->H' a=some o)->E (.ref c) none H')(D:DR C σ H ρ W)(h:aM C (Fz C W H) as xs)(hd:ui S X as W Qd)(k:KE C σ ρ W H Qd Q):eZ S xs H Q E:=by
 have hE:∀ c H',X c->aT H H'->E (.ref c) none H':=fun c H' hc s=>hX c H' hc fun a o e ht=>s a o (D.fr a o e ht);rcases hd with⟨ds,e,hS⟩ | ⟨ds,W1,e,hS⟩
 ·refine⟨fun a=>C.O a\/eT (W a),ds,_,X,fun a ha=>?_,gE (fun dv x d h e=>D.dat 4 h e) h e,hS,fun r v H' hr s hv=>?_,hE⟩
  ·rcases ha with ha | ha
   ·exact D.ho a ha
   ·obtain⟨c,e⟩:=gv ha;exact D.there e
  ·obtain⟨D1,s1⟩:=D.same s;cases r with
   | im d=>exact k _ (.im d) _ _ D1 s1 (Rep.tp (D1.tp fun a ha=>.inl ha) hr.1 hv) hr.2
   | nw es =>
    obtain⟨p,ys,rfl,hp,uj,rr⟩:=hv;have base:az (Fz C W H') es ys:=az.tp (D1.tp fun a ha=>.inl (.inl ha)) hr.1 rr;have C7:Tp (Fz C W H') (Fz C (aH W p (.lst (es.map .im))) H'):=fun b zs e=>by
     obtain⟨h1,h2⟩:=aC.mp e;have nb:b≠p:=fun z=>by rw[z,uj]at h2;cases h2
     refine aC.mpr ⟨fun z=>h1 (z.elim .inl fun z=>.inr ?_),h2⟩;rw[aE nb]at z;exact z
    rcases hr.2 with h2 | h2
    ·obtain⟨D2,s2⟩:=D.sameNew s hp uj (.gD (az.tp C7 hr.1 base));exact k _ (.pt p) _ _ D2 s2 rfl (h2 p (D.fresh hp))
    ·exact k _ (.im (.list es)) _ _ D1 s1 ⟨p,ys,rfl,aC.mpr ⟨(fun z=>z.elim (D.nO hp) (fun z=>by rw[D.fresh hp]at z;cases z)),uj⟩,base⟩ h2
 ·obtain⟨D1,s1,r1,k1⟩:=gX (j7 4) D h e;refine⟨fun a=>C.O a\/(W1 a).isSome=true,ds,_,X,fun a ha=>?_,r1,hS,fun r v H' hr s hv=>?_,hE⟩
  ·rcases ha with ha | ha
   ·exact D1.ho a ha
   ·cases q:W1 a with
    | none=>rw[q]at ha;cases ha
    | some c=>exact D1.there q
  ·obtain⟨D2,s2⟩:=D1.same s;cases r with
   | im d=>exact k _ (.im d) _ _ D2 (s1.trans s2) hv hr
   | nw es =>
    obtain⟨p,ys,rfl,hp,uj,rr⟩:=hv;have:aT (hide (fun a=>(C.O a\/(W1 a).isSome=true)\/a=p) H') (Fz C (aH W1 p (.lst (es.map .im))) H'):=fun b o e=>by
     obtain⟨h1,h2⟩:=aC.mp e;refine aC.mpr ⟨fun z=>h1 ?_,h2⟩;rcases z with z | z
     ·exact .inl (.inl z)
     ·by_cases hb:b=p
      ·exact .inr hb
      ·rw[aE hb]at z;exact .inl (.inr z)
    rcases hr with h2 | h2
    ·obtain⟨D3,s3⟩:=D1.sameNew s hp uj (.gD (az.same this rr));exact k _ (.pt p) _ _ D3 (s1.trans s3) rfl (h2 p (D1.fresh hp))
    ·refine k _ (.im (.list es)) _ _ D2 (s1.trans s2) ⟨p,ys,rfl,aC.mpr ⟨(fun z=>z.elim (D1.nO hp) (fun z=>by rw[D1.fresh hp]at z;cases z)),uj⟩,az.same (fun b o e=>?_) rr⟩ h2;obtain⟨g1,g2⟩:=aC.mp e;exact aC.mpr ⟨fun z=>g1 (.inl z),g2⟩
instance {S:ll}:G7 C (eZ S) E0 (ui S fun _=>False):=⟨fun D h hd k=>yV (fun c H' hc _=>hc.elim) D h hd k⟩
instance {sp:Sp}{E:XK}{f:List DV->Wd->DK->Prop}[ir:G7 C sp E f][is:LA C ts ds]:LE C (yv sp [] E ts) (UM f ds):=⟨fun D h k=>is.go D h fun xs aK H1 W1 D1 s1 v1 h1=>by
 show sp (xs++[]) H1 _ E;rw[ab0];exact ir.go D1 v1 h1 (k.mono s1)⟩
end
def W0:Wd:=fun _=>none
def lH:Hp->Addr->Addr->Nat->Prop:=fun _ _ _ _=>False
def wV:Addr->Prop:=fun _=>False
def cz(N:wv)(ds:List DV):bR:=ds.map some++List.replicate (N.length - ds.length) none
def G8(W:Wd)(R:Res->Prop):DV->Prop
 | .im d=>R (.im d)
 | .pt p=>∃ vs ds W2,W p=some (.lst vs)/\gQ (jV 3) W vs=some (ds,W2)/\(W2 p).isSome=true/\R (.nw ds)
 | _=>False
def Mt(R:Res->Prop):gG:=⟨fun _ _=>R (.im .none),fun dv W=>G8 W R dv,fun _ _=>False,fun _ _=>False⟩
theorem Slots.none:∀ n:Nat,Slots C F (List.replicate n Option.none) (List.replicate n Option.none)
 | 0=>trivial
 | n+1=>Slots.none n
theorem Slots.start:∀{aK:List DV} {vs:List V} (n:Nat),aM C F aK vs->Slots C F (aK.map some++List.replicate n Option.none) (vs.map some++List.replicate n Option.none)
 | [],_,n,h=>by cases h;exact Slots.none n
 | d::r,_,n,⟨y,ys,e,h,hr⟩=>by subst e;exact⟨h,Slots.start n hr⟩
theorem Mv{R:Res->Prop}{x:V}(D:DR C σ H' ρ W)(hT:∀ p,C.H0 p=none\/C.T p->W p=none\/C.H0 p=none)(v:dH C (Fz C W H') dv x)(h:G8 W R dv):∃ r,R r/\yU C.O C.H0 H' r x:=by
 cases dv with
 | im d=>exact⟨.im d,h,Rep.same (fun a o e=>by obtain⟨h1,h2⟩:=aC.mp e;exact aC.mpr ⟨fun z=>h1 (.inl z),h2⟩) v⟩
 | pt p =>
  obtain⟨vs,ds,W2,e,ef,hs,hr⟩:=h;obtain⟨h0,hO,xs,hx,rx⟩:=D.ce p _ e;have ZC:C.H0 p=none:=by
   rcases hT p h0 with z | z
   ·rw[e]at z;cases z
   ·exact z
  obtain⟨D2,s2,r2,_⟩:=gX (j7 3) D rx ef;refine⟨.nw ds,hr,p,xs,v,ZC,hx,az.same (fun a o q=>?_) r2⟩;obtain⟨g1,g2⟩:=aC.mp q;refine aC.mpr ⟨fun z=>?_,g2⟩;rcases z with z | z
  ·exact g1 (.inl z)
  ·subst z;exact g1 (.inr hs)
 | _=>exact h.elim
section
variable {K:zn}{k:Nat}{Sd:ll}
theorem yW{vs:List V}{Q:VK}{t:TS}(h:eZ Sd vs H Q E)(hb:∀ O X,∃ d,LS ⟨K,lH,H,wV,O,E,X⟩ t d/\∀ ds R,Sd ds R X->d (Mt R) (cz N (ds.map .im)) W0):t { nx:=fun _ H'=>Q .dj H',rt:=Q } (start N vs) H:=by
 obtain⟨O,ds,R,X,hO,hr,hS,hR,hX⟩:=h;obtain⟨d,hd,hb⟩:=hb O X;have fz:∀ H1,Fz ⟨K,lH,H,wV,O,E,X⟩ W0 H1=hide O H1:=fun H1=>by
  funext a;unfold Fz hide
  by_cases ha:O a
  ·rw[aaE ha,aaE (.inl ha)]
  ·rw[aaA ha,aaA (by rintro(z | z);exact ha z;cases z)]
 have D:DR ⟨K,lH,H,wV,O,E,X⟩ (start N vs) H (cz N (ds.map .im)) W0:=by
  refine⟨⟨fun z=>z.elim,fun z=>z.elim,fun c hc H' hf=>hX c H' hc fun a o e=>hf a o e (fun z=>z)⟩,fun a o e _=>e,hO,fun a z=>z.elim,?_,fun p c e=>by cases e⟩;rw[fz H];have va:aM ⟨K,lH,H,wV,O,E,X⟩ (hide O H) (ds.map .im) vs:=aM.gD hr;unfold start cz;rw[va.length];exact Slots.start _ va
 refine hd.go D (hb ds R hS) ⟨fun bG H' cC W' D' s q=>?_,fun bG H' cC W' D' s q=>q.elim,fun bG H' cC W' D' s q=>q.elim,fun x dv bG H' cC W' D' s v q=>?_⟩
 ·exact hR (.im .none) .dj H' q (fun a o e=>D'.fr a o e (fun z=>z)) rfl
 ·obtain⟨r,hr,hv⟩:=Mv D' (fun p z=>z.elim .inr fun z=>z.elim) v q;exact hR r x H' hr (fun a o e=>D'.fr a o e (fun z=>z)) hv
theorem yX(hlen:∀ ds R X,Sd ds R X->ds.length=ps.length):∀ vs H Q E,eZ Sd vs H Q E->vs.length=ps.length:=fun vs H Q E zz=>by obtain⟨O,ds,R,X,_,hr,hS,_⟩:=zz; rw[<- hr.length];exact hlen ds R X hS
theorem cM.sS(F:cM K x qual st f fd)(S:aB N ps (defScope st))(hlen:∀ ds R X,Sd ds R X->ds.length=ps.length)(dJ:∀(bz:Value) (A:tx) (outer:List Env) (s:Shared) (H:Hp) (E:XK),cT k (A.deeper (envOfC qual (defScope st) s.heap.objs.size f bz)) ->
   ∃ t,sR (gf cU P w K mg base N qual (defScope st) f bz A outer s H E).zQ (defBody st) t/\∀ O X,∃ d,LS ⟨K,lH,H,wV,O,E,X⟩ t d/\∀ ds R,Sd ds R X->d (Mt R) (cz N (ds.map .im)) W0):ba P w K mg base cU (k+1) f fd ps (eZ Sd) :=
 F.LY S (yX hlen) fun bz A outer s H vs Q E hr h=>by
  obtain⟨t,h1,h2⟩:=dJ bz A outer s H E hr;exact⟨t,h1,yW h h2⟩
theorem cM.QF(F:cM K x qual st f fd)(S:aB N ps (defScope st))(hlen:∀ ds R X,Sd ds R X->ds.length=ps.length)(dJ:∀(bz:Value) (A:tx) (outer:List Env) (s:Shared) (H:Hp) (E:XK),cT k (A.deeper (envOfC qual (defScope st) s.heap.objs.size f bz)) ->
   ∃ t,sR (gf (vC P w) P w K mg base N qual (defScope st) f bz A outer s H E) (defBody st) t/\∀ O X,∃ d,LS ⟨K,lH,H,wV,O,E,X⟩ t d/\∀ ds R,Sd ds R X->d (Mt R) (cz N (ds.map .im)) W0):ba P w K mg base (vC P w) (k+1) f fd ps (eZ Sd) :=
 F.Zu S (yX hlen) fun bz A outer s H vs Q E hr h=>by
  obtain⟨t,h1,h2⟩:=dJ bz A outer s H E hr;exact⟨t,h1,yW h h2⟩
end
def yY(f:Wd->DV->Option (PyData×Wd)):Prop:=∀{W W':Wd} {dv:DV} {d:PyData},f W dv=some (d,W')->∀ a,eT (W a)->W' a=W a
theorem jG{f:Wd->DV->Option (PyData×Wd)}(hf:yY f):∀{aK:List DV} {W W':Wd} {ds:wE},gQ f W aK=some (ds,W')->∀ a,eT (W a)->W' a=W a
 | [],W,_,_,e,a,_=>by cases e;rfl
 | d::r,W,W',ds,e,a,ht=>by
  unfold gQ at e;cases q:f W d with
  | none=>rw[q]at e;cases e
  | some dw =>
   obtain⟨d',W1⟩:=dw;rw[q]at e;cases q2:gQ f W1 r with
   | none=>simp[q2]at e
   | some UG =>
    obtain⟨Bu,W2⟩:=UG;simp[q2]at e;obtain⟨e3,e4⟩:=e;subst e3 e4;have h1:=hf q a ht;rw[jG hf q2 a (by rw[h1];exact ht),h1]
theorem oi:∀ n:Nat,yY (jV n)
 | n,W,W',.im d',d,e,a,ht=>by
  have e':(d',W)=(d,W'):=by cases n<;>exact aaV e
  cases e';rfl
 | 0,_,_,.pt p,_,e,_,_=>by cases e
 | n+1,W,W',.pt p,d,e,a,ht=>by
  unfold jV at e;cases q:W p with
  | none=>rw[q]at e;cases e
  | some c =>
   rw[q]at e;cases c with
   | lst ys =>
    cases q2:gQ (jV n) (j6 W p) ys with
    | none=>simp[q2]at e
    | some dw =>
     obtain⟨ds,W1⟩:=dw;simp[q2]at e;obtain⟨e3,e4⟩:=e;subst e3 e4;have ap:a≠p:=fun z=>by rw[z,q]at ht;exact ht
     rw[jG (oi n) q2 a (by rw[iP ap];exact ht),iP ap]
   | aI _ _=>cases e
   | part=>cases e
   | dk _=>cases e
   | dt _=>cases e
   | ob _ _ _=>cases e
 | 0,_,_,.cst _,_,e,_,_=>by cases e
 | n+1,_,_,.cst _,_,e,_,_=>by cases e
 | 0,_,_,.rf _,_,e,_,_=>by cases e
 | n+1,_,_,.rf _,_,e,_,_=>by cases e
 | 0,_,_,.ty _,_,e,_,_=>by cases e
 | n+1,_,_,.ty _,_,e,_,_=>by cases e
 | 0,_,_,.vD _,_,e,_,_=>by cases e
 | n+1,_,_,.vD _,_,e,_,_=>by cases e
 | 0,_,_,.raw _,_,e,_,_=>by cases e
 | n+1,_,_,.raw _,_,e,_,_=>by cases e
 | 0,_,_,.lE _,_,e,_,_=>by cases e
 | n+1,_,_,.lE _,_,e,_,_=>by cases e
 | 0,_,_,.tp _,_,e,_,_=>by cases e
 | n+1,_,_,.tp _,_,e,_,_=>by cases e
abbrev sT:=Nat->wE->(Res->Nat->Prop)->Prop
def spT(Rs:Hp->Addr->Addr->Nat->Prop)(S:sT):Sp:=fun vs H Q _=>∃(t g:Addr) (n:Nat) (AE:List V) (O:Addr->Prop) (ds:wE) (R:Res->Nat->Prop),vs=.ref t::AE/\Rs H t g n/\g≠t/\(∀ a,O a->H a≠none)/\¬ O t/\¬ O g /\
 az (hide (fun a=>O a\/a=t\/a=g) H) ds AE/\S n ds R/\∀ r n' v H',R r n'->Kp t g H H'->Rs H' t g n'->yU (fun a=>O a\/a=t\/a=g) H H' r v->Q v H'
def qa(S:sT):List DV->Wd->DK->Prop:=fun as W Q=>∃ t g n S0,as=.pt t::S0/\W t=some (.aI g n) /\
 ((∃ ds,fX (dat 4 W) S0=some ds/\S n ds fun r n'=>SY r=true/\j8 (aH W t (.aI g n')) Q r)\/∃ ds W1,gQ (jV 4) W S0=some (ds,W1)/\W1 t=some (.aI g n)/\S n ds fun r n'=>j8 (aH W1 t (.aI g n')) Q r)
section
variable {Q:VK}
theorem AI{b:Addr}{d:Cell}(h:a≠b):aH (aH W a c) b d=aH (aH W b d) a c:=by
 funext z;unfold aH
 by_cases h1:z=b
 ·subst h1;rw[aaE rfl,aaA (acf h),aaE rfl]
 ·rw[aaA h1];by_cases h2:z=a
  ·rw[aaE h2,aaE h2]
  ·rw[aaA h2,aaA h2,aaA h1]
theorem DR.JH{t:Addr}{n':Nat}{aK:List DV}(D:DR C σ H ρ W)(e:W t=some (.aI g n))(k:Kp t g H H')(r:C.Rs H' t g n')(hp:H p=none)(uj:H' p=some (.lst xs))(rx:aM C (Fz C (aH (aH W t (.aI g n')) p (.lst aK)) H') aK xs):DR C σ H' ρ (aH (aH W t (.aI g n')) p (.lst aK))/\aT (Fz C W H) (Fz C (aH (aH W t (.aI g n')) p (.lst aK)) H'):=by
 obtain⟨_,eg,uq⟩:=(D.ce t _ e).2.2;have pt:p≠t:=fun z=>D.there e (by rw[<- z];exact hp);have pg:p≠g:=fun z=>D.there eg (by rw[<- z];exact hp);have gt:g≠t:=fun z=>by rw[z,e]at eg;cases eg
 obtain⟨D1,s1⟩:=D.kp e k r;have keep:∀ a,a≠t->a≠g->H a≠none->H' a=H a:=fun a h1 h2 h=>by
  cases q:H a with
  | none=>exact absurd q h
  | some o=>exact k a o q h1 h2
 refine D.step (fun a z=>?_) (fun a u q w'=>?_) (fun a ha=>?_) fun s q c e'=>?_
 ·by_cases hq:a=p
  ·exact .inr (by rw[hq];exact hp)
  ·rw[aE hq]at z
   by_cases hq:a=t
   ·exact .inl (by rw[hq,e];rfl)
   ·rw[aE hq]at z;exact .inl z
 ·exact k a u q (fun z=>by rw[z,e]at w';cases w') (fun z=>by rw[z,eg]at w';cases w')
 ·by_cases h1:a=t
  ·rw[h1];exact(D.ok.rn r).1.ne
  by_cases h2:a=g
  ·rw[h2];exact(D.ok.rn r).2.ne
  rw[keep a h1 h2 ha];exact ha
 ·by_cases hq:q=p
  ·subst hq;rw[au]at e';cases e';exact⟨.inl (D.Jv hp),D.nO hp,xs,uj,rx⟩
  ·rw[aE hq]at e'
   by_cases JI:q=t
   ·subst JI;rw[au]at e';cases e';refine⟨(D.ce q _ e).1,(D.ce q _ e).2.1,r,by rw[aE (acf pg),aE gt];exact eg,fun t' g' m z=>?_⟩
    by_cases ht:t'=p
    ·subst ht;rw[au]at z;cases z
    ·rw[aE ht]at z
     by_cases ht:t'=q
     ·exact ht
     ·rw[aE ht]at z;exact uq t' g' m z
   ·rw[aE JI]at e';obtain⟨FJ,h2,h3⟩:=D.ce q c e';refine⟨FJ,h2,?_⟩
    by_cases AA:q=g
    ·subst AA;rw[eg]at e';cases e';exact(D.ok.rn r).2
    ·cases c with
     | aI g2 n2=>exact absurd (uq q g2 n2 e') JI
     | part=>show Mu (H' q);rw[keep q JI AA (D.there e')];exact h3
     | lst ds=>obtain⟨xs,z,rr⟩:=h3;exact⟨xs,k q _ z JI AA,rr.mono s⟩
     | dk ds=>obtain⟨xs,z,kk,rr⟩:=h3;exact⟨xs,k q _ z JI AA,kk,rr.mono s⟩
     | dt ds=>obtain⟨xs,z,kk,rr⟩:=h3;exact⟨xs,k q _ z JI AA,kk,rr.mono s⟩
     | ob _ _ ds=>obtain⟨xs,z,kk,rr⟩:=h3;exact⟨xs,k q _ z JI AA,kk,rr.mono s⟩
theorem G9{S:sT}(D:DR C σ H ρ W)(h:aM C (Fz C W H) as xs)(hd:qa S as W Qd)(k:KE C σ ρ W H Qd Q):spT C.Rs S xs H Q E:=by
 obtain⟨t,g,n,S0,rfl,et,hd⟩:=hd;obtain⟨y,ys,rfl,hy,XD⟩:=h;cases hy;have main:∀(W:Wd) (O:Addr->Prop) (ds:wE) (R:Res->Nat->Prop),DR C σ H ρ W->W t=some (.aI g n)->(∀ a,O a->H a≠none)->¬ O t->¬ O g->az (hide (fun a=>O a\/a=t\/a=g) H) ds ys->S n ds R ->
   (∀ r n' v H',R r n'->Kp t g H H'->C.Rs H' t g n'->yU (fun a=>O a\/a=t\/a=g) H H' r v->Q v H')->spT C.Rs S (.ref t::ys) H Q E:=fun W O ds R D et ho h1 h2 hr hS hR=>by
  obtain⟨_,nO,wW,eg,uq⟩:=D.ce t _ et;have gt:g≠t:=fun z=>by rw[z,et]at eg;cases eg
  exact⟨t,g,n,ys,O,ds,R,rfl,wW,gt,ho,h1,h2,hr,hS,hR⟩
 have small:∀(W:Wd),DR C σ H ρ W->W t=some (.aI g n)->∀ H1:Hp,aT (hide (fun a=>C.O a\/eT (W a)) H1) (hide (fun a=>C.O a\/a=t\/a=g) H1):=fun W D et H1 a o e=>by
  obtain⟨_,eg,_⟩:=(D.ce t _ et).2.2;obtain⟨h1,h2⟩:=aC.mp e;refine aC.mpr ⟨fun z=>h1 ?_,h2⟩;rcases z with z | z | z
  ·exact .inl z
  ·exact .inr (by rw[z,et];trivial)
  ·exact .inr (by rw[z,eg];trivial)
 rcases hd with⟨ds,e,hS⟩ | ⟨ds,W1,e,JJ,hS⟩
 ·obtain⟨_,nO,ZD,ZE,_⟩:=D.ce t _ et;refine main W C.O ds _ D et D.ho nO (D.ce g _ ZE).2.1 (az.same (small W D et H) (gE (fun dv x d h e=>D.dat 4 h e) XD e)) hS fun r n' v H' hr kp wW hv=>?_;obtain⟨D1,s1⟩:=D.kp et kp wW;cases r with
  | im d=>exact k _ (.im d) _ _ D1 s1 (Rep.tp (D1.tp fun a ha=>.inl ha) hr.1 hv) hr.2
  | nw es =>
   obtain⟨p,zs,rfl,hp,uj,rr⟩:=hv;have base:az (Fz C (aH W t (.aI g n')) H') es zs:=az.tp (D1.tp fun a ha=>.inl (.inl ha)) hr.1 rr;have C7:Tp (Fz C (aH W t (.aI g n')) H') (Fz C (aH (aH W t (.aI g n')) p (.lst (es.map .im))) H'):=fun b zs e=>by
    obtain⟨h1,h2⟩:=aC.mp e;have nb:b≠p:=fun z=>by rw[z,uj]at h2;cases h2
    refine aC.mpr ⟨fun z=>h1 (z.elim .inl fun z=>.inr ?_),h2⟩;rw[aE nb]at z;exact z
   have QG:aH W t (.aI g n') p=none:=by rw[aE (fun z=>D.there et (by rw[<- z];exact hp))];exact D.fresh hp
   rcases hr.2 with h2 | h2
   ·obtain⟨D2,s2⟩:=D.JH et kp wW hp uj (.gD (az.tp C7 hr.1 base));exact k _ (.pt p) _ _ D2 s2 rfl (h2 p QG)
   ·exact k _ (.im (.list es)) _ _ D1 s1 ⟨p,zs,rfl,aC.mpr ⟨(fun z=>z.elim (D.nO hp) (fun z=>by rw[QG]at z;cases z)),uj⟩,base⟩ h2
 ·obtain⟨D1,s1,r1,k1⟩:=gX (j7 4) D XD e;obtain⟨_,_,_,eg,_⟩:=D1.ce t _ JJ;have sub:∀ H1:Hp,aT (Fz C W1 H1) (hide (fun a=>(C.O a\/((W1 a).isSome=true/\a≠t/\a≠g))\/a=t\/a=g) H1):=fun H1 a o e=>by
   obtain⟨h1,h2⟩:=aC.mp e;refine aC.mpr ⟨fun z=>h1 ?_,h2⟩;rcases z with(z | z) | z | z
   ·exact .inl z
   ·exact .inr z.1
   ·exact .inr (by rw[z,JJ];rfl)
   ·exact .inr (by rw[z,eg];rfl)
  refine main W1 (fun a=>C.O a\/((W1 a).isSome=true/\a≠t/\a≠g)) ds _ D1 JJ (fun a ha=>?_) (fun z=>?_) (fun z=>?_) (az.same (sub H) r1) hS fun r n' v H' hr kp wW hv=>?_
  ·rcases ha with ha | ⟨ha,_⟩
   ·exact D1.ho a ha
   ·cases q:W1 a with
    | none=>rw[q]at ha;cases ha
    | some c=>exact D1.there q
  ·rcases z with z | z
   ·exact(D1.ce t _ JJ).2.1 z
   ·exact z.2.1 rfl
  ·rcases z with z | z
   ·exact(D1.ce g _ eg).2.1 z
   ·exact z.2.2 rfl
  ·obtain⟨D2,s2⟩:=D1.kp JJ kp wW;have sup:∀ W2:Wd,(∀ a,(W2 a).isSome=true->(W1 a).isSome=true)->aT (hide (fun a=>(C.O a\/((W1 a).isSome=true/\a≠t/\a≠g))\/a=t\/a=g) H') (Fz C W2 H'):=fun W2 hw a o e=>by
    obtain⟨h1,h2⟩:=aC.mp e;refine aC.mpr ⟨fun z=>h1 ?_,h2⟩;rcases z with z | z
    ·exact .inl (.inl z)
    ·by_cases ht:a=t
     ·exact .inr (.inl ht)
     by_cases hg:a=g
     ·exact .inr (.inr hg)
     exact .inl (.inr ⟨hw a z,ht,hg⟩)
   have hw:∀ a,(aH W1 t (.aI g n') a).isSome=true->(W1 a).isSome=true:=fun a z=>by
    by_cases ht:a=t
    ·rw[ht,JJ];rfl
    ·rw[aE ht]at z;exact z
   cases r with
   | im d=>exact k _ (.im d) _ _ D2 (s1.trans s2) (Rep.same (sup _ hw) hv) hr
   | nw es =>
    obtain⟨p,zs,rfl,hp,uj,rr⟩:=hv;have UQ:aT (hide (fun a=>((C.O a\/((W1 a).isSome=true/\a≠t/\a≠g))\/a=t\/a=g)\/a=p) H') (Fz C (aH (aH W1 t (.aI g n')) p (.lst (es.map .im))) H'):=fun a o e=>by
     obtain⟨h1,h2⟩:=aC.mp e;refine aC.mpr ⟨fun z=>h1 ?_,h2⟩;rcases z with z | z
     ·exact .inl (.inl (.inl z))
     ·by_cases ha:a=p
      ·exact .inr ha
      ·rw[aE ha]at z
       by_cases ht:a=t
       ·exact .inl (.inr (.inl ht))
       by_cases hg:a=g
       ·exact .inl (.inr (.inr hg))
       exact .inl (.inl (.inr ⟨hw a z,ht,hg⟩))
    have QG:aH W1 t (.aI g n') p=none:=by rw[aE (fun z=>D1.there JJ (by rw[<- z];exact hp))];exact D1.fresh hp
    rcases hr with h2 | h2
    ·obtain⟨D3,s3⟩:=D1.JH JJ kp wW hp uj (.gD (az.same UQ rr));exact k _ (.pt p) _ _ D3 (s1.trans s3) rfl (h2 p QG)
    ·refine k _ (.im (.list es)) _ _ D2 (s1.trans s2) ⟨p,zs,rfl,aC.mpr ⟨(fun z=>z.elim (D1.nO hp) (fun z=>by rw[QG]at z;cases z)),uj⟩,az.same (fun a o e=>?_) rr⟩ h2;obtain⟨g1,g2⟩:=aC.mp e;exact sup _ hw a o (aC.mpr ⟨fun z=>g1 (.inl z),g2⟩)
instance {Rs:Hp->Addr->Addr->Nat->Prop}[hs:GY C Rs]{S:sT}{E:XK}:G7 C (spT Rs S) E (qa S):=by
 obtain⟨rfl⟩:=hs;exact⟨fun D h hd k=>G9 D h hd k⟩
noncomputable def WT(t g:Addr)(n:Nat):Wd:=aH (aH W0 g .part) t (.aI g n)
def Mw(t g:Addr)(R:Res->Nat->Prop):gG:=⟨fun _ W=>∃ n,W t=some (.aI g n)/\R (.im .none) n,fun dv W=>∃ n,W t=some (.aI g n)/\G8 W (fun r=>R r n) dv,fun _ _=>False,fun _ _=>False⟩
end
structure wX(Rs:Hp->Addr->Addr->Nat->Prop):Prop where
 rs:∀{H H':Hp} {t g:Addr} {n:Nat},Rs H t g n->H' t=H t->H' g=H g->Rs H' t g n
 rn:∀{H:Hp} {t g:Addr} {n:Nat},Rs H t g n->Mu (H t)/\Mu (H g)
section
variable {K:zn}{k:Nat}{Sd:sT}{Rs:Hp->Addr->Addr->Nat->Prop}
theorem C8{vs:List V}{Q:VK}{t:TS}(ok:wX Rs)(h:spT Rs Sd vs H Q E)(hb:∀ a g O,∃ d,LS ⟨K,Rs,H,fun z=>z=a\/z=g,O,E,fun _=>False⟩ t d/\∀ n ds R,Sd n ds R->d (Mw a g R) (cz N (.pt a::ds.map .im)) (WT a g n)):t { nx:=fun _ H'=>Q .dj H',rt:=Q } (start N vs) H:=by
 obtain⟨a,g,n,AE,O,ds,R,rfl,wW,gt,hO,nt,ng,hr,hS,hR⟩:=h;obtain⟨d,hd,hb⟩:=hb a g O;have Wg:WT a g n g=some .part:=by unfold WT;rw[aE gt];exact au
 have Wa:WT a g n a=some (.aI g n):=au;have Wz:∀ z c,WT a g n z=some c->z=a\/z=g:=fun z c e=>by
  unfold WT at e
  by_cases h1:z=a
  ·exact .inl h1
  ·rw[aE h1]at e
   by_cases h2:z=g
   ·exact .inr h2
   ·rw[aE h2]at e;cases e
 have fz:∀ H1,aT (hide (fun z=>O z\/z=a\/z=g) H1) (Fz ⟨K,Rs,H,fun z=>z=a\/z=g,O,E,fun _=>False⟩ (WT a g n) H1):=fun H1 b o e=>by
  obtain⟨h1,h2⟩:=aC.mp e;refine aC.mpr ⟨fun z=>h1 ?_,h2⟩;rcases z with z | z
  ·exact .inl z
  ·cases q:WT a g n b with
   | none=>rw[q]at z;cases z
   | some c=>exact .inr (Wz b c q)
 have D:DR ⟨K,Rs,H,fun z=>z=a\/z=g,O,E,fun _=>False⟩ (start N (.ref a::AE)) H (cz N (.pt a::ds.map .im)) (WT a g n):=by
  refine⟨⟨ok.rs,ok.rn,fun c hc=>hc.elim⟩,fun b o e _=>e,hO,fun b z=>?_,?_,fun p c e=>?_⟩
  ·rcases z with z | z
   ·rw[z];exact(ok.rn wW).1.ne
   ·rw[z];exact(ok.rn wW).2.ne
  ·have va:aM ⟨K,Rs,H,fun z=>z=a\/z=g,O,E,fun _=>False⟩ (Fz ⟨K,Rs,H,fun z=>z=a\/z=g,O,E,fun _=>False⟩ (WT a g n) H) (.pt a::ds.map .im) (.ref a::AE):=⟨_,_,rfl,rfl,(aM.gD hr).mono (fz H)⟩;unfold start cz;rw[va.length];exact Slots.start _ va
  ·rcases Wz p c e with z | z
   ·subst z;rw[Wa]at e;cases e;refine⟨.inr (.inl rfl),nt,wW,Wg,fun t' g' n' z=>?_⟩;rcases Wz t' _ z with q | q
    ·exact q
    ·rw[q,Wg]at z;cases z
   ·subst z;rw[Wg]at e;cases e;exact⟨.inr (.inr rfl),ng,(ok.rn wW).2⟩
 have fin:∀ bG H' cC W' n',DR ⟨K,Rs,H,fun z=>z=a\/z=g,O,E,fun _=>False⟩ bG H' cC W'->W' a=some (.aI g n')->Kp a g H H'/\Rs H' a g n':=fun bG H' cC W' n' D' e =>
  ⟨fun b o q h1 h2=>D'.fr b o q (fun z=>z.elim h1 h2),(D'.ce a _ e).2.2.1⟩
 refine hd.go D (hb n ds R hS) ⟨fun bG H' cC W' D' s q=>?_,fun bG H' cC W' D' s q=>q.elim,fun bG H' cC W' D' s q=>q.elim,fun x dv bG H' cC W' D' s v q=>?_⟩
 ·obtain⟨n',e,q⟩:=q;obtain⟨h1,h2⟩:=fin bG H' cC W' n' D' e;exact hR (.im .none) n' .dj H' q h1 h2 rfl
 ·obtain⟨n',e,q⟩:=q;obtain⟨h1,h2⟩:=fin bG H' cC W' n' D' e;have S1:W' g=some .part:=(D'.ce a _ e).2.2.2.1;cases dv with
  | im d =>
   refine hR (.im d) n' x H' q h1 h2 (Rep.same (fun b o e2=>?_) v);obtain⟨g1,g2⟩:=aC.mp e2;refine aC.mpr ⟨fun z=>g1 ?_,g2⟩;rcases z with z | z | z
   ·exact .inl z
   ·exact .inr (by rw[z,e];rfl)
   ·exact .inr (by rw[z,S1];rfl)
  | pt p =>
   obtain⟨us,es,W2,e1,ef,hs,Mx⟩:=q;obtain⟨h0,hO2,xs,hx,rx⟩:=D'.ce p _ e1;have pa:p≠a:=fun z=>by rw[z,e]at e1;cases e1
   have pg:p≠g:=fun z=>by rw[z,S1]at e1;cases e1
   obtain⟨D2,s2,r2,_⟩:=gX (j7 3) D' rx ef;have XE:(W2 a).isSome=true/\(W2 g).isSome=true:=by
    have q1:=jG (oi 3) ef a (by rw[e];trivial);have q2:=jG (oi 3) ef g (by rw[S1];trivial);rw[q1,q2,e,S1];exact⟨rfl,rfl⟩
   refine hR (.nw es) n' x H' Mx h1 h2 ⟨p,xs,v,h0.elim id fun z=>z.elim (fun z=>absurd z pa) fun z=>absurd z pg,hx,az.same (fun b o q=>?_) r2⟩;obtain⟨g1,g2⟩:=aC.mp q;refine aC.mpr ⟨fun z=>g1 ?_,g2⟩;rcases z with(z | z | z) | z
   ·exact .inl z
   ·exact .inr (by rw[z];exact XE.1)
   ·exact .inr (by rw[z];exact XE.2)
   ·exact .inr (by rw[z];exact hs)
  | _=>exact q.elim
theorem yZ{m:Nat}(hm:ps.length=m+1)(hlen:∀ n ds R,Sd n ds R->ds.length=m):∀ vs H Q E,spT Rs Sd vs H Q E->vs.length=ps.length:=fun vs H Q E zz=>by obtain⟨t,g,n,AE,O,ds,R,e,_,_,_,_,_,hr,hS,_⟩:=zz; rw[e,aaR,<- hr.length,hlen n ds R hS,hm]
theorem cM.Ha(F:cM K x qual st f fd)(S:aB N ps (defScope st))(ok:wX Rs){m:Nat}(hm:ps.length=m+1)(hlen:∀ n ds R,Sd n ds R->ds.length=m)(dJ:∀(bz:Value) (A:tx) (outer:List Env) (s:Shared) (H:Hp) (E:XK),cT k (A.deeper (envOfC qual (defScope st) s.heap.objs.size f bz)) ->
   ∃ t,sR (gf cU P w K mg base N qual (defScope st) f bz A outer s H E).zQ (defBody st) t/\∀ a g O,∃ d,LS ⟨K,Rs,H,fun z=>z=a\/z=g,O,E,fun _=>False⟩ t d/\∀ n ds R,Sd n ds R->d (Mw a g R) (cz N (.pt a::ds.map .im)) (WT a g n)):ba P w K mg base cU (k+1) f fd ps (spT Rs Sd) :=
 F.LY S (yZ hm hlen) fun bz A outer s H vs Q E hr h=>by
  obtain⟨t,h1,h2⟩:=dJ bz A outer s H E hr;exact⟨t,h1,C8 ok h h2⟩
end
def C9(K:zn):Sp:=fun vs H Q _=>∃(a:Addr) (ns:wn),vs=[.ref a]/\gb K H a (ns.map V.int)/\ns.length<=63/\∀ H',Q (.bl true) H'
def UR:gG:=⟨fun _ _=>False,fun dv _=>dv=.im (.bool true),fun _ _=>False,fun _ _=>False⟩
section
variable {K:zn}{p:Str}{k:Nat}{Rs:Hp->Addr->Addr->Nat->Prop}
theorem US{X:Addr->Prop}{H1:Hp}{T:Addr->Prop}:Fz ⟨K,Rs,H,T,wV,E,X⟩ W0 H1=H1:=by
 funext a;unfold Fz hide;rw[aaA (by rintro(z | z);exact z;cases z)]
theorem qb(ok:wX Rs)(h:gb K H a (ns.map V.int)):DR ⟨K,Rs,H,wV,wV,E,fun _=>False⟩ (start N [.ref a]) H (cz N [.lE ns]) W0:=by
 refine⟨⟨ok.rs,ok.rn,fun c hc=>hc.elim⟩,fun a o e _=>e,fun a z=>z.elim,fun a z=>z.elim,?_,fun p c e=>by cases e⟩;rw[US];have va:aM ⟨K,Rs,H,wV,wV,E,fun _=>False⟩ H [.lE ns] [.ref a]:=⟨_,_,rfl,⟨a,rfl,h⟩,rfl⟩;unfold start cz;exact Slots.start _ va
theorem cM.QH(F:cM K x qual st f fd)(S:aB N [p] (defScope st))(ok:wX Rs)(dJ:∀(bz:Value) (A:tx) (outer:List Env) (s:Shared) (H:Hp) (E:XK),cT k (A.deeper (envOfC qual (defScope st) s.heap.objs.size f bz)) ->
   ∃ t,sR (gf cU P w K mg base N qual (defScope st) f bz A outer s H E).zQ (defBody st) t/\∃ d,LS ⟨K,Rs,H,wV,wV,E,fun _=>False⟩ t d/\∀ ns,ns.length<=63->d UR (cz N [.lE ns]) W0):ba P w K mg base cU (k+1) f fd [p] (C9 K) :=
 F.LY S (fun vs H Q E zz=>by obtain⟨a,ns,e,_⟩:=zz; rw[e];rfl) fun bz A outer s H vs Q E hr h=>by
  obtain⟨a,ns,rfl,hS,JK,q⟩:=h;obtain⟨t,h1,d,hd,hb⟩:=dJ bz A outer s H E hr;refine⟨t,h1,hd.go (qb ok hS) (hb ns JK) ⟨fun bG H' cC W' D' s q=>q.elim,fun bG H' cC W' D' s q=>q.elim,fun bG H' cC W' D' s q=>q.elim,fun x dv bG H' cC W' D' s v e=>?_⟩⟩;rw[show dv=.im (.bool true) from e]at v;rw[show x=.bl true from v];exact q H'
end
noncomputable def Hb:DV->Option V
 | .im (.int i)=>some (.int i)
 | .pt p=>some (.ref p)
 | _=>none
noncomputable def jk:List DV->Option (List V)
 | []=>some []
 | x::r=>(Hb x).bind fun v=>(jk r).map (v::·)
noncomputable def y0(H:Hp)(t:Addr):Cell->Prop
 | .lst aK=>∃ xs,jk aK=some xs/\H t=some (.lst xs)
 | .dk kvs=>∃ xs,jk (kvs.map (·.2))=some xs/\H t=some (.dK ((kvs.map (·.1)).zip xs))
 | _=>False
noncomputable def bg(Iv:Addr->Nat->Cell->wn->Prop):Hp->Addr->Addr->Nat->Prop:=fun H t g n=>∃ c gs,Iv g n c gs/\y0 H t c/\H g=some (.lst (gs.map V.int))
theorem bN{Iv:Addr->Nat->Cell->wn->Prop}:wX (bg Iv) where
 rs:=fun⟨c,gs,h1,h2,h3⟩ e1 e2=>by
  refine⟨c,gs,h1,?_,by rw[e2];exact h3⟩;cases c with
  | lst aK=>obtain⟨xs,a,b⟩:=h2;exact⟨xs,a,by rw[e1];exact b⟩
  | dk kvs=>obtain⟨xs,a,b⟩:=h2;exact⟨xs,a,by rw[e1];exact b⟩
  | _=>exact h2.elim
 rn:=fun⟨c,gs,h1,h2,h3⟩=>by
  refine⟨?_,_,h3,fun _ z=>nomatch z⟩;cases c with
  | lst aK=>obtain⟨xs,a,b⟩:=h2;exact⟨_,b,fun _ z=>nomatch z⟩
  | dk kvs=>obtain⟨xs,a,b⟩:=h2;exact⟨_,b,fun _ z=>nomatch z⟩
  | _=>exact h2.elim
theorem Hc{v:V}:∀{dv:DV},Hb dv=some v->dH C F dv v
 | .im (.int i),e=>by cases e;exact rfl
 | .pt p,e=>by cases e;exact rfl
 | .im .none,e=>by cases e
 | .im (.bool _),e=>by cases e
 | .im (.str _),e=>by cases e
 | .im (.list _),e=>by cases e
 | .im (.tuple _),e=>by cases e
 | .im (.dict _),e=>by cases e
 | .cst _,e=>by cases e
 | .rf _,e=>by cases e
 | .ty _,e=>by cases e
 | .vD _,e=>by cases e
 | .raw _,e=>by cases e
 | .lE _,e=>by cases e
 | .tp _,e=>by cases e
theorem oj:∀{aK:List DV} {xs:List V},jk aK=some xs->aM C F aK xs
 | [],_,e=>by cases e;exact rfl
 | d::r,xs,e=>by
  unfold jk at e;cases q:Hb d with
  | none=>rw[q]at e;cases e
  | some v =>
   rw[q]at e;cases q2:jk r with
   | none=>simp[q2]at e
   | some vs=>simp[q2]at e;subst e;exact⟨v,vs,rfl,Hc q,oj q2⟩
theorem lI:∀{aK:List DV} {xs ys:List V},jk aK=some xs->aM C F aK ys->ys=xs
 | [],_,_,e,h=>by cases e;exact h
 | d::r,xs,ys,e,⟨y,zs,e1,h,hr⟩=>by
  unfold jk at e;cases q:Hb d with
  | none=>rw[q]at e;cases e
  | some v =>
   rw[q]at e;cases q2:jk r with
   | none=>simp[q2]at e
   | some vs =>
    simp[q2]at e;subst e;rw[e1,lI q2 hr];have:y=v:=by
     cases d with
     | im dd=>cases dd with
      | int i=>cases q;exact h
      | _=>cases q
     | pt p=>cases q;exact h
     | _=>cases q
    rw[this]
noncomputable def Dc:Cell->Bool
 | .lst aK=>(jk aK).isSome
 | .dk kvs=>(jk (kvs.map (·.2))).isSome
 | _=>false
abbrev gr(gs:wn):List DV:=gs.map fun z=>.im (.int z)
theorem Dd{κ:Type}:∀{l:List (κ×V)} {ks:List κ} {xs:List V},l.map (·.1)=ks->l.map (·.2)=xs->l=ks.zip xs
 | [],_,_,e1,e2=>by subst e1 e2;rfl
 | (k,v)::r,_,_,e1,e2=>by subst e1 e2;rw[aaz,aaz,List.zip_cons_cons,<- Dd rfl rfl]
section
variable {Q:VK}
theorem bS.raw{t:Addr}(h:bS C W H t c)(hr:Dc c=true):y0 H t c:=by
 cases c with
 | lst aK =>
  obtain⟨xs,e,v⟩:=h;obtain⟨ys,hy⟩:=abn.mp hr;rw[lI hy v]at e;exact⟨ys,hy,e⟩
 | dk kvs =>
  obtain⟨ks,e,hk,v⟩:=h;obtain⟨ys,hy⟩:=abn.mp hr;refine⟨ys,hy,?_⟩;rw[e,Dd hk (lI hy v)]
 | _=>cases hr
theorem y0.cell{t:Addr}(h:y0 H t c):bS C W H t c:=by
 cases c with
 | lst aK=>obtain⟨xs,e1,e2⟩:=h;exact⟨xs,e2,oj e1⟩
 | dk kvs =>
  obtain⟨xs,e1,e2⟩:=h;have v:aM C (Fz C W H) (kvs.map (·.2)) xs:=oj e1;have hl:(kvs.map (·.1)).length=xs.length:=by rw[<- v.length,aak,aak]
  refine⟨_,e2,?_,?_⟩
  ·rw[List.map_fst_zip];omega
  ·rw[List.map_snd_zip];exact v;omega
 | _=>exact h.elim
theorem qc{gs:wn}(h:aM C F (gr gs) xs):xs=gs.map V.int:=by
 induction gs generalizing xs with
 | nil=>cases h;rfl
 | cons g r ih =>
  obtain⟨y,ys,e,h1,h2⟩:=h;rw[e,show y=.int g from h1,ih h2];rfl
theorem DR.My{t:Addr}(D:DR C σ H ρ W)(s:aT H H')(ht:H t=none)(hg:H g=none)(gt:g≠t)(r:C.Rs H' t g 0)(nt:∀ a,¬ eT (W a)):DR C σ H' ρ (aH (aH W g .part) t (.aI g 0))/\aT (Fz C W H) (Fz C (aH (aH W g .part) t (.aI g 0)) H'):=by
 refine D.step (fun a z=>?_) (fun a u e _=>s a u e) (rm s) fun s' q c' e=>?_
 ·by_cases h1:a=t
  ·exact .inr (by rw[h1];exact ht)
  by_cases h2:a=g
  ·exact .inr (by rw[h2];exact hg)
  rw[aE h1,aE h2]at z;exact .inl z
 ·have uq:∀ t' g' n',aH (aH W g .part) t (.aI g 0) t'=some (.aI g' n')->t'=t:=fun t' g' n' z=>by
   by_cases h1:t'=t
   ·exact h1
   rw[aE h1]at z
   by_cases h2:t'=g
   ·rw[h2,au]at z;cases z
   ·rw[aE h2]at z;exact absurd (by rw[z];trivial) (nt t')
  by_cases h1:q=t
  ·subst h1;rw[au]at e;cases e;exact⟨.inl (D.Jv ht),D.nO ht,r,by rw[aE gt];exact au,uq⟩
  rw[aE h1]at e
  by_cases h2:q=g
  ·subst h2;rw[au]at e;cases e;exact⟨.inl (D.Jv hg),D.nO hg,(D.ok.rn r).2⟩
  rw[aE h2]at e;obtain⟨g1,g2,g3⟩:=D.ce q c' e;refine⟨g1,g2,?_⟩;have hq:=gW s (D.there e);cases c' with
  | aI a b=>exact absurd (by rw[e];trivial) (nt q)
  | part=>exact absurd (by rw[e];trivial) (nt q)
  | lst ds=>obtain⟨xs,z,rr⟩:=g3;exact⟨xs,by rw[hq];exact z,rr.mono s'⟩
  | dk ds=>obtain⟨xs,z,kk,rr⟩:=g3;exact⟨xs,by rw[hq];exact z,kk,rr.mono s'⟩
  | dt ds=>obtain⟨xs,z,kk,rr⟩:=g3;exact⟨xs,by rw[hq];exact z,kk,rr.mono s'⟩
  | ob _ _ ds=>obtain⟨xs,z,kk,rr⟩:=g3;exact⟨xs,by rw[hq];exact z,kk,rr.mono s'⟩
def Hd(K:zn)(Rs:Hp->Addr->Addr->Nat->Prop):Sp:=fun vs H Q _=>∃(a:Addr) (ns:wn),vs=[.ref a]/\gb K H a (ns.map V.int)/\ns.length<=63/\∀(t g:Addr) (H':Hp),aT H H'->H t=none->H g=none->g≠t->Rs H' t g 0->Q (.ref t) H'
def ZF:List DV->Wd->DK->Prop:=fun as W Q=>∃ ns,as=[.lE ns]/\ns.length<=63/\(∀ a,¬ eT (W a))/\∀ t g,W t=none->W g=none->g≠t->Q (.pt t) (aH (aH W g .part) t (.aI g 0))
instance {K:zn}[hk:mD C K]{Rs:Hp->Addr->Addr->Nat->Prop}[hs:GY C Rs]{E:XK}:G7 C (Hd K Rs) E ZF:=by
 obtain⟨rfl⟩:=hk;obtain⟨rfl⟩:=hs;exact⟨fun D h hd k=>by
 obtain⟨ns,rfl,JK,nt,q⟩:=hd;obtain⟨x,rfl,hx⟩:=h.dX;obtain⟨a,rfl,ha⟩:=hx;exact⟨a,ns,rfl,Fz.sm.seq ha,JK,fun t g H' s ht hg gt r=>k.to (dv:=.pt t) (D.My s ht hg gt r nt) rfl (q t g (D.fresh ht) (D.fresh hg) gt)⟩⟩
end
noncomputable def ZG(Iv:Addr->Nat->Cell->wn->Prop):gG:=⟨fun _ _=>False,fun dv W=>∃ t g c gs,dv=.pt t/\W t=some c/\W g=some (.lst (gr gs))/\g≠t/\Iv g 0 c gs/\Dc c=true,fun _ _=>False,fun _ _=>False⟩
noncomputable def ZH(Iv:Addr->Nat->Cell->wn->Prop)(a g:Addr)(R:Res->Nat->Prop):gG:=⟨fun _ _=>False,fun dv W=>∃ n c gs i,dv=.im (.int i)/\W a=some c/\W g=some (.lst (gr gs))/\Iv g n c gs/\Dc c=true/\R (.im (.int i)) n,fun _ _=>False,fun _ _=>False⟩
def WO(a g:Addr)(c:Cell)(gs:wn):Wd:=aH (aH W0 g (.lst (gr gs))) a c
section
variable {K:zn}{p:Str}{k:Nat}{Iv:Addr->Nat->Cell->wn->Prop}{Sd:sT}
theorem cM.UT(F:cM K x qual st f fd)(S:aB N [p] (defScope st))(dJ:∀(bz:Value) (A:tx) (outer:List Env) (s:Shared) (H:Hp) (E:XK),cT k (A.deeper (envOfC qual (defScope st) s.heap.objs.size f bz)) ->
   ∃ t,sR (gf cU P w K mg base N qual (defScope st) f bz A outer s H E).zQ (defBody st) t/\∃ d,LS ⟨K,lH,H,wV,wV,E,fun _=>False⟩ t d/\∀ ns,ns.length<=63->d (ZG Iv) (cz N [.lE ns]) W0):ba P w K mg base cU (k+1) f fd [p] (Hd K (bg Iv)) :=
 F.LY S (fun vs H Q E zz=>by obtain⟨a,ns,e,_⟩:=zz; rw[e];rfl) fun bz A outer s H vs Q E hr h=>by
  obtain⟨a,ns,rfl,hS,JK,q⟩:=h;obtain⟨t,h1,d,hd,hb⟩:=dJ bz A outer s H E hr;refine⟨t,h1,hd.go (qb ⟨fun z=>z.elim,fun z=>z.elim⟩ hS) (hb ns JK) ⟨fun bG H' cC W' D' s q=>q.elim,fun bG H' cC W' D' s q=>q.elim,fun bG H' cC W' D' s q=>q.elim,fun x dv bG H' cC W' D' s v e=>?_⟩⟩;obtain⟨t,g,c,gs,rfl,e1,e2,gt,hI,hr⟩:=e;cases (show x=.ref t from v);obtain⟨z1,_,c1⟩:=D'.ce t c e1;obtain⟨z2,_,xs,c2,c3⟩:=D'.ce g _ e2;rw[qc c3]at c2;exact q t g H' (fun a o e=>D'.fr a o e (fun z=>z)) (z1.elim id fun z=>z.elim) (z2.elim id fun z=>z.elim) gt ⟨c,gs,hI,c1.raw hr,c2⟩
theorem cM.ZI(F:cM K x qual st f fd)(S:aB N ps (defScope st)){m:Nat}(hm:ps.length=m+1)(hlen:∀ n ds R,Sd n ds R->ds.length=m)(dJ:∀(bz:Value) (A:tx) (outer:List Env) (s:Shared) (H:Hp) (E:XK),cT k (A.deeper (envOfC qual (defScope st) s.heap.objs.size f bz)) ->
   ∃ t,sR (gf cU P w K mg base N qual (defScope st) f bz A outer s H E).zQ (defBody st) t/\∀ a g O,∃ d,LS ⟨K,lH,H,fun z=>z=a\/z=g,O,E,fun _=>False⟩ t d/\∀ n ds R c gs,g≠a->Iv g n c gs->Sd n ds R->d (ZH Iv a g R) (cz N (.pt a::ds.map .im)) (WO a g c gs)):ba P w K mg base cU (k+1) f fd ps (spT (bg Iv) Sd) :=
 F.LY S (yZ hm hlen) fun bz A outer s H vs Q E hr h=>by
  obtain⟨t,h1,hb⟩:=dJ bz A outer s H E hr;refine⟨t,h1,?_⟩;obtain⟨a,g,n,AE,O,ds,R,rfl,⟨c,gs,hI,hc,hg⟩,gt,hO,nt,ng,hr,hS,hR⟩:=h;obtain⟨d,hd,hb⟩:=hb a g O;have Wg:WO a g c gs g=some (.lst (gr gs)):=by unfold WO;rw[aE gt];exact au
  have Wa:WO a g c gs a=some c:=au;have Wz:∀ z c',WO a g c gs z=some c'->z=a\/z=g:=fun z c' e=>by
   unfold WO at e
   by_cases h1:z=a
   ·exact .inl h1
   ·rw[aE h1]at e
    by_cases h2:z=g
    ·exact .inr h2
    ·rw[aE h2]at e;cases e
  have ok:=bN (Iv:=Iv);have wW:bg Iv H a g n:=⟨c,gs,hI,hc,hg⟩;have fz:∀ H1,aT (hide (fun z=>O z\/z=a\/z=g) H1) (Fz ⟨K,lH,H,fun z=>z=a\/z=g,O,E,fun _=>False⟩ (WO a g c gs) H1):=fun H1 b o e=>by
   obtain⟨h1,h2⟩:=aC.mp e;refine aC.mpr ⟨fun z=>h1 ?_,h2⟩;rcases z with z | z
   ·exact .inl z
   ·cases q:WO a g c gs b with
    | none=>rw[q]at z;cases z
    | some c'=>exact .inr (Wz b c' q)
  have D:DR ⟨K,lH,H,fun z=>z=a\/z=g,O,E,fun _=>False⟩ (start N (.ref a::AE)) H (cz N (.pt a::ds.map .im)) (WO a g c gs):=by
   refine⟨⟨fun z=>z.elim,fun z=>z.elim,fun c hc=>hc.elim⟩,fun b o e _=>e,hO,fun b z=>?_,?_,fun p c' e=>?_⟩
   ·rcases z with z | z
    ·rw[z];exact(ok.rn wW).1.ne
    ·rw[z];exact(ok.rn wW).2.ne
   ·have va:aM ⟨K,lH,H,fun z=>z=a\/z=g,O,E,fun _=>False⟩ (Fz ⟨K,lH,H,fun z=>z=a\/z=g,O,E,fun _=>False⟩ (WO a g c gs) H) (.pt a::ds.map .im) (.ref a::AE):=⟨_,_,rfl,rfl,(aM.gD hr).mono (fz H)⟩;unfold start cz;rw[va.length];exact Slots.start _ va
   ·rcases Wz p c' e with z | z
    ·subst z;rw[Wa]at e;cases e;exact⟨.inr (.inl rfl),nt,hc.cell⟩
    ·subst z;rw[Wg]at e;cases e;exact⟨.inr (.inr rfl),ng,_,hg,jh gs⟩
  refine hd.go D (hb n ds R c gs gt hI hS) ⟨fun bG H' cC W' D' s q=>q.elim,fun bG H' cC W' D' s q=>q.elim,fun bG H' cC W' D' s q=>q.elim,fun x dv bG H' cC W' D' s v q=>?_⟩;obtain⟨n',c',FN,i,rfl,e1,e2,Mz,ZJ,q⟩:=q;obtain⟨_,_,c1⟩:=D'.ce a c' e1;obtain⟨_,_,xs,c2,c3⟩:=D'.ce g _ e2;rw[qc c3]at c2;cases (show x=.int i from v);exact hR (.im (.int i)) n' _ H' q (fun b o e h1 h2=>D'.fr b o e (fun z=>z.elim h1 h2)) ⟨c',FN,Mz,c1.raw ZJ,c2⟩ rfl
end
def Fr(t:Addr)(W W':Wd):Prop:=∀ a,a≠t->W' a=W a
theorem Fr.at{t:Addr}(h:Fr t W W')(hp:p≠t)(e:W p=some c):W' p=some c:=by rw[h p hp];exact e
theorem Dg{q:Addr}(h:W p=some c)(h':W q=none):p≠q:=fun z=>by rw[z,h']at h;cases h
section
variable {bk:bR->Wd->Prop}{rt:DK}{a:jP}{De:gG}{db dc:cV}{g:rB}{c d:mY}{i j:Nat}{u:DV}{f:pU}{B:Bool->Wd->Prop}{as:ml}{R:List DV->Wd->Prop}{gs:rC}{n:Int}{D:PyData}
theorem ar(h:a ⟨b ⟨nx,rt,bk,ct⟩,rt,bk,ct⟩ ρ W):jQ a b ⟨nx,rt,bk,ct⟩ ρ W:=h
theorem wY(h:nx ρ W):JE ⟨nx,rt,bk,ct⟩ ρ W:=h
theorem QI(h:da ρ W rt):QB da ⟨nx,rt,bk,ct⟩ ρ W:=h
theorem MA(h:da ρ W fun _ W1=>nx ρ W1):yT da ⟨nx,rt,bk,ct⟩ ρ W:=h
theorem QJ(h:da ρ W fun v W1=>g v ρ W1 nx):G5 da g ⟨nx,rt,bk,ct⟩ ρ W:=h
theorem QK(h:c ρ W fun k W1=>if k=true then a De ρ W1 else b De ρ W1):Mn c a b De ρ W:=h
theorem MB{r:jP}(h:G5 da g ⟨r ⟨nx,rt,bk,ct⟩,rt,bk,ct⟩ ρ W):jQ (G5 da g) r ⟨nx,rt,bk,ct⟩ ρ W:=h
theorem MC{r:jP}(h:yT da ⟨r ⟨nx,rt,bk,ct⟩,rt,bk,ct⟩ ρ W):jQ (yT da) r ⟨nx,rt,bk,ct⟩ ρ W:=h
theorem x_raise{P:Prop}(h:as ρ W fun vs _=>vs.length<=sizeLine/\P):C1 P as De ρ W:=h
theorem gh(N:bR->Wd->Prop)(h1:∀ k:bR->Wd->Prop,(∀ ρ W,N ρ W->k ρ W)->a ⟨k,rt,bk,ct⟩ ρ W)(h2:∀ ρ W,N ρ W->b ⟨nx,rt,bk,ct⟩ ρ W):jQ a b ⟨nx,rt,bk,ct⟩ ρ W:=h1 _ h2
theorem QL{w:FL}(h:w ρ W fun it W1=>pY it g b ⟨nx,rt,bk,ct⟩ ρ W1):QC w g b ⟨nx,rt,bk,ct⟩ ρ W:=h
theorem He(Pv:Nat->bR->Wd->Prop)(m:Nat)(h0:Pv m ρ W)(hs:∀ m ρ W,Pv m ρ W->c ρ W fun k W1=>if k=true then b ⟨fun cC W'=>∃ m',m' < m/\Pv m' cC W',rt,nx,fun cC W'=>∃ m',m' < m/\Pv m' cC W'⟩ ρ W1 else nx ρ W1):C3 c b ⟨nx,rt,bk,ct⟩ ρ W:=⟨Pv,⟨m,h0⟩,hs⟩
theorem UU(h:Qs (ρ.set i (some v)) W):Xy i v ρ W Qs:=h
theorem UW{o e:cV}(h:o ρ W fun a W1=>e ρ W1 fun b W2=>yS a b v W2 (Qs ρ)):XB o e v ρ W Qs:=h
theorem QM(e:ρ[i]?=some (some v))(h:Q v W):Ql i ρ W Q:=⟨v,e,h⟩
theorem ZK(h:Q v W):dC v ρ W Q:=h
theorem UX(h:da ρ W fun v W1=>db ρ W1 fun u W2=>f v u W2 Q):Xn f da db ρ W Q:=h
theorem UY{k:DV->Wd->DK->Prop}(h:da ρ W fun v W1=>k v W1 Q):Xo k da ρ W Q:=h
theorem UZ(h:da ρ W fun v W1=>∃ b,v=.im (.bool b)/\B b W1):UJ da ρ W B:=h
theorem U0{k:Bool}{P:Bool->Prop}(h:P k):∃ k',DV.im (.bool k)=.im (.bool k')/\P k':=⟨k,rfl,h⟩
theorem QN(h:c ρ W fun k W1=>if k=true then d ρ W1 B else B false W1):Qm c d ρ W B:=h
theorem U1(h:c ρ W fun k W1=>if k=true then B true W1 else d ρ W1 B):Xp c d ρ W B:=h
theorem QO(h:c ρ W fun k W1=>B (!k) W1):Qn c ρ W B:=h
theorem MD(h:da ρ W fun v W1=>∃ c,v=.im (.bool c)/\if c=true then db ρ W1 Q else Q (.im (.bool false)) W1):Jy da db ρ W Q:=h
theorem QP(h:da ρ W fun v W1=>∃ c,v=.im (.bool c)/\if c=true then Q (.im (.bool true)) W1 else db ρ W1 Q):Qp da db ρ W Q:=h
theorem ME(h:da ρ W fun v W1=>∃ c,v=.im (.bool c)/\Q (.im (.bool (!c))) W1):Jz da ρ W Q:=h
theorem U2(h:c ρ W fun k W1=>if k=true then da ρ W1 Q else db ρ W1 Q):Xq c da db ρ W Q:=h
theorem QQ(h:da ρ W fun v W1=>Q (.im (.bool (isNone v))) W1):Qq da ρ W Q:=h
theorem MF(h:da ρ W fun v W1=>Q (.im (.bool (!isNone v))) W1):JA da ρ W Q:=h
theorem Hf{f':pU}(h:da ρ W fun x W1=>db ρ W1 fun y W2=>f x y W2 fun z W3=>∃ k,z=.im (.bool k)/\if k=true then dc ρ W3 fun w W4=>f' y w W4 Q else Q (.im (.bool false)) W3):CT f f' da db dc ρ W Q:=h
theorem QR(h:R [] W):Qr ρ W R:=h
theorem MG(h:da ρ W fun v W1=>as ρ W1 fun vs W2=>R (v::vs) W2):JB da as ρ W R:=h
theorem U3{ks:List V}(h:ks.all eE=true/\R (ks.map FK) W):Xr ks ρ W R:=h
theorem QS(h:as ρ W fun vs W1=>mm vs W1 Q):Qt as ρ W Q:=h
theorem QT(h:as ρ W fun vs W1=>yM vs W1 Q):Qu as ρ W Q:=h
theorem U4{k:List DV->Wd->DK->Prop}(h:as ρ W fun vs W1=>k vs W1 Q):UM k as ρ W Q:=h
theorem U5{k:DV->List DV->Wd->DK->Prop}(h:da ρ W fun v W1=>wQ T v W1/\as ρ W1 fun vs W2=>k v vs W2 Q):Xv T k da as ρ W Q:=h
theorem U6{k:DV->v0->v0->Wd->DK->Prop}{l t:L9}(h:da ρ W fun v W1=>l ρ W1 fun lo W2=>t ρ W2 fun hi W3=>k v lo hi W3 Q):Xw k da l t ρ W Q:=h
theorem Dh{Qo:v0->Wd->Prop}(h:Qo none W):yR ρ W Qo:=h
theorem MH{Qo:v0->Wd->Prop}(h:da ρ W fun v W1=>∃ i,v=.im (.int i)/\Qo (some i) W1):JD da ρ W Qo:=h
theorem U7{P:Int->Prop}(h:P n):∃ i,DV.im (.int n)=.im (.int i)/\P i:=⟨n,rfl,h⟩
theorem MI{w:FL}{e:cV}{ix:List (Option Nat)}(h:w ρ W fun it W1=>uh it g c e (Az ix ρ) W1 Q):JF w g c e ix ρ W Q:=h
theorem QU(h:B true W):QD ρ W B:=h
theorem U8{h':Int->Int->PyData}(h:Q (.im (h' m n)) W):Xs h' (.im (.int m)) (.im (.int n)) W Q:=⟨m,n,rfl,rfl,h⟩
theorem XF{P:Int->Int->Prop}{h':Int->Int->PyData}(hp:P m n)(h:Q (.im (h' m n)) W):dI P h' (.im (.int m)) (.im (.int n)) W Q:=⟨m,n,rfl,rfl,hp,h⟩
theorem ZL{h':Int->PyData}(h:Q (.im (h' m)) W):dU h' (.im (.int m)) W Q:=⟨m,rfl,h⟩
theorem rE{i j:Int}:PyData.eqv (.int i) (.int j)=decide (i=j):=by show(i == j)=_;by_cases e:i=j<;>simp[e]
theorem kI{i j:Str}:PyData.eqv (.str i) (.str j)=decide (i=j):=by show(i == j)=_;by_cases e:i=j<;>simp[e]
theorem Di{i j:Bool}:PyData.eqv (.bool i) (.bool j)=decide (i=j):=by cases i<;>cases j<;>rfl
theorem QV(h:Q (.im (.bool (decide (m=n)))) W):CW (.im (.int m)) (.im (.int n)) W Q:=⟨_,_,rfl,rfl,.inr ⟨rfl,rfl,by show min 0 0<=64;decide⟩,by rw[rE];exact h⟩
theorem QW(h:Q (.im (.bool (!decide (m=n)))) W):AF (.im (.int m)) (.im (.int n)) W Q:=⟨_,_,rfl,rfl,.inr ⟨rfl,rfl,by show min 0 0<=64;decide⟩,by rw[rE];exact h⟩
theorem QX{s t:Str}(h:Q (.im (.bool (decide (s=t)))) W):CW (.im (.str s)) (.im (.str t)) W Q:=⟨_,_,rfl,rfl,.inl ⟨s,t,rfl,rfl⟩,by rw[kI];exact h⟩
theorem QY{s t:Str}(h:Q (.im (.bool (!decide (s=t)))) W):AF (.im (.str s)) (.im (.str t)) W Q:=⟨_,_,rfl,rfl,.inl ⟨s,t,rfl,rfl⟩,by rw[kI];exact h⟩
theorem QZ{s t:Bool}(h:Q (.im (.bool (!decide (s=t)))) W):AF (.im (.bool s)) (.im (.bool t)) W Q:=⟨_,_,rfl,rfl,.inr ⟨rfl,rfl,by show min 0 0<=64;decide⟩,by rw[Di];exact h⟩
theorem JL{d1 d2:PyData}(e1:dat 4 W v=some d1)(e2:dat 4 W u=some d2)(ok:Mh d1 d2)(h:Q (.im (.bool (!PyData.eqv d1 d2))) W):AF v u W Q:=⟨d1,d2,e1,e2,ok,h⟩
theorem JM{d1:PyData}(e1:dat 4 W v=some d1)(e2:dat 4 W u=some d1)(c:d1.canLay0=true)(hd:d1.depth<=64)(h:Q (.im (.bool true)) W):CW v u W Q:=⟨d1,d1,e1,e2,.inr ⟨c,c,by rw[Nat.min_self];exact hd⟩,by rw[PySem.SeqAt.eqv_refl d1 c];exact h⟩
theorem rF{α β:Type}{xs:List α}{f:α->β}{i:Int}{x:α}(h:iy xs i=some x):iy (xs.map f) i=some (f x):=by
 unfold iy at h ⊢;rw[aak];cases q:Ai xs.length i with
 | none=>rw[q]at h;cases h
 | some j=>rw[q]at h;show(xs.map f)[j]?=_;rw[aap,show xs[j]?=some x from h];rfl
theorem bC(e:iy ds n=some D)(h:Q (.im D) W):Mj (.im (.tuple ds)) (.im (.int n)) W Q:=⟨n,.im D,rfl,rF e,h⟩
theorem eW(e:iy ds n=some D)(h:Q (.im D) W):Mj (.im (.list ds)) (.im (.int n)) W Q:=⟨n,.im D,rfl,rF e,h⟩
theorem kJ(e:W p=some (.lst vs)):dS W (.pt p)=some vs:=by simp[dS,e]
theorem y6(e:W p=some (.lst vs)):iF W (.pt p)=some vs:=by unfold iF;rw[kJ e]
theorem eF(e:W p=some (.lst vs))(e2:iy vs n=some v)(h:Q v W):Mj (.pt p) (.im (.int n)) W Q:=⟨n,v,rfl,by
 show(iF W (.pt p)).bind _=_
 rw[y6 e]
 exact e2,h⟩
theorem MJ(h:Q (.im (.int ds.length)) W):G2 [.im (.list ds)] W Q:=⟨_,_,rfl,rfl,by rw[aak];exact h⟩
theorem MK(h:Q (.im (.int ds.length)) W):G2 [.im (.tuple ds)] W Q:=⟨_,_,rfl,rfl,by rw[aak];exact h⟩
theorem ML(e:W p=some (.lst vs))(h:Q (.im (.int vs.length)) W):G2 [.pt p] W Q:=⟨_,vs,rfl,y6 e,h⟩
theorem Q0(e:W p=some (.lst vs)):wQ "list" (.pt p) W:=.inl ⟨rfl,vs,kJ e⟩
theorem uk(e:W p=some (.lst vs))(hl:vs.length < sizeLine)(h:Q (.im .none) (aH W p (.lst (vs++[v])))):rA (.pt p) [v] W Q:=⟨p,vs,v,rfl,rfl,e,hl,h⟩
theorem aA(hl:ds.length<=sizeLine)(h:Q (.im (.tuple ds)) W):mm (ds.map .im) W Q:=⟨by rw[aak];exact hl,.inl ⟨ds,W,fg (fun _ _=>rfl) ds,h⟩⟩
theorem Dj{W2:Wd}(hl:vs.length<=sizeLine)(e:gQ (jV 3) W vs=some (ds,W2))(h:Q (.im (.tuple ds)) W2):mm vs W Q:=⟨hl,.inl ⟨ds,W2,e,h⟩⟩
theorem kK(h:∀ p W',W p=none->W' p=some (.lst vs)->Fr p W W'->Q (.pt p) W'):i5 vs W Q:=.inl fun p hp=>h p _ hp au fun a ha=>aE ha
theorem dB(h:Q (.im (.list ds)) W):i5 (ds.map .im) W Q:=.inr ⟨ds,rfl,h⟩
theorem gH(hl:vs.length<=sizeLine)(h:∀ p W',W p=none->W' p=some (.lst vs)->Fr p W W'->Q (.pt p) W'):yM vs W Q:=⟨hl,kK h⟩
theorem bT(hl:ds.length<=sizeLine)(h:Q (.im (.list ds)) W):yM (ds.map .im) W Q:=⟨by rw[aak];exact hl,dB h⟩
theorem MM(h:as ρ W fun vs W1=>Mp vs W1 B'):JG as ρ W B':=h
theorem U9(h1:-(2 ^ 62)<=m)(h2:m < 2 ^ 62)(h:B' ⟨(List.range m.toNat).map fun i=>.im (.int (0+(i:Nat))),fun _=>True⟩ W):Mp [.im (.int m)] W B':=⟨m,rfl,h1,h2,h⟩
theorem Hg(h:da ρ W fun v W1=>C4 v W1 B'):C5 da ρ W B':=h
theorem Q1(h:B' ⟨ds.map .im,fun _=>True⟩ W):C4 (.im (.list ds)) W B':=.inl ⟨ds,rfl,h⟩
theorem um(e:W p=some (.lst vs))(h:B' ⟨vs,fun W'=>W' p=some (.lst vs)⟩ W):C4 (.pt p) W B':=.inr (.inl ⟨p,vs,rfl,e,h⟩)
theorem Q2(h:B' ⟨ns.map fun n=>.im (.int n),fun _=>True⟩ W):C4 (.lE ns) W B':=.inr (.inr ⟨ns,rfl,h⟩)
theorem kL{lo:Int}{k:Nat}(Pv:Nat->bR->Wd->Prop)(h0:Pv 0 ρ W)(hs:∀ i ρ W,i < k->Pv i ρ W->g (.im (.int (lo+(i:Nat)))) ρ W fun jj W2=>b ⟨Pv (i+1),rt,nx,Pv (i+1)⟩ jj W2)(hd:∀ ρ W,Pv k ρ W->nx ρ W) :
  pY ⟨(List.range k).map fun i=>.im (.int (lo+(i:Nat))),fun _=>True⟩ g b ⟨nx,rt,bk,ct⟩ ρ W:=by
 refine⟨Pv,h0,fun _ _ _ _=>trivial,fun i v ρ W e p=>?_,fun ρ W p=>hd ρ W (by simpa using p)⟩
 by_cases hi:i < k
 ·have e:((List.range k).map fun i=>DV.im (.int (lo+(i:Nat))))[i]?=some v:=e;simp[hi]at e;subst e;exact hs i ρ W hi p
 ·have e:((List.range k).map fun i=>DV.im (.int (lo+(i:Nat))))[i]?=some v:=e;simp[hi]at e
theorem Hh(Pv:Nat->bR->Wd->Prop)(h0:Pv 0 ρ W)(hs:∀ i d ρ W,ds[i]?=some d->Pv i ρ W->g (.im d) ρ W fun jj W2=>b ⟨Pv (i+1),rt,nx,Pv (i+1)⟩ jj W2)(hd:∀ ρ W,Pv ds.length ρ W->nx ρ W) :
  pY ⟨ds.map .im,fun _=>True⟩ g b ⟨nx,rt,bk,ct⟩ ρ W:=by
 refine⟨Pv,h0,fun _ _ _ _=>trivial,fun i v ρ W e p=>?_,fun ρ W p=>hd ρ W (by simpa using p)⟩;rw[aap]at e;cases q:ds[i]? with
 | none=>rw[q]at e;cases e
 | some d=>rw[q]at e;cases e;exact hs i d ρ W q p
theorem nj{lo:Int}{k:Nat}{e:cV}(Pv:Nat->List DV->Wd->Prop)(hk:k<=sizeLine)(h0:Pv 0 [] W)(hs:∀ i ys W,i < k->ys.length<=i->Pv i ys W->g (.im (.int (lo+(i:Nat)))) ρ W fun jj W2=>c jj W2 fun b W3=>if b=true then e jj W3 fun y W4=>Pv (i+1) (ys++[y]) W4 else Pv (i+1) ys W3)(hd:∀ ys W,Pv k ys W->i5 ys W Q) :
  uh ⟨(List.range k).map fun i=>.im (.int (lo+(i:Nat))),fun _=>True⟩ g c e ρ W Q:=by
 refine⟨by simpa using hk,Pv,h0,fun _ _ _ _=>trivial,fun i v ys W e hl p=>?_,fun ys W q=>hd ys W (by simpa using q)⟩
 by_cases hi:i < k
 ·simp[hi]at e;subst e;exact hs i ys W hi hl p
 ·simp[hi]at e
theorem rG{e:cV}(Pv:Nat->List DV->Wd->Prop)(hk:ds.length<=sizeLine)(h0:Pv 0 [] W)(hs:∀ i d ys W,ds[i]?=some d->ys.length<=i->Pv i ys W->g (.im d) ρ W fun jj W2=>c jj W2 fun b W3=>if b=true then e jj W3 fun y W4=>Pv (i+1) (ys++[y]) W4 else Pv (i+1) ys W3)(hd:∀ ys W,Pv ds.length ys W->i5 ys W Q) :
  uh ⟨ds.map .im,fun _=>True⟩ g c e ρ W Q:=by
 refine⟨by simpa using hk,Pv,h0,fun _ _ _ _=>trivial,fun i v ys W e hl p=>?_,fun ys W q=>hd ys W (by simpa using q)⟩;rw[aap]at e;cases q:ds[i]? with
 | none=>rw[q]at e;cases e
 | some d=>rw[q]at e;cases e;exact hs i d ys W q hl p
theorem Hi{S:ll}{X:Addr->Prop}(e:fX (dat 4 W) vs=some ds)(h:S ds (fun r=>SY r=true/\j8 W Q r) X):ui S X vs W Q:=.inl ⟨ds,e,h⟩
theorem bh{S:ll}{X:Addr->Prop}(h:S ds (j8 W Q) X):ui S X (ds.map .im) W Q:=.inr ⟨ds,W,fg (fun _ _=>rfl) ds,h⟩
end
def XG(K:zn)(a:Addr)(xs:List V)(_:∀ H,fN K H a xs):TE:=tC (.ref a)
theorem Q3{K:zn}(hm:X.mg x=some (.ref a))(hx:∀ H,fN K H a xs)(hg:autoParam (Gl X x) ra0)(hd:autoParam ((x == ("__debug__":Str))=false) ra1):SE X (.Name x pos) (XG K a xs hx):=P5 hm hg hd
def XH(xs:List V):cV:=fun _ W Q=>Q (.cst xs) W
instance {C:DC}{K:zn}[hk:mD C K]{a:Addr}{xs:List V}{hx:∀ H,fN K H a xs}:LE C (XG K a xs hx) (XH xs):=by
 obtain⟨rfl⟩:=hk;exact⟨fun D h k=>k.now (dv:=.cst xs) D ⟨a,rfl,hx⟩ h⟩
theorem Va(h:Q (.cst xs) W):XH xs ρ W Q:=h
def Q4(a:cV):cV:=fun ρ W Q=>a ρ W fun v W1=>∃ d,dat 4 W1 v=some d/\d.canLay0=true/\Q (.im (.bool (!PyData.eqv d (.list [])))) W1
def Q5(a:cV):cV:=fun ρ W Q=>a ρ W fun v W1=>∃ d,dat 4 W1 v=some d/\d.canLay0=true/\Q (.im (.bool (PyData.eqv d (.list [])))) W1
theorem min1(n:Nat):min n (PyData.depth (.list []))<=64:=aaq (acI _ _) (by decide)
instance (priority:=2000){C:DC}{ta:TE}{da:cV}[ia:LE C ta da]:LE C (zU Mf ta (B4 qH)) (Q4 da):=⟨fun D h k=>ia.go D h fun x dv H1 W1 D1 s1 v1 ⟨d,e,c,q⟩=>⟨aaK _,fun p hp=>by
 obtain⟨D2,s2,e2⟩:=D1.Bt hp (.lst []);exact .inr ⟨d,.list [],(D1.rp v1 e).same (aT.new hp _),⟨p,[],rfl,cn,rfl⟩,c,rfl,min1 _,k _ (.im (.bool _)) _ _ D2 (s1.trans s2) rfl q⟩⟩⟩
instance (priority:=2000){C:DC}{ta:TE}{da:cV}[ia:LE C ta da]:LE C (zU Me ta (B4 qH)) (Q5 da):=⟨fun D h k=>ia.go D h fun x dv H1 W1 D1 s1 v1 ⟨d,e,c,q⟩=>⟨aaK _,fun p hp=>by
 obtain⟨D2,s2,e2⟩:=D1.Bt hp (.lst []);exact .inr ⟨d,.list [],(D1.rp v1 e).same (aT.new hp _),⟨p,[],rfl,cn,rfl⟩,c,rfl,min1 _,k _ (.im (.bool _)) _ _ D2 (s1.trans s2) rfl q⟩⟩⟩
theorem Q6{a:cV}(h:a ρ W fun v W1=>∃ d,dat 4 W1 v=some d/\d.canLay0=true/\Q (.im (.bool (!PyData.eqv d (.list [])))) W1):Q4 a ρ W Q:=h
theorem Q7{a:cV}(h:a ρ W fun v W1=>∃ d,dat 4 W1 v=some d/\d.canLay0=true/\Q (.im (.bool (PyData.eqv d (.list [])))) W1):Q5 a ρ W Q:=h
section
variable {bk:bR->Wd->Prop}{rt:DK}{g:rB}{c:mY}{es:wE}{as:ml}{u:DV}
theorem Hj(Pv:Nat->bR->Wd->Prop)(h0:Pv 0 ρ W)(hs:∀ i z ρ W,ns[i]?=some z->Pv i ρ W->g (.im (.int z)) ρ W fun jj W2=>b ⟨Pv (i+1),rt,nx,Pv (i+1)⟩ jj W2)(hd:∀ ρ W,Pv ns.length ρ W->nx ρ W) :
  pY ⟨ns.map fun n=>.im (.int n),fun _=>True⟩ g b ⟨nx,rt,bk,ct⟩ ρ W:=by
 refine⟨Pv,h0,fun _ _ _ _=>trivial,fun i v ρ W e p=>?_,fun ρ W p=>hd ρ W (by simpa using p)⟩;rw[aap]at e;cases q:ns[i]? with
 | none=>rw[q]at e;cases e
 | some d=>rw[q]at e;cases e;exact hs i d ρ W q p
theorem y8:fX Mq (ds.map .im)=some ds:=jF (fun _=>rfl) ds
theorem JN{k1 k2:SK}(e1:AH k1 W v=some (ds.map .im))(e2:AH k2 W u=some (es.map .im))(h:B' ⟨(ds.zip es).map fun p=>.im (.tuple [p.1,p.2]),fun W'=>wU v (ds.map .im) W'/\wU u (es.map .im) W'⟩ W) :
  UP k1 k2 [v,u] W B' :=
 ⟨v,u,_,_,ds,es,rfl,e1,e2,y8,y8,h⟩
theorem MN{k1 k2:SK}(h:as ρ W fun vs W1=>UP k1 k2 vs W1 B'):QE k1 k2 as ρ W B':=h
theorem y9{kp:Wd->Prop}(Pv:Nat->bR->Wd->Prop)(h0:Pv 0 ρ W)(hk:∀ i ρ W,Pv i ρ W->kp W)(hs:∀ i a d ρ W,ds[i]?=some a->es[i]?=some d->Pv i ρ W->g (.im (.tuple [a,d])) ρ W fun jj W2=>b ⟨Pv (i+1),rt,nx,Pv (i+1)⟩ jj W2)(hd:∀ ρ W,Pv (min ds.length es.length) ρ W->nx ρ W) :
  pY ⟨(ds.zip es).map fun p=>.im (.tuple [p.1,p.2]),kp⟩ g b ⟨nx,rt,bk,ct⟩ ρ W:=by
 refine⟨Pv,h0,hk,fun i v ρ W e p=>?_,fun ρ W p=>hd ρ W (by rw[aak,adp]at p;exact p)⟩;rw[aap]at e;cases q:(ds.zip es)[i]? with
 | none=>rw[q]at e;cases e
 | some ab =>
  rw[q]at e;cases e;obtain⟨h1,h2⟩:=abi.mp q;exact hs i ab.1 ab.2 ρ W h1 h2 p
theorem Q8{n:Int}(h:Q (.im (.int (if n > m then n else m))) W):JC [.im (.int m),.im (.int n)] W Q:=⟨m,n,rfl,h⟩
theorem MO{k:Bool}(h:Q (.im (.int (if k then 1 else 0))) W):CZ [.im (.bool k)] W Q:=.inr ⟨k,rfl,h⟩
theorem Q9(h:Q (.im (.bool (P2 d T))) W):Qy T [.im d,.ty T] W Q:=⟨.im d,d,rfl,rfl,h⟩
theorem ij(e:W p=some (.lst (ds.map .im))):dat (n+1) W (.pt p)=some (.list ds):=by
 unfold dat;rw[e];show(fX (dat n W) (ds.map .im)).map _=_;rw[jF (fun d=>by cases n<;>rfl) ds];rfl
theorem Vb{Pr:Prop}(e:W p=some (.lst vs))(h:Pr):wQ "list" (.pt p) W/\Pr:=⟨Q0 e,h⟩
theorem om{gs:wn}(e:W p=some (.lst (gr gs))):dat (n+1) W (.pt p)=some (.list (gs.map .int)):=ij (ds:=gs.map .int) (by rw[e];simp)
theorem oo{R:Res->Prop}(e:W p=some (.lst (ds.map .im)))(h:R (.nw ds)):G8 W R (.pt p):=⟨_,ds,W,e,fg (fun _ _=>rfl) ds,by rw[e];rfl,h⟩
theorem rH(h:i5 (ds.map .im) W Q):rq [.im (.list ds)] W Q:=⟨_,_,rfl,rfl,h⟩
theorem rJ(h:i5 (ds.map .im) W Q):rq [.im (.tuple ds)] W Q:=⟨_,_,rfl,rfl,h⟩
theorem Dk{q:Addr}{lo:v0}(e:W q=some (.lst vs))(h:i5 (cutD vs lo hi) W Q):Qz (.pt q) lo hi W Q:=⟨_,.inl (kJ e),h⟩
theorem JO(e1:dS W v=some vs)(e2:dS W u=some us)(hl:vs.length+us.length<=sizeLine)(h:i5 (vs++us) W Q):Qv v u W Q:=⟨vs,us,e1,e2,hl,h⟩
theorem Ra{n:Int}(e1:dS W v=some vs)(h1:-(2 ^ 63)<=n)(h2:n < 2 ^ 63)(hl:vs.length * n.toNat<=sizeLine)(h:i5 (List.replicate n.toNat vs).flatten W Q):Qw v (.im (.int n)) W Q:=⟨vs,n,e1,rfl,h1,h2,hl,h⟩
theorem MP{S:sT}{t g:Addr}(e:W t=some (.aI g n))(e2:fX (dat 4 W) vs=some ds)(h:S n ds fun r n'=>SY r=true/\j8 (aH W t (.aI g n')) Q r):qa S (.pt t::vs) W Q:=⟨t,g,n,vs,rfl,e,.inl ⟨ds,e2,h⟩⟩
end
section
variable {prog:u8}{A:tx}{E:xz}{s:Shared}
theorem qd{it t:Addr}{items:Array Value}(i4:t≠it):∀(n i:Nat) (s:Shared) (Q:wf->Shared->Prop),s.heap.IsListIter it t i->s.heap.IsList t items->i+n<=items.size ->
  (∀ h',h'.IsListIter it t (i+n)->Heap.SameBut it s.heap h'->Q ((items.toList.drop i).take n) { s with heap:=h' })->wpAny (model prog w) A (draw (.ref it) n) Q E s
 | 0,i,s,Q,hit,_,_,hQ=>by
  show wpAny _ _ (pure []) Q E s;exact aam (by simpa using hQ s.heap hit (Heap.SameBut.refl ..))
 | n+1,i,s,Q,hit,ht,hle,hQ=>by
  have iz:i < items.size:=by omega
  show wpAny _ _ (pyNext (.ref it) >>= _) Q E s;refine aaj (wpAny_pyNext_list_item hit ht (x:=items[i]) (by simp[iz]) fun fQ wZ dM=>?_);refine aaj (abc (qd i4 n (i+1) _ _ wZ (ht.extBut dM.extBut i4) (by omega) fun iL MQ fT=>aam ?_));have hd:items.toList.drop i=items[i]::items.toList.drop (i+1):=by simp[acZ,iz]
  have:=hQ iL (by rw[show i+(n+1)=i+1+n by omega];exact MQ) (dM.trans fT);rw[hd,List.take_succ_cons]at this;exact this
theorem lJ{t:Addr}{Q:wf->Shared->Prop}(hh:A.handled=none)(ht:s.heap.IsList t items)(hQ:∀ h',Heap.ExtBut s.heap.objs.size s.heap h'->Q items.toList { s with heap:=h' }):wpAny (model prog w) A (unpackItems (.ref t) items.size none) Q E s:=by
 have iz:t≠s.heap.objs.size:=by obtain⟨o,ho,_⟩:=ht;exact aaO (aar ho)
 unfold unpackItems;refine aaj ?_
 ·unfold notIterableAtAll;refine aaj (wpAny_specialOf ht.typeIs F.slot_list_iter.lookup ?_);refine aam ?_;simp only[acx,adb];refine aaj (abc (abA ht ?_));refine aaj (abc (qd iz items.size 0 _ _ ⟨_,aau _ rfl,rfl,rfl⟩ (ht.push _) (by omega) fun fQ wZ dM=>?_));have kr:List.take items.size (List.drop 0 items.toList)=items.toList:=by
   rw[List.drop_zero];exact abL (by simp)
  rw[kr];rw[aaA (by simp)];have Rb:fQ.IsList t items:=(ht.push _).extBut dM.extBut iz;refine aaj (abc (wpAny_pyNext_list_end hh wZ Rb (by simp) fun iL Rf=>?_));simp only[Option.isSome_none,acx,adb];refine aam (hQ iL fun b o hb e=>Rf b o hb (dM.extBut b o hb (aal _ e)))
theorem uo{t:Addr}{targets:List (Bool×(Value->Sem Unit))}{Q:Unit->Shared->Prop}(hh:A.handled=none)(ht:s.heap.IsList t items)(hn:targets.length=items.size)(Dl:targets.findIdx? (·.1)=none)(h:∀ h',Heap.ExtBut s.heap.objs.size s.heap h'->wpAny (model prog w) A (assignInOrder (targets.map (·.2)) items.toList) Q E { s with heap:=h' }) :
  wpAny (model prog w) A (unpack (.ref t) targets) Q E s:=by
 unfold unpack;rw[hn,Dl];exact aaj (abc (lJ hh ht h))
theorem kM{env:Env}{elts:v6}{x1}{t:Addr}{Q:Unit->Shared->Prop}(hh:A.handled=none)(ht:s.heap.IsList t items)(hn:(assignEach elts env).length=items.size)(Dl:(assignEach elts env).findIdx? (·.1)=none)(h:∀ h',Heap.ExtBut s.heap.objs.size s.heap h'->wpAny (model prog w) A (assignInOrder ((assignEach elts env).map (·.2)) items.toList) Q E { s with heap:=h' }) :
  wpAny (model prog w) A (assign (.Tuple elts x1 pos) env (.ref t)) Q E s:=by
 rw[assign_Tuple];exact aaj (ada (uo hh ht hn Dl h))
end
def JP(K:zn)(n:Nat)(t:vA):TG:=fun v σ H Q=>∃ a xs,v=.ref a/\gb K H a xs/\xs.length=n/\t xs σ H Q
theorem Hk{k:Nat}{t:vA}(hc:X.calm=true)(h:Ov X es t)(hn:autoParam ((assignEach es X.env).length=n) ra0)(yk:autoParam ((assignEach es X.env).findIdx? (·.1)=none) ra0):PG X (.Tuple es k pos) (JP X.K n t):=by
 intro pins s σ H v u Q I r hw;obtain⟨a,xs,e1,hq,hl,hw⟩:=hw;subst e1;cases r;obtain⟨aV,rv,pl,hz⟩:=I.list hq;refine kM (I.ok.hd hc) pl.isList (by simp[hn,<- hl,rv.length]) yk fun h' hx=>?_;have I1:Inv X pins σ H { s with heap:=h' }:=I.kept (t':=s.toks) fun b o e=>hx b o (aaO (aar e)) e;exact h pins _ σ H xs _ Q I1 (by simpa using rv) hw
def JQ(K:zn)(n:Nat)(t:vA):TG:=fun v σ H Q=>O2 K n t v σ H Q\/JP K n t v σ H Q
theorem jl{k:Nat}{P4:vA}(h:SF X es P4)(hc:autoParam (X.calm=true) ra0)(hn:autoParam ((assignEach es X.env).length=n) ra0)(yk:autoParam ((assignEach es X.env).findIdx? (·.1)=none) ra0):SG X (.Tuple es k pos) (JQ X.K n P4) :=
 ⟨fun pins s σ H v u Q I r hw=>hw.elim (K5 hc h.run hn yk pins s σ H v u Q I r) (Hk hc h.run hn yk pins s σ H v u Q I r)⟩
def XI(n:Nat)(b:rC):rB:=fun dv ρ W Q=>∃ vs,iF W dv=some vs/\vs.length=n/\b vs ρ W Q
instance {C:DC}{K:zn}[hk:mD C K]{gs:vA}{QA:rC}{n:Nat}[ib:SX C gs QA]:LG C (JQ K n gs) (XI n QA):=by
 obtain⟨rfl⟩:=hk;exact⟨fun D v h k=>by
  obtain⟨vs,e,hl,q⟩:=h;obtain⟨p,xs,e1,hq,r⟩:=D.iF v e;rcases hq with hq | hq
  ·exact .inr ⟨p,xs,e1,hq,by rw[<- r.length];exact hl,ib.go D r q k⟩
  ·exact .inl ⟨p,xs,e1,hq,by rw[<- r.length];exact hl,ib.go D r q k⟩⟩
section
variable {gs:rC}{k:Nat}
theorem Rg(hl:ds.length=k)(h:gs (ds.map .im) ρ W Qs):XI k gs (.im (.tuple ds)) ρ W Qs:=⟨_,rfl,by rw[aak];exact hl,h⟩
theorem Rh{a:rB}{r:wE}(h:a (.im d) ρ W fun cC W'=>gs (r.map .im) cC W' Qs):XA a gs ((d::r).map .im) ρ W Qs:=⟨_,_,rfl,h⟩
theorem Ri(h:Qs ρ W):Xz (([]:wE).map .im) ρ W Qs:=⟨rfl,h⟩
end
def gu:sT:=fun n ds R=>∃ m:Int,ds=[.int m]/\n<=1000000000/\0 < m/\m < 2 ^ 64/\∀ r:Int,0<=r->r < m->R (.im (.int r)) (n+1)
section
variable {t:Addr}
theorem aL(e:W t=some (.aI g n))(hn:n<=1000000000)(m0:0 < m)(m1:m < 2 ^ 64)(h:∀(r:Int) (W':Wd),0<=r->r < m->W' t=some (.aI g (n+1))->Fr t W W'->Q (.im (.int r)) W'):qa gu [.pt t,.im (.int m)] W Q :=
 MP e rfl ⟨m,rfl,hn,m0,m1,fun r r0 r1=>⟨rfl,h r _ r0 r1 au fun a ha=>aE ha⟩⟩
theorem dD(e:W p=some (.lst vs))(hl:vs.length < sizeLine)(h:∀ W',W' p=some (.lst (vs++[v]))->Fr p W W'->Q (.im .none) W'):rA (.pt p) [v] W Q:=uk e hl (h _ au fun a ha=>aE ha)
theorem MR{k:Int}{j:Nat}(e:W p=some (.lst vs))(hj:Ai vs.length k=some j)(h:∀ W',W' p=some (.lst (vs.set j v))->Fr p W W'->Kc W'):yS (.pt p) (.im (.int k)) v W Kc:=⟨p,vs,k,j,rfl,rfl,e,hj,h _ au fun a ha=>aE ha⟩
theorem xa{k:Int}(h0:0<=k)(h1:k < n):Ai n k=some k.toNat:=by unfold Ai;rw[aaE h0,aaE h1]
theorem MS{α:Type}{xs:List α}{k:Int}(h0:0<=k)(h1:k < xs.length):iy xs k=some (xs[k.toNat]'(by omega)):=by unfold iy;rw[xa h0 h1];show xs[k.toNat]?=_;simp[show k.toNat < xs.length by omega]
theorem cG(h:Q (.im d) W):j8 W Q (.im d):=h
theorem za(h:Q (.im (.list ds)) W):j8 W Q (.nw ds):=Or.inr h
end
def j9(sp:Sp):Sp:=fun vs H Q _=>sp vs H Q E0
theorem UC.calm{K:zn}{k:Nat}{sp:Sp}(D:UC P w K mg base k x f fd ps sp):Dn P w K mg base k x f fd ps (j9 sp) where
 ok:=⟨fun vs H Q E q=>D.ok.len vs H Q E0 q,fun A outer s H args us vs Q E hr he hb hv hs=>ab9 (D.ok.run A outer s H args us vs Q E0 hr he hb hv hs) fun r s' h=>by
  cases r with
  | error e=>obtain⟨a,C,H',B,a0,_,R⟩:=h;exact R.want.elim
  | ok fl=>cases fl<;>exact h⟩
 b:=D.b
 kp:=D.kp
 m:=D.m
instance {C:DC}{S:ll}{E:XK}:G7 C (j9 (eZ S)) E (ui S fun _=>False):=⟨fun D h hd k=>yV (E:=E0) (fun c H' hc _=>hc.elim) D h hd k⟩
theorem dE:dat n W (.im d)=some d:=by cases n<;>rfl
section
variable {β:Type}[DecidableEq κ]
def ik(kvs:List (κ×β))(k:κ):Option β:=(kvs.find? fun kv=>decide (kv.1=k)).map (·.2)
def oq(kvs:List (κ×β))(k:κ)(v:β):List (κ×β) :=
 if(kvs.any fun kv=>decide (kv.1=k))=true then kvs.map (fun kv=>if kv.1=k then(kv.1,v)else kv)else kvs++[(k,v)]
def gj(kvs more:List (κ×β)):List (κ×β):=more.foldl (fun acc kv=>oq acc kv.1 kv.2) kvs
end
section
variable [DecidableEq κ]
def dG(C:DC)(F:Hp){κ:Type}:List (κ×DV)->List (κ×V)->Prop
 | [],xs=>xs=[]
 | kd::r,xs=>∃ y ys,xs=(kd.1,y)::ys/\dH C F kd.2 y/\dG C F r ys
theorem jH:∀{kvs:List (κ×DV)} {xs:List (κ×V)},dG C F kvs xs->xs.map (·.1)=kvs.map (·.1)/\aM C F (kvs.map (·.2)) (xs.map (·.2))
 | [],_,h=>by cases h;exact⟨rfl,rfl⟩
 | kd::r,_,⟨y,ys,e,h,hr⟩=>by
  subst e;obtain⟨h1,h2⟩:=jH hr;exact⟨by rw[aaz,aaz,h1],y,_,rfl,h,h2⟩
theorem gZ:∀{kvs:List (κ×DV)} {xs:List (κ×V)},xs.map (·.1)=kvs.map (·.1)->aM C F (kvs.map (·.2)) (xs.map (·.2))->dG C F kvs xs
 | [],xs,h,_=>by
  cases xs with
  | nil=>rfl
  | cons _ _=>cases h
 | kd::r,xs,h,hv=>by
  cases xs with
  | nil=>cases h
  | cons x xs =>
   rw[aaz,aaz]at h;injection h with h1 h2
   obtain⟨y,ys,e,g1,g2⟩:=hv;rw[aaz]at e;injection e with e1 e2
   refine⟨y,xs,?_,g1,gZ h2 (by rw[e2];exact g2)⟩;rw[<- h1,<- e1]
theorem dG.length{kvs:List (κ×DV)}{xs:List (κ×V)}(h:dG C F kvs xs):kvs.length=xs.length:=by
 have:=(jH h).1;have:=abK List.length this;simpa using this.symm
theorem dG.get{k:κ}:∀{kvs:List (κ×DV)} {xs:List (κ×V)},dG C F kvs xs->(ik kvs k=none/\gP xs k=none)\/∃ dv v,ik kvs k=some dv/\gP xs k=some v/\dH C F dv v
 | [],_,h=>by cases h;exact .inl ⟨rfl,rfl⟩
 | kd::r,_,⟨y,ys,e,h,hr⟩=>by
  subst e;unfold ik gP;rw[abp,abp]
  by_cases hk:kd.1=k
  ·rw[aa6 hk];exact .inr ⟨kd.2,y,rfl,rfl,h⟩
  ·rw[aat hk];exact dG.get hr
theorem dG.any{k:κ}:∀{kvs:List (κ×DV)} {xs:List (κ×V)},dG C F kvs xs->(kvs.any fun kv=>decide (kv.1=k))=(xs.any fun kv=>decide (kv.1=k))
 | [],_,h=>by cases h;rfl
 | kd::r,_,⟨y,ys,e,h,hr⟩=>by subst e;rw[abl,abl,dG.any hr]
theorem dG.map{k:κ}{dv:DV}{v:V}(hv:dH C F dv v):∀{kvs:List (κ×DV)} {xs:List (κ×V)},dG C F kvs xs->dG C F (kvs.map fun kv=>if kv.1=k then(kv.1,dv)else kv) (xs.map fun kv=>if kv.1=k then(kv.1,v)else kv)
 | [],_,h=>by cases h;exact rfl
 | kd::r,_,⟨y,ys,e,h,hr⟩=>by
  subst e;rw[aaz,aaz]
  by_cases hk:kd.1=k
  ·simp only[hk,acu];exact⟨v,_,rfl,hv,dG.map hv hr⟩
  ·simp only[hk,adb];exact⟨y,_,rfl,h,dG.map hv hr⟩
theorem dG.snoc{k:κ}{dv:DV}{v:V}(hv:dH C F dv v):∀{kvs:List (κ×DV)} {xs:List (κ×V)},dG C F kvs xs->dG C F (kvs++[(k,dv)]) (xs++[(k,v)])
 | [],_,h=>by cases h;exact⟨v,[],rfl,hv,rfl⟩
 | kd::r,_,⟨y,ys,e,h,hr⟩=>by subst e;exact⟨y,_,rfl,h,dG.snoc hv hr⟩
theorem dG.put{k:κ}{v:V}{kvs:List (κ×DV)}{xs:List (κ×V)}(h:dG C F kvs xs)(hv:dH C F dv v):dG C F (oq kvs k dv) (putK xs k v):=by
 unfold oq putK;rw[h.any];split
 ·exact h.map hv
 ·exact h.snoc hv
theorem dG.mono{F':Hp}(s:aT F F'):∀{kvs:List (κ×DV)} {xs:List (κ×V)},dG C F kvs xs->dG C F' kvs xs
 | [],_,h=>h
 | _::_,_,⟨y,ys,e,h,r⟩=>⟨y,ys,e,h.mono s,dG.mono s r⟩
end
def ot:DV->Option Key
 | .im (.int i)=>some (.inl i)
 | .im (.str s)=>some (.inr s)
 | _=>none
def Rj:PyData->Option Key
 | .int i=>some (.inl i)
 | .str s=>some (.inr s)
 | _=>none
def ur:wE->Option (List Key)
 | []=>some []
 | d::r=>(Rj d).bind fun k=>(ur r).map (k::·)
def MT:DV->Option (List Key)
 | .im (.tuple ds)=>ur ds
 | _=>none
section
variable {Q:VK}{x y v:V}{a b:DV}{td ty tv:TE}{db dc:cV}
theorem nk{k:Key}:∀{a:DV},dH C F a x->ot a=some k->x=kV k
 | .im (.int i),h,e=>by cases e;exact h
 | .im (.str s),h,e=>by cases e;exact h
 | .im .none,_,e=>by cases e
 | .im (.bool _),_,e=>by cases e
 | .im (.list _),_,e=>by cases e
 | .im (.tuple _),_,e=>by cases e
 | .im (.dict _),_,e=>by cases e
 | .pt _,_,e=>by cases e
 | .cst _,_,e=>by cases e
 | .rf _,_,e=>by cases e
 | .ty _,_,e=>by cases e
 | .vD _,_,e=>by cases e
 | .raw _,_,e=>by cases e
 | .lE _,_,e=>by cases e
 | .tp _,_,e=>by cases e
theorem uu:∀{ds:wE} {ks:List Key} {xs:List V},az F ds xs->ur ds=some ks->xs=ks.map kV
 | [],_,_,h,e=>by cases h;cases e;rfl
 | d::r,ks,_,⟨y,ys,e1,h,hr⟩,e=>by
  unfold ur at e;cases q:Rj d with
  | none=>rw[q]at e;cases e
  | some k =>
   rw[q]at e;cases q2:ur r with
   | none=>simp[q2]at e
   | some ks' =>
    simp[q2]at e;subst e;rw[e1,uu hr q2];have:y=kV k:=by
     cases d with
     | int i=>cases q;exact h
     | str s=>cases q;exact h
     | _=>cases q
    rw[this];rfl
theorem zb{ks:List Key}(h:dH C F a x)(e:MT a=some ks):∃ p,x=.ref p/\F p=some (.tup (ks.map kV)):=by
 cases a with
 | im d =>
  cases d with
  | tuple ds=>obtain⟨p,xs,e1,h1,r⟩:=h;exact⟨p,e1,by rw[h1,uu r e]⟩
  | _=>cases e
 | _=>cases e
def Hl(W:Wd)(a y:DV)(r:Option DV):Prop:=∃ p,a=.pt p/\((∃ kvs k,W p=some (.dk kvs)/\ot y=some k/\r=ik kvs k)\/∃ kvs k,W p=some (.dt kvs)/\MT y=some k/\r=ik kvs k)
theorem DR.Hl(D:DR C σ H ρ W){r:Option DV}(ha:dH C (Fz C W H) a x)(hy:dH C (Fz C W H) b y)(h:L2.Hl W a b r):∃ p o,x=.ref p/\o9 H p y o/\((r=none/\o=none)\/∃ dv v,r=some dv/\o=some v/\dH C (Fz C W H) dv v):=by
 obtain⟨p,rfl,h⟩:=h;cases ha;rcases h with⟨kvs,k,e,ek,er⟩ | ⟨kvs,k,e,ek,er⟩
 ·obtain⟨_,_,xs,hx,hk,hv⟩:=D.ce p _ e;have ka:=gZ hk hv;refine⟨p,_,rfl,by rw[nk hy ek];exact o9.k hx,?_⟩;rw[er];exact ka.get
 ·obtain⟨_,_,xs,hx,hk,hv⟩:=D.ce p _ e;have ka:=gZ hk hv;obtain⟨q,rfl,hq⟩:=zb hy ek;refine⟨p,_,rfl,o9.t hx (Fz.le hq),?_⟩;rw[er];exact ka.get
def Dm(x y:DV)(W2:Wd)(Q:DK):Prop:=∃ v,Hl W2 x y (some v)/\Q v W2
def JR(a b:cV):cV:=fun ρ W Q=>a ρ W fun x W1=>b ρ W1 fun y W2=>Dm x y W2 Q
instance [ia:LE C td da][ib:LE C ty db]:LE C (Ca td ty) (JR da db):=⟨fun D h k=>ia.go D h fun x dx H1 W1 D1 s1 v1 h1=>ib.go D1 h1 fun y dy H2 W2 D2 s2 v2 zz=>by
 obtain⟨dv,g,q⟩:=zz
 obtain⟨p,o,e,hg,hr⟩:=D2.Hl (v1.mono s2) v2 g;rcases hr with⟨z,_⟩ | ⟨dv',v,z,eo,hv⟩
 ·cases z
 ·cases z;subst eo;exact⟨p,v,e,hg,(k.mono (s1.trans s2)).now D2 hv q⟩⟩
def dput(W:Wd)(a y v:DV)(Kc:Wd->Prop):Prop:=∃ p,a=.pt p/\((∃ kvs k,W p=some (.dk kvs)/\ot y=some k/\kvs.length < sizeLine/\Kc (aH W p (.dk (oq kvs k v))))\/∃ kvs k,W p=some (.dt kvs)/\MT y=some k/\kvs.length < sizeLine/\Kc (aH W p (.dt (oq kvs k v))))
theorem DR.dput(D:DR C σ H ρ W)(ha:dH C (Fz C W H) a x)(hy:dH C (Fz C W H) b y)(hv:dH C (Fz C W H) dv v)(h:L2.dput W a b dv Kc):∃ p H' W',x=.ref p/\qI H p y v H'/\DR C σ H' ρ W'/\aT (Fz C W H) (Fz C W' H')/\Kc W':=by
 obtain⟨p,rfl,h⟩:=h;cases ha;rcases h with⟨kvs,k,e,ek,hl,q⟩ | ⟨kvs,k,e,ek,hl,q⟩
 ·obtain⟨_,_,xs,hx,hk,MU⟩:=D.ce p _ e;have ka:=gZ hk MU;obtain⟨D2,s2⟩:=D.OF (o:=.dK (putK xs k v)) (c:=.dk (oq kvs k dv)) e rfl rfl fun s=>by
   obtain⟨g1,g2⟩:=jH ((ka.put hv).mono s);exact⟨_,cn,g1,g2⟩
  exact⟨p,_,_,rfl,by rw[nk hy ek];exact qI.k hx (by rw[<- ka.length];exact hl),D2,s2,q⟩
 ·obtain⟨_,_,xs,hx,hk,MU⟩:=D.ce p _ e;have ka:=gZ hk MU;obtain⟨q',rfl,hq⟩:=zb hy ek;obtain⟨D2,s2⟩:=D.OF (o:=.dT (putK xs k v)) (c:=.dt (oq kvs k dv)) e rfl rfl fun s=>by
   obtain⟨g1,g2⟩:=jH ((ka.put hv).mono s);exact⟨_,cn,g1,g2⟩
  exact⟨p,_,_,rfl,qI.t hx (Fz.le hq) (by rw[<- ka.length];exact hl),D2,s2,q⟩
def zc(a b c:cV):jP:=fun De ρ W=>c ρ W fun v W1=>a ρ W1 fun x W2=>b ρ W2 fun y W3=>dput W3 x y v (De.nx ρ)
instance [ia:LE C td da][ib:LE C ty db][ic:LE C tv dc]:LS C (Cb td ty tv) (zc da db dc):=⟨fun D h m=>ic.go D h fun v dv H1 W1 D1 s1 v1 h1=>ia.go D1 h1 fun x dx H2 W2 D2 s2 v2 h2=>ib.go D2 h2 fun y dy H3 W3 D3 s3 v3 h3=>by
 obtain⟨p,H4,W4,e,hp,D4,s4,q⟩:=D3.dput (v2.mono s3) v3 ((v1.mono s2).mono s3) h3;exact⟨p,H4,e,hp,m.nx _ _ _ _ D4 (((s1.trans s2).trans s3).trans s4) q⟩⟩
abbrev JS:=bR->Wd->(List (Key×DV)->Wd->Prop)->Prop
class S2 (C:DC) (t:List (TE×TE)) (d:outParam JS):Prop where
 go:∀{σ:St} {H:Hp} {ρ:bR} {W:Wd} {Qd:List (Key×DV)->Wd->Prop} {Q:List (V×V)->Hp->Prop},DR C σ H ρ W->d ρ W Qd->(∀ kvs aK H' W',DR C σ H' ρ W'->aT (Fz C W H) (Fz C W' H')->dG C (Fz C W' H') aK kvs->Qd aK W'->Q (kvs.map fun kv=>(kV kv.1,kv.2)) H')->qJ t σ H Q
def XJ:JS:=fun _ W Q=>Q [] W
def XM(a b:cV)(r:JS):JS:=fun ρ W Q=>a ρ W fun x W1=>∃ k,ot x=some k/\b ρ W1 fun v W2=>r ρ W2 fun kvs W3=>Q ((k,v)::kvs) W3
instance:S2 C [] XJ:=⟨fun D h k=>k [] [] _ _ D (aT.refl _) rfl h⟩
instance {r:List (TE×TE)}{dr:JS}[ia:LE C td da][ib:LE C ty db][ir:S2 C r dr]:S2 C ((td,ty)::r) (XM da db dr):=⟨fun D h k=>ia.go D h fun x dx H1 W1 D1 s1 v1 ⟨kk,ek,h1⟩=>ib.go D1 h1 fun y dy H2 W2 D2 s2 v2 h2=>ir.go D2 h2 fun kvs aK H3 W3 D3 s3 v3 q=>by
 have:=k ((kk,y)::kvs) ((kk,dy)::aK) H3 W3 D3 ((s1.trans s2).trans s3) ⟨y,kvs,rfl,v2.mono s3,v3⟩ q;rw[aaz,<- nk v1 ek]at this;exact this⟩
theorem dG.merge{κ:Type}[DecidableEq κ]:∀{more:List (κ×DV)} {mores:List (κ×V)} {kvs:List (κ×DV)} {xs:List (κ×V)},dG C F more mores->dG C F kvs xs->dG C F (gj kvs more) (mores.foldl (fun acc kv=>putK acc kv.1 kv.2) xs)
 | [],_,_,_,h,h'=>by cases h;exact h'
 | kd::r,_,kvs,xs,⟨y,ys,e,h,hr⟩,h'=>by
  subst e;exact dG.merge (more:=r) (mores:=ys) (kvs:=oq kvs kd.1 kd.2) (xs:=putK xs kd.1 y) hr (h'.put h)
def Rk(d:JS):cV:=fun ρ W Q=>∀ p,W p=none->d ρ (aH W p (.dk [])) fun kvs W1=>W1 p=some (.dk [])/\kvs.length<=15/\Q (.pt p) (aH W1 p (.dk (gj [] kvs)))
instance {r:List (TE×TE)}{dr:JS}[ir:S2 C r dr]:LE C (Cf r) (Rk dr):=⟨fun D h k=>fun p hp=>by
 obtain⟨D2,s2⟩:=D.L8 (c:=.dk []) (o:=.dK []) hp rfl fun s=>⟨[],cn,rfl,rfl⟩;refine ir.go D2 (h p (D.fresh hp)) fun kvs aK H3 W3 D3 s3 v3 ⟨e3,hl,q⟩=>?_;obtain⟨_,_,xs,hx,hk,hv⟩:=D3.ce p _ e3;have ZM:xs=[]:=by cases xs with | nil=>rfl | cons _ _=>cases hk
 subst ZM;obtain⟨D4,s4⟩:=D3.OF (o:=.dK (iM [] kvs)) (c:=.dk (gj [] aK)) e3 rfl rfl fun s=>by
  obtain⟨g1,g2⟩:=jH (dG.merge (v3.mono s) (show dG C _ ([]:List (Key×DV)) [] from rfl));exact⟨_,cn,g1,g2⟩
 exact⟨hx,kvs,rfl,by rw[<- v3.length];exact hl,k _ (.pt p) _ _ D4 ((s2.trans s3).trans s4) rfl q⟩⟩
end
section
variable {o i e value:Expr}{pos' B3:Pos}{td ty tv:TE}
theorem aJ{k:Nat}(hr:cT k X.A)(ho:SE X o td)(hi:SE X i ty)(hs:autoParam (Ah i) ra8):SE X (.Subscript o i pos) (Ca td ty):=⟨Gr (IW hr) ho.run hi.run hs⟩
theorem fh{k:Nat}(hr:cT k X.A)(ho:SE X o td)(hi:SE X i ty)(hv:SE X value tv)(hs:autoParam (swapsWith value (some (.Subscript o i pos')) pos.line X.env=pure false) ra0):SS X (.Assign [.Subscript o i pos'] value pos) (Cb td ty tv):=⟨Gs (IW hr) ho.run hi.run hv.run hs⟩
structure S3(X:Cx)(pos:Pos)(keys:List (Option Expr))(values:v6)(tN:List (TE×TE)):Prop where
 run:Ph X pos keys values tN
theorem zd:S3 X pos [] [] []:=⟨Gu⟩
theorem dm{k v:Expr}{ks:List (Option Expr)}{vs:v6}{tk:TE}{tN:List (TE×TE)}(hk:SE X k tk)(hv:SE X v tv)(hr:S3 X pos ks vs tN):S3 X pos (some k::ks) (v::vs) ((tk,tv)::tN):=⟨Ce hk.run hv.run hr.run⟩
theorem rK{keys:List (Option Expr)}{values:v6}{tN:List (TE×TE)}(h:S3 X pos keys values tN)(kr:autoParam (keys.all (·.isSome)=true) ra0)(hl:autoParam (keys.length=values.length) ra0)(h0:autoParam (keys≠[]) ra9)(TR:autoParam (keys.length<=15) ra1):SE X (.Dict keys values pos) (Cf tN):=⟨Gv h.run kr hl h0 TR⟩
end
section
variable {bk:bR->Wd->Prop}{rt:DK}{db dc:cV}{f:pU}{kvs:List (Key×DV)}{kvt:List (List Key×DV)}{k:Key}{kt:List Key}{a b:DV}
theorem MV(h:da ρ W fun x W1=>db ρ W1 fun y W2=>Dm x y W2 Q):JR da db ρ W Q:=h
theorem ze(e:W p=some (.dk kvs))(ek:ot b=some k)(hv:ik kvs k=some v)(h:Q v W):Dm (.pt p) b W Q:=⟨v,⟨p,rfl,.inl ⟨kvs,k,e,ek,hv.symm⟩⟩,h⟩
theorem MW(h:dc ρ W fun v W1=>da ρ W1 fun x W2=>db ρ W2 fun y W3=>dput W3 x y v (nx ρ)):zc da db dc ⟨nx,rt,bk,ct⟩ ρ W:=h
theorem zf(e:W p=some (.dk kvs))(ek:ot b=some k)(hl:kvs.length < sizeLine)(h:∀ W',W' p=some (.dk (oq kvs k v))->Fr p W W'->Kc W'):dput W (.pt p) b v Kc:=⟨p,rfl,.inl ⟨kvs,k,e,ek,hl,h _ au fun a ha=>aE ha⟩⟩
theorem Vc{R:List (Key×DV)->Wd->Prop}(h:R [] W):XJ ρ W R:=h
theorem Vd{R:List (Key×DV)->Wd->Prop}{r:JS}(h:da ρ W fun x W1=>∃ k,ot x=some k/\db ρ W1 fun v W2=>r ρ W2 fun kvs W3=>R ((k,v)::kvs) W3):XM da db r ρ W R:=h
theorem Ve{P:Key->Prop}(e:ot a=some k)(h:P k):∃ k,ot a=some k/\P k:=⟨k,e,h⟩
theorem MX{r:jP}(h:zc da db dc ⟨r ⟨nx,rt,bk,ct⟩,rt,bk,ct⟩ ρ W):jQ (zc da db dc) r ⟨nx,rt,bk,ct⟩ ρ W:=h
end
theorem cg{S:sT}{t:Addr}(e:W t=some (.aI g n))(h:S n ds fun r n'=>j8 (aH W t (.aI g n')) Q r):qa S (.pt t::ds.map .im) W Q:=⟨t,g,n,_,rfl,e,.inr ⟨ds,W,fg (fun _ _=>rfl) ds,e,h⟩⟩
structure ModT(K:zn)(w:World)(a:Addr)(tab:Str->Option (List V)):Prop where
 ex:∃ kvs:List (Key×V),Ar K w a kvs/\∀ x xs,tab x=some xs->∃ b,gP kvs (Sum.inr x)=some (.ref b)/\∀ H,fN K H b xs
def XN(K:zn)(w:World)(a:Addr)(tab:Str->Option (List V))(_:ModT K w a tab)(ty:TE):TE:=CF K w (tC (.ref a)) ty
theorem Rm{K:zn}{tab:Str->Option (List V)}{p:Pos}{r:Expr}{ty:TE}(hm:X.mg x=some (.ref a))(hM:ModT K w a tab)(hb:SE X r ty)(hK:autoParam (X.K=K) ra0)(hw:autoParam (X.w=w) ra0)(hs:autoParam (Ah r) ra8)(hg:autoParam (Gl X x) ra0)(hd:autoParam ((x == ("__debug__":Str))=false) ra1):SE X (.Subscript (.Name x p) r pos) (XN K w a tab hM ty):=by
 subst hK hw;exact LX (P5 hm hg hd) hb hs
def XO(tab:Str->Option (List V))(d:cV):cV:=fun ρ W Q=>d ρ W fun v W1=>∃ x xs,v=.im (.str x)/\tab x=some xs/\Q (.cst xs) W1
instance {C:DC}{K:zn}{w:World}[hk:mD C K]{a:Addr}{tab:Str->Option (List V)}{hM:ModT K w a tab}{ty:TE}{d:cV}[ia:LE C ty d]:LE C (XN K w a tab hM ty) (XO tab d):=by
 obtain⟨rfl⟩:=hk;exact⟨fun D h k=>ia.go D h fun x dv H1 W1 D1 s1 v1 zz=>by
  obtain⟨z,xs,e1,e2,q⟩:=zz
  subst e1;obtain⟨kvs,hD,kr⟩:=hM.ex;obtain⟨b,hb,hT⟩:=kr z xs e2;exact⟨a,kvs,Sum.inr z,.ref b,rfl,hD,v1,hb,k _ (.cst xs) _ _ D1 s1 ⟨b,rfl,hT⟩ q⟩⟩
theorem Vg{tab:Str->Option (List V)}{d:cV}(h:d ρ W fun v W1=>∃ x xs,v=.im (.str x)/\tab x=some xs/\Q (.cst xs) W1):XO tab d ρ W Q:=h
theorem cj{d:jP}{De:gG}(cC:bR)(e:ρ=cC)(h:d De cC W):d De ρ W:=by rw[e];exact h
end L2
namespace L2
open PySem PySem.Spec PyProof.Rows
variable {c:Cell}{a:Addr}
section
variable {W:Wd}{Q:DK}{ds:wE}
theorem JT{p:Addr}{kvs:List (Key×DV)}{Pr:Prop}(e:W p=some (.dk kvs))(h:Pr):wQ "dict" (.pt p) W/\Pr:=⟨.inr (.inr ⟨rfl,p,rfl,.inl ⟨kvs,e⟩⟩),h⟩
end
abbrev kN:=List DV->Wd->(DV->Wd->Prop)->(Addr->Prop)->Prop
abbrev vF(K:zn)(H:Hp)(W:Wd)(O:Addr->Prop)(E:XK)(X:Addr->Prop):DC:=⟨K,lH,H,fun a=>(W a).isSome=true,O,E,X⟩
def fv(K:zn)(S:kN):Sp:=fun vs H Q E=>∃(O:Addr->Prop) (aK:List DV) (W:Wd) (R:DV->Wd->Prop) (X:Addr->Prop),
 (∀ a,O a->H a≠none)/\(∀ p c,W p=some c->¬ O p/\bS (vF K H W O E X) W H p c)/\aM (vF K H W O E X) (Fz (vF K H W O E X) W H) aK vs/\S aK W R X /\
 (∀ v dv H' W',R dv W'->(∀ a o,H a=some o->W a=none->H' a=some o)->(∀ a,H a≠none->H' a≠none)->(∀ p c,W' p=some c->(H p=none\/(W p).isSome=true)/\¬ O p/\bS (vF K H W O E X) W' H' p c)->dH (vF K H W O E X) (Fz (vF K H W O E X) W' H') dv v->Q v H') /\
 ∀ c H',X c->(∀ a o,H a=some o->W a=none->H' a=some o)->E (.ref c) none H'
def Hm(R:DV->Wd->Prop):gG:=⟨fun _ W=>R (.im .none) W,fun dv W=>R dv W,fun _ _=>False,fun _ _=>False⟩
section
variable {P:u8}{w:World}{K:zn}{mg:xL}{base:Heap}{x qual:Str}{st:Stmt}{f:Addr}{fd:wT}{N ps:wv}{k:Nat}{Sd:kN}
theorem Dp{vs:List V}{H:Hp}{Q:VK}{E:XK}{t:TS}(h:fv K Sd vs H Q E)(hb:∀ O X W,∃ d,LS (vF K H W O E X) t d/\∀ aK R,Sd aK W R X->d (Hm R) (cz N aK) W):t { nx:=fun _ H'=>Q .dj H',rt:=Q } (start N vs) H:=by
 obtain⟨O,aK,W,R,X,hO,hc,hv,hS,hR,hX⟩:=h;obtain⟨d,hd,hb⟩:=hb O X W;have th:∀ p c,W p=some c->H p≠none:=fun p c e=>by
  have h2:=(hc p c e).2;cases c with
  | lst aK=>obtain⟨xs,e,r⟩:=h2;rw[e];exact fun z=>nomatch z
  | aI g n=>exact h2.1.elim
  | part=>exact Mu.ne h2
  | dk kvs=>obtain⟨ks,e,k,r⟩:=h2;rw[e];exact fun z=>nomatch z
  | dt kvs=>obtain⟨ks,e,k,r⟩:=h2;rw[e];exact fun z=>nomatch z
  | ob _ _ kvs=>obtain⟨ks,e,k,r⟩:=h2;rw[e];exact fun z=>nomatch z
 have D:DR (vF K H W O E X) (start N vs) H (cz N aK) W:=by
  refine⟨⟨fun z=>z.elim,fun z=>z.elim,fun c Vh H' hf=>hX c H' Vh fun a o e e2=>hf a o e (by show ¬ (W a).isSome=true;rw[e2];exact fun z=>nomatch z)⟩,fun a o e _=>e,hO,fun a ha=>?_,?_,fun p c e=>⟨.inr (by show(W p).isSome=true;rw[e];rfl),hc p c e⟩⟩
  ·cases q:W a with
   | none=>have pj:(W a).isSome=true:=ha;rw[q]at pj;cases pj
   | some c=>exact th a c q
  ·unfold start cz;rw[hv.length];exact Slots.start _ hv
 have fr:∀ bG H' cC W',DR (vF K H W O E X) bG H' cC W'->(∀ a o,H a=some o->W a=none->H' a=some o)/\(∀ a,H a≠none->H' a≠none)/\∀ p c,W' p=some c->(H p=none\/(W p).isSome=true)/\¬ O p/\bS (vF K H W O E X) W' H' p c:=fun bG H' cC W' D' =>
  ⟨fun a o e e2=>D'.fr a o e (by show ¬ (W a).isSome=true;rw[e2];exact fun z=>nomatch z),fun a ha=>by
   cases q:W a with
   | none=>cases q2:H a with
    | none=>exact absurd q2 ha
    | some o=>rw[D'.fr a o q2 (by show ¬ (W a).isSome=true;rw[q];exact fun z=>nomatch z)];exact fun z=>nomatch z
   | some c=>exact D'.th a (by show(W a).isSome=true;rw[q];rfl),fun p c e=>D'.ce p c e⟩
 refine hd.go D (hb aK R hS) ⟨fun bG H' cC W' D' s q=>?_,fun bG H' cC W' D' s q=>q.elim,fun bG H' cC W' D' s q=>q.elim,fun x dv bG H' cC W' D' s v q=>?_⟩
 ·obtain⟨f1,f2,f3⟩:=fr bG H' cC W' D';exact hR .dj (.im .none) H' W' q f1 f2 f3 rfl
 ·obtain⟨f1,f2,f3⟩:=fr bG H' cC W' D';exact hR x dv H' W' q f1 f2 f3 v
theorem Hn(hlen:∀ aK W R X,Sd aK W R X->aK.length=ps.length):∀ vs H Q E,fv K Sd vs H Q E->vs.length=ps.length:=fun vs H Q E zz=>by obtain⟨O,aK,W,R,X,_,_,hv,hS,_⟩:=zz; rw[<- hv.length];exact hlen aK W R X hS
theorem cM.vG(F:cM K x qual st f fd)(S:aB N ps (defScope st))(hlen:∀ aK W R X,Sd aK W R X->aK.length=ps.length)(dJ:∀(bz:Value) (A:tx) (outer:List Env) (s:Shared) (H:Hp) (E:XK),cT k (A.deeper (envOfC qual (defScope st) s.heap.objs.size f bz)) ->
   ∃ t,sR (gf cU P w K mg base N qual (defScope st) f bz A outer s H E).zQ (defBody st) t/\∀ O X W,∃ d,LS (vF K H W O E X) t d/\∀ aK R,Sd aK W R X->d (Hm R) (cz N aK) W):ba P w K mg base cU (k+1) f fd ps (fv K Sd) :=
 F.LY S (Hn hlen) fun bz A outer s H vs Q E hr h=>by
  obtain⟨t,h1,h2⟩:=dJ bz A outer s H E hr;exact⟨t,h1,Dp h h2⟩
end
open Classical in
noncomputable def o6 (W:Wd) (D:Addr->Prop):Wd:=fun a=>if D a then W a else none
open Classical in
noncomputable def AJ (W:Wd) (D:Addr->Prop) (W':Wd):Wd:=fun a=>match W' a with
 | some c=>if c.plain=true then some c else if D a then none else W a
 | none=>if D a then none else W a
def dW(S:kN)(X:Addr->Prop):List DV->Wd->DK->Prop:=fun as W Q=>∃ D:Addr->Prop,(∀ a c,D a->W a=some c->c.plain=true)/\S as (o6 W D) (fun dv W'=>(∀ a,W' a≠none->D a\/W a=none)->Q dv (AJ W D W')) X
section
variable {C C':DC}{σ:St}{H H':Hp}{ρ:bR}{W W':Wd}{Qd:DK}{Q:VK}{F:Hp}{D:Addr->Prop}
theorem dH.conv(hK:C'.K=C.K):∀{dv:DV} {x:V},dH C F dv x->dH C' F dv x
 | .im _,_,h=>h
 | .pt _,_,h=>h
 | .cst _,_,⟨a,e,h⟩=>⟨a,e,fun H=>by rw[hK];exact h H⟩
 | .rf _,_,h=>h
 | .ty _,_,h=>h
 | .vD _,_,h=>h
 | .raw _,_,h=>h
 | .lE _,_,⟨a,e,h⟩=>⟨a,e,by rw[hK];exact h⟩
 | .tp _,_,h=>h
theorem aM.conv(hK:C'.K=C.K):∀{aK:List DV} {xs:List V},aM C F aK xs->aM C' F aK xs
 | [],_,h=>h
 | _::_,_,⟨y,ys,e,h,r⟩=>⟨y,ys,e,h.conv hK,aM.conv hK r⟩
theorem bS.conv(hK:C'.K=C.K){p:Addr}(hp:c.plain=true)(s:aT (Fz C W H) (Fz C' W' H))(h:bS C W H p c):bS C' W' H p c:=by
 cases c with
 | lst aK=>obtain⟨xs,e,r⟩:=h;exact⟨xs,e,(r.mono s).conv hK⟩
 | aI g n=>cases hp
 | part=>cases hp
 | dk kvs=>obtain⟨ks,e,k,r⟩:=h;exact⟨ks,e,k,(r.mono s).conv hK⟩
 | dt kvs=>obtain⟨ks,e,k,r⟩:=h;exact⟨ks,e,k,(r.mono s).conv hK⟩
 | ob _ _ kvs=>obtain⟨ks,e,k,r⟩:=h;exact⟨ks,e,k,(r.mono s).conv hK⟩
theorem gJ(h:o6 W D a=some c):D a/\W a=some c:=by
 unfold o6 at h;split at h
 ·exact⟨by assumption,h⟩
 ·cases h
theorem MY(h:D a):o6 W D a=W a:=by unfold o6;rw[aaE h]
theorem Ho(h:¬ D a):o6 W D a=none:=by unfold o6;rw[aaA h]
theorem kO(h:AJ W D W' a=some c):(W' a=some c/\c.plain=true)\/(¬ D a/\W a=some c/\(W' a=none\/∃ c',W' a=some c'/\c'.plain=false)):=by
 unfold AJ at h;cases q:W' a with
 | some c' =>
  rw[q]at h;dsimp only at h;split at h
  ·cases h;exact .inl ⟨rfl,by assumption⟩
  ·split at h
   ·cases h
   ·exact .inr ⟨by assumption,h,.inr ⟨c',rfl,by simpa using ‹¬ c'.plain=true›⟩⟩
 | none =>
  rw[q]at h;dsimp only at h;split at h
  ·cases h
  ·exact .inr ⟨by assumption,h,.inl rfl⟩
theorem MZ(h:W' a=some c)(hp:c.plain=true):AJ W D W' a=some c:=by
 unfold AJ;rw[h];exact aaE hp
theorem Dq(hd:¬ D a)(h:W' a=none):AJ W D W' a=W a:=by
 unfold AJ;rw[h];exact aaA hd
theorem uv(hW:∀ a,W' a≠none->D a\/W a=none)(hd:¬ D a)(h:W a=some c):AJ W D W' a=some c:=by
 cases q:W' a with
 | none=>rw[Dq hd q];exact h
 | some c' =>
  rcases hW a (by rw[q];exact fun z=>nomatch z)with z | z
  ·exact absurd z hd
  ·rw[z]at h;cases h
theorem Dr{K:zn}{S:kN}{X:Addr->Prop}{E:XK}(hK:C.K=K)(hX:∀ c H',X c->(∀ a o,C.H0 a=some o->¬ C.T a->H' a=some o)->E (.ref c) none H'){as:List DV}{xs:List V}(R:DR C σ H ρ W)(h:aM C (Fz C W H) as xs)(hd:dW S X as W Qd)(k:KE C σ ρ W H Qd Q):fv K S xs H Q E:=by
 obtain⟨D,nL,hS⟩:=hd;have cs:∀ H1,aT (Fz C W H1) (Fz (vF K H (o6 W D) (fun a=>C.O a\/((W a).isSome=true/\¬ D a)) E X) (o6 W D) H1):=fun H1 a o e=>by
  obtain⟨h1,h2⟩:=aC.mp e;refine aC.mpr ⟨fun z=>h1 ?_,h2⟩;rcases z with(z | z) | z
  ·exact .inl z
  ·exact .inr z.1
  ·cases q:o6 W D a with
   | none=>rw[q]at z;cases z
   | some c=>exact .inr (by rw[(gJ q).2];rfl)
 refine⟨fun a=>C.O a\/((W a).isSome=true/\¬ D a),as,o6 W D,_,X,fun a ha=>?_,fun p c e=>?_,(h.mono (cs H)).conv hK.symm,hS,fun v dv H' W' q f1 f2 f3 hv=>?_,fun c H' hc f1=>hX c H' hc fun a o e ht=>?_⟩
 ·rcases ha with ha | ha
  ·exact R.ho a ha
  ·cases q:W a with
   | none=>rw[q]at ha;cases ha.1
   | some c=>exact R.there q
 ·obtain⟨IK,e'⟩:=gJ e;obtain⟨g1,g2,g3⟩:=R.ce p c e';exact⟨fun z=>z.elim g2 fun z=>z.2 IK,g3.conv (C':=vF K H (o6 W D) (fun a=>C.O a\/((W a).isSome=true/\¬ D a)) E X) hK.symm (nL p c IK e') (cs H)⟩
 ·have Rn:∀ a,W' a≠none->D a\/W a=none:=fun a ha=>by
   cases q':W' a with
   | none=>exact absurd q' ha
   | some c =>
    obtain⟨g1,g2,_⟩:=f3 a c q';rcases g1 with g1 | g1
    ·exact .inr (R.fresh g1)
    ·cases q2:o6 W D a with
     | none=>rw[q2]at g1;cases g1
     | some c'=>exact .inl (gJ q2).1
  have eqv:∀ H1,aT (Fz (vF K H (o6 W D) (fun a=>C.O a\/((W a).isSome=true/\¬ D a)) E X) W' H1) (Fz C (AJ W D W') H1):=fun H1 a o e=>by
   obtain⟨h1,h2⟩:=aC.mp e;refine aC.mpr ⟨fun z=>h1 ?_,h2⟩;rcases z with z | z
   ·exact .inl (.inl z)
   ·cases q:AJ W D W' a with
    | none=>rw[q]at z;cases z
    | some c =>
     rcases kO q with⟨g,_⟩ | ⟨g1,g2,_⟩
     ·exact .inr (by rw[g];rfl)
     ·exact .inl (.inr ⟨by rw[g2];rfl,g1⟩)
  have hk:∀ p c,¬ D p->W p=some c->H' p=H p:=fun p c IK e=>by
   cases q:H p with
   | none=>exact absurd q (R.there e)
   | some o=>exact f1 p o q (Ho IK)
  obtain⟨R',s'⟩:=R.step (W':=AJ W D W') (H':=H') (fun a z=>by
    cases q:AJ W D W' a with
    | none=>rw[q]at z;cases z
    | some c =>
     rcases kO q with⟨g,_⟩ | ⟨g1,g2,_⟩
     ·obtain⟨e1,_,_⟩:=f3 a c g;rcases e1 with e1 | e1
      ·exact .inr e1
      ·cases q2:o6 W D a with
       | none=>rw[q2]at e1;cases e1
       | some c'=>exact .inl (by rw[(gJ q2).2];rfl)
     ·exact .inl (by rw[g2];rfl)) (fun a o e w'=>f1 a o e (by
      cases q2:o6 W D a with
      | none=>rfl
      | some c'=>rw[(gJ q2).2]at w';cases w')) f2 fun s p c e=>by
   rcases kO e with⟨g,hp⟩ | ⟨g1,g2,g3⟩
   ·obtain⟨e1,e2,e3⟩:=f3 p c g;refine⟨?_,fun z=>e2 (.inl z),e3.conv hK hp (eqv H')⟩;rcases e1 with e1 | e1
    ·exact .inl (R.Jv e1)
    ·cases q2:o6 W D p with
     | none=>rw[q2]at e1;cases e1
     | some c'=>exact(R.ce p c' (gJ q2).2).1
   ·obtain⟨e1,e2,e3⟩:=R.ce p c g2;refine⟨e1,e2,?_⟩;have hp:=hk p c g1 g2;cases c with
    | lst aK=>obtain⟨xs,e,r⟩:=e3;exact⟨xs,by rw[hp];exact e,r.mono s⟩
    | part=>show Mu (H' p);rw[hp];exact e3
    | dk kvs=>obtain⟨ks,e,k,r⟩:=e3;exact⟨ks,by rw[hp];exact e,k,r.mono s⟩
    | dt kvs=>obtain⟨ks,e,k,r⟩:=e3;exact⟨ks,by rw[hp];exact e,k,r.mono s⟩
    | ob _ _ kvs=>obtain⟨ks,e,k,r⟩:=e3;exact⟨ks,by rw[hp];exact e,k,r.mono s⟩
    | aI g n =>
     obtain⟨r,eg,u⟩:=e3;have dg:¬ D g:=fun z=>by have:=nL g _ z eg;cases this
     refine⟨R.ok.rs r hp (hk g _ dg eg),uv Rn dg eg,fun t' g' n' z=>?_⟩;rcases kO z with⟨_,z2⟩ | ⟨_,z2,_⟩
     ·cases z2
     ·exact u t' g' n' z2
  exact k v dv H' _ R' s' ((hv.mono (eqv H')).conv hK) (q Rn)
 ·refine f1 a o (R.fr a o e ht) ?_;cases q2:o6 W D a with
  | none=>rfl
  | some c' =>
   rcases (R.ce a c' (gJ q2).2).1 with z | z
   ·rw[z]at e;cases e
   ·exact absurd z ht
end
end L2
namespace L2
open PySem PySem.Spec PyProof.Rows
variable {as:List DV}{X:Addr->Prop}
noncomputable def putD(f:Str)(v:DV):List (Str×DV)->List (Str×DV)
 | []=>[(f,v)]
 | (g,x)::r=>if g=f then(g,v)::r else(g,x)::putD f v r
section
variable {C:DC}{σ:St}{H H':Hp}{ρ:bR}{W W':Wd}{Qd:DK}{Q:VK}{F:Hp}{K:zn}{ta tv:TE}{da dv:cV}{ts:TA}{ds:ml}{kC:Addr}{f m:Str}
theorem rL:∀{fs:List (Str×DV)} {gq:List (Str×V)},gq.map (·.1)=fs.map (·.1)->aM C F (fs.map (·.2)) (gq.map (·.2))->∀{d:DV},fs.lookup f=some d->∃ v,gq.lookup f=some v/\dH C F d v
 | [],_,_,_,_,e=>by cases e
 | (g,x)::r,[],hk,_,_,_=>by cases hk
 | (g,x)::r,(g',x')::r',hk,⟨y,ys,ey,hy,hr⟩,d,e=>by
  have CJ:g'::r'.map (·.1)=g::r.map (·.1):=hk;have Vi:x'::r'.map (·.2)=y::ys:=ey;injection CJ with k1 k2
  injection Vi with y1 y2
  subst k1 y1 y2;rw[aaZ]at e ⊢;cases q:(f == g') with
  | true=>rw[q]at e;cases e;exact⟨x',rfl,hy⟩
  | false=>rw[q]at e;exact rL k2 hr e
theorem zg:∀{fs:List (Str×DV)} {gq:List (Str×V)},gq.map (·.1)=fs.map (·.1)->fs.lookup f=none->gq.lookup f=none
 | [],[],_,_=>rfl
 | [],_::_,hk,_=>by cases hk
 | (g,x)::r,[],hk,_=>by cases hk
 | (g,x)::r,(g',x')::r',hk,e=>by
  have CJ:g'::r'.map (·.1)=g::r.map (·.1):=hk;injection CJ with k1 k2
  subst k1;rw[aaZ]at e ⊢;cases q:(f == g') with
  | true=>rw[q]at e;cases e
  | false=>rw[q]at e;exact zg k2 e
theorem Ds{d:DV}{v:V}(hv:dH C F d v):∀{fs:List (Str×DV)} {gq:List (Str×V)},gq.map (·.1)=fs.map (·.1)->aM C F (fs.map (·.2)) (gq.map (·.2))->(gO f v gq).map (·.1)=(putD f d fs).map (·.1)/\aM C F ((putD f d fs).map (·.2)) ((gO f v gq).map (·.2))
 | [],[],_,_=>⟨rfl,aM.one hv⟩
 | [],_::_,hk,_=>by cases hk
 | (g,x)::r,[],hk,_=>by cases hk
 | (g,x)::r,(g',x')::r',hk,⟨y,ys,ey,hy,hr⟩=>by
  have CJ:g'::r'.map (·.1)=g::r.map (·.1):=hk;have Vi:x'::r'.map (·.2)=y::ys:=ey;injection CJ with k1 k2
  injection Vi with y1 y2
  subst k1 y1 y2;unfold gO putD
  by_cases h:g'=f
  ·rw[aaE h,aaE h];exact⟨by show g'::_=g'::_;rw[k2],v,_,rfl,hv,hr⟩
  ·rw[aaA h,aaA h];obtain⟨a1,a2⟩:=Ds hv k2 hr;exact⟨by show g'::_=g'::_;rw[a1],x',_,rfl,hy,a2⟩
def Ro(K:zn)(f:Str)(da:cV):cV:=fun ρ W Q=>da ρ W fun a W1=>∃ p k d fs v,a=.pt p/\W1 p=some (.ob k d fs)/\my K k/\cI K k f/\fs.lookup f=some v/\Q v W1
instance [hk:mD C K][ia:LE C ta da]:LE C (Li K ta f) (Ro K f da):=⟨fun D h k=>ia.go D h fun x dx H1 W1 D1 s1 v1 zz=>by
 obtain⟨p,kc,d,fs,v,e1,e2,c,n,l,q⟩:=zz
 subst e1;obtain⟨_,_,gq,g1,g2,g3⟩:=D1.ce p _ e2;obtain⟨u,l',hu⟩:=rL g2 g3 l;exact⟨p,kc,d,gq,u,v1,g1,c,n,l',k.mono s1 |>.now D1 hu q⟩⟩
noncomputable def zh(K:zn)(f:Str)(da dv:cV):jP:=fun De ρ W=>dv ρ W fun y W1=>da ρ W1 fun a W2=>∃ p k d fs,a=.pt p/\W2 p=some (.ob k d fs)/\my K k/\cI K k f/\fs.length < 1000/\De.nx ρ (aH W2 p (.ob k d (putD f y fs)))
theorem len_eq{fs:List (Str×DV)}{gq:List (Str×V)}(h:gq.map (·.1)=fs.map (·.1)):gq.length=fs.length:=by have:=abK List.length h;simpa using this
theorem DR.Rp{p k d:Addr}{fs:List (Str×DV)}{gq:List (Str×V)}{y:DV}{v:V}(D:DR C σ H ρ W)(e:W p=some (.ob k d fs))(g2:gq.map (·.1)=fs.map (·.1))(g3:aM C (Fz C W H) (fs.map (·.2)) (gq.map (·.2)))(hv:dH C (Fz C W H) y v):DR C σ (upd H p (.ins k d (gO f v gq))) ρ (aH W p (.ob k d (putD f y fs)))/\aT (Fz C W H) (Fz C (aH W p (.ob k d (putD f y fs))) (upd H p (.ins k d (gO f v gq)))) :=
 D.OF e rfl rfl fun s=>by
  obtain⟨a1,a2⟩:=Ds (f:=f) hv g2 g3;exact⟨_,cn,a1,a2.mono s⟩
noncomputable instance [hk:mD C K][ia:LE C ta da][iv:LE C tv dv]:LS C (Lj K ta tv f) (zh K f da dv):=⟨fun D h m=>iv.go D h fun y dy H1 W1 D1 s1 v1 h1=>ia.go D1 h1 fun x dx H2 W2 D2 s2 v2 zz=>by
 obtain⟨p,kc,d,fs,e1,e2,c,n,l,q⟩:=zz
 subst e1;obtain⟨_,_,gq,g1,g2,g3⟩:=D2.ce p _ e2;obtain⟨D3,s3⟩:=D2.Rp (f:=f) e2 g2 g3 (v1.mono s2);exact⟨p,kc,d,gq,v2,g1,c,n,by rw[len_eq g2];exact l,m.nx _ _ _ _ D3 ((s1.trans s2).trans s3) q⟩⟩
noncomputable def rM(K:zn)(f:Str)(dr:pU)(da dv:cV):jP:=fun De ρ W=>da ρ W fun a W1=>∃ p k d fs v,a=.pt p/\W1 p=some (.ob k d fs)/\my K k/\cI K k f/\fs.lookup f=some v /\
 dv ρ W1 fun y W2=>dr v y W2 fun z W3=>∃ d' gq,W3 p=some (.ob k d' gq)/\gq.length < 1000/\De.nx ρ (aH W3 p (.ob k d' (putD f z gq)))
noncomputable instance {rd:R2}{dr:pU}[hk:mD C K][ia:LE C ta da][iv:LE C tv dv][ir:AB C rd dr]:LS C (qG K ta tv rd f) (rM K f dr da dv):=⟨fun{σ H ρ W De D'} D h m=>ia.go D h fun x dx H1 W1 D1 s1 v1 zz=>by
 obtain⟨p,kc,d,fs,v,e1,e2,c,n,l,q⟩:=zz
 subst e1;obtain⟨_,_,gq,g1,g2,g3⟩:=D1.ce p _ e2;obtain⟨u,l',hu⟩:=rL g2 g3 l;refine⟨p,kc,d,gq,u,v1,g1,c,n,l',iv.go D1 q fun y dy H2 W2 D2 s2 v2 q2=>?_⟩;refine ir.go (Qd:=fun z W3=>∃ d' gq,W3 p=some (.ob kc d' gq)/\gq.length < 1000/\De.nx ρ (aH W3 p (.ob kc d' (putD f z gq)))) D2 (hu.mono s2) v2 q2 fun z dz H3 W3 D3 s3 v3 ⟨d',fs2,e3,l3,q3⟩=>?_;obtain⟨_,_,ZO,k1,k2,k3⟩:=D3.ce p _ e3;obtain⟨D4,s4⟩:=D3.Rp (f:=f) e3 k2 k3 v3;exact⟨d',ZO,k1,by rw[len_eq k2];exact l3,m.nx _ _ _ _ D4 (((s1.trans s2).trans s3).trans s4) q3⟩⟩
def JU(kC:Addr)(m:Str)(g:List DV->Wd->DK->Prop)(da:cV)(ds:ml):cV:=fun ρ W Q=>da ρ W fun a W1=>∃ p d fs,a=.pt p/\W1 p=some (.ob kC d fs)/\fs.lookup m=none/\ds ρ W1 fun vs W2=>g (a::vs) W2 Q
instance {sp:Sp}{E:XK}{g:List DV->Wd->DK->Prop}[ir:G7 C sp E g][ia:LE C ta da][is:LA C ts ds]:LE C (tF kC m sp [] E ta ts) (JU kC m g da ds):=⟨fun D h k=>ia.go D h fun x dx H1 W1 D1 s1 v1 zz=>by
 obtain⟨p,d,fs,e1,e2,l,q⟩:=zz
 subst e1;obtain⟨_,_,gq,g1,g2,g3⟩:=D1.ce p _ e2;refine⟨p,d,gq,v1,g1,zg g2 l,is.go D1 q fun xs aK H2 W2 D2 s2 v2 q2=>?_⟩;rw[ab0];exact ir.go (as:=.pt p::aK) D2 ⟨x,xs,rfl,v1,v2⟩ q2 (k.mono (s1.trans s2))⟩
def JV(kC:Addr)(g:List DV->Wd->DK->Prop)(ds:ml):cV:=fun ρ W Q=>ds ρ W fun vs W1=>∀ x d,W1 x=none->W1 d=none->d≠x->g (.pt x::vs) (aH W1 x (.ob kC d [])) fun v W2=>v=.im .none/\Q (.pt x) W2
instance {sp:Sp}{E:XK}{g:List DV->Wd->DK->Prop}[ir:G7 C sp E g][is:LA C ts ds]:LE C (B5 kC sp [] E ts) (JV kC g ds):=⟨fun D h k=>is.go D h fun xs aK H1 W1 D1 s1 v1 q=>fun x d hx hd i4=>by
 rw[ab0];obtain⟨D2,s2,_⟩:=D1.Bt hd (.own x);have Vj:upd H1 d (.own x) x=none:=by rw[bw (acf i4)];exact hx
 obtain⟨D3,s3⟩:=D2.L8 (c:=.ob kC d []) (o:=.ins kC d []) Vj rfl fun s=>⟨[],cn,rfl,rfl⟩;exact ir.go (as:=.pt x::aK) D3 ⟨_,_,rfl,rfl,v1.mono (s2.trans s3)⟩ (q x d (D1.fresh hx) (D1.fresh hd) i4) fun v dv H2 W2 D4 s4 hv zz=>by
  obtain⟨e,q2⟩:=zz
  subst e;exact⟨hv,k _ (.pt x) _ _ D4 (((s1.trans s2).trans s3).trans s4) rfl q2⟩⟩
end
structure jm(P:u8)(w:World)(K:zn)(mg:xL)(base:Heap)(k:Nat)(C:Addr)(m:Str)(f:Addr)(fd:wT)(ps:wv)(sp:Sp):Prop where
 cls:my K C
 me:Meth K C m f
 ok:ba P w K mg base cU k f fd ps sp
 b:Binds K fd ps []
structure Vk(P:u8)(w:World)(K:zn)(mg:xL)(base:Heap)(k:Nat)(C:Addr)(x:Str)(f:Addr)(fd:wT)(ps:wv)(sp:Sp):Prop where
 ma:Mk K C f
 ok:ba P w K mg base cU k f fd ps sp
 b:Binds K fd ps []
 m:mg x=some (.ref C)
section
variable {X:Cx}{o e value:Expr}{es:v6}{x m f:Str}{C fa:Addr}{p pos pos' apos B3:Pos}{ta tv:TE}{t:TA}{k j:Nat}{fd:wT}{ps:wv}{sp:Sp}
theorem bA(he:SE X e ta)(hb:autoParam (attributeBase e f X.env (eval e X.env)=eval e X.env) ra0):SE X (.Attribute e f pos) (Li X.K ta f):=⟨Lk he.run hb⟩
theorem cZ(ha:SE X o ta)(hv:SE X value tv)(hs:autoParam (swapsWith value (some (.Attribute o f pos')) pos.line X.env=pure false) ra0):SS X (.Assign [.Attribute o f pos'] value pos) (Lj X.K ta tv f):=⟨Ll ha.run hv.run hs⟩
theorem ou{op:Operator}{rd:R2}(TQ:iq X (inplaceOp op) rd)(ha:SE X o ta)(hv:SE X value tv):SS X (.AugAssign (.Attribute o f B3) op value pos) (qG X.K ta tv rd f):=⟨zZ ha.run hv.run fun pins s σ H x y u v Q I rx ry h=>TQ pins s σ H x y u v Q I rx ry h⟩
theorem eO{pl:Sem Bool}(D:jm X.prog X.w X.K X.mg X.base k C m fa fd ps sp)(hr:cT j X.A)(he:SE X o ta)(ha:SA X (e::es) t)(hk:autoParam (k<=j) ra7)(hs:autoParam ((e::es).all noStar=true) ra0)(ht:eval (.Call (.Attribute o m apos) (e::es) [] pos) X.env=(do
   let ov <- eval o X.env
   standAt apos.atName
   let (f,first) <- holding [ov] (getMethod ov m pl)
   callWith pos f first (backTo pos (starEach (e::es) X.env)) (backToKw pos (keywordEach [] X.env))):=by rfl):SE X (.Call (.Attribute o m apos) (e::es) [] pos) (tF C m sp [] E0 ta t) :=
 ⟨Gp (pl:=pl) he.run D.cls D.me (D.ok.mono hk) hr D.b .nil yD ha.run (cW es X.env (by rw[aaX,aaC]at hs;exact hs.1)) (fU (by rw[aaX,aaC]at hs;exact hs.2)) ht⟩
theorem zi{pl:Sem Bool}(D:jm X.prog X.w X.K X.mg X.base k C m fa fd ps sp)(hr:cT j X.A)(he:SE X o ta)(hk:autoParam (k<=j) ra7)(ht:eval (.Call (.Attribute o m apos) [] [] pos) X.env=(do
   let ov <- eval o X.env
   standAt apos.atName
   let (f,first) <- holding [ov] (getMethod ov m pl)
   callWith pos f first (backTo pos (starEach [] X.env)) (backToKw pos (keywordEach [] X.env))):=by rfl):SE X (.Call (.Attribute o m apos) [] [] pos) (tF C m sp [] E0 ta qH) :=
 ⟨B6 (pl:=pl) he.run D.cls D.me (D.ok.mono hk) hr D.b .nil yD ht⟩
theorem Na(D:Vk X.prog X.w X.K X.mg X.base k C x fa fd ps sp)(hr:cT j X.A)(ha:SA X (e::es) t)(hk:autoParam (k+1<=j) ra7)(hs:autoParam ((e::es).all noStar=true) ra0)(hg:autoParam (Gl X x) ra0)(tG:autoParam ((x == ("__debug__":Str))=false) ra1) :
  SE X (.Call (.Name x p) (e::es) [] pos) (B5 C sp [] E0 t) :=
 ⟨Gq D.ma D.ok (hr.mono hk) hg D.m D.b .nil yD ha.run tG (cW es X.env (by rw[aaX,aaC]at hs;exact hs.1)) (fU (by rw[aaX,aaC]at hs;exact hs.2))⟩
end
section
variable {K:zn}{ρ:bR}{W:Wd}{Q:DK}{De:gG}{da dv:cV}{ds:ml}{ts:List (PyData ⊕ Addr)}{f m:Str}{kC:Addr}{g:List DV->Wd->DK->Prop}{S:kN}{v:DV}{vs:List DV}
theorem Rq(h:da ρ W fun a W1=>∃ p k d fs v,a=.pt p/\W1 p=some (.ob k d fs)/\my K k/\cI K k f/\fs.lookup f=some v/\Q v W1):Ro K f da ρ W Q:=h
theorem Nb(h:da ρ W fun a W1=>∃ p d fs,a=.pt p/\W1 p=some (.ob kC d fs)/\fs.lookup m=none/\ds ρ W1 fun vs W2=>g (a::vs) W2 Q):JU kC m g da ds ρ W Q:=h
theorem Nc(h:ds ρ W fun vs W1=>∀ x d,W1 x=none->W1 d=none->d≠x->g (.pt x::vs) (aH W1 x (.ob kC d [])) fun v W2=>v=.im .none/\Q (.pt x) W2):JV kC g ds ρ W Q:=h
end
def Dt(c:Cell):Prop:=∃ ds,c=.lst (ds.map .im)/\kF ds=true
def Hq:List (PyData ⊕ Addr)->Prop
 | []=>True
 | .inl d::r=>Im d=true/\Hq r
 | .inr _::r=>Hq r
def XQ:DV->Prop
 | .im d=>Im d=true
 | .pt _=>True
 | .tp ts=>Hq ts
 | _=>False
open Classical in
noncomputable def addW (W W':Wd):Wd:=fun a=>if ∃ c,W' a=some c/\Dt c then W' a else W a
def XR(S:kN)(X:Addr->Prop):List DV->Wd->DK->Prop:=fun as W Q=>∃ ds,fX (dat 4 W) as=some ds/\S (ds.map .im) W0 (fun dv W'=>XQ dv/\((∀ a,W' a≠none->W a=none)->Q dv (addW W W'))) X
section
variable {C:DC}{σ:St}{H H':Hp}{ρ:bR}{W W':Wd}{Qd:DK}{Q:VK}{F F':Hp}
theorem gC.tp(h:Tp F F'):∀{ts:List (PyData ⊕ Addr)} {vs:List V},Hq ts->gC F ts vs->gC F' ts vs
 | [],_,_,h=>h
 | .inl _::_,_,hi,⟨y,ys,e,h1,r⟩=>⟨y,ys,e,Rep.tp h hi.1 h1,gC.tp h hi.2 r⟩
 | .inr _::_,_,hi,⟨ys,e,r⟩=>⟨ys,e,gC.tp h hi r⟩
theorem dH.tp{C':DC}(h:Tp F F'):∀{dv:DV} {x:V},XQ dv->dH C' F dv x->dH C F' dv x
 | .im _,_,hi,v=>Rep.tp h hi v
 | .pt _,_,_,v=>v
 | .tp _,_,hi,⟨a,vs,e,h1,r⟩=>⟨a,vs,e,h _ _ h1,r.tp h hi⟩
 | .cst _,_,hi,_=>hi.elim
 | .rf _,_,hi,_=>hi.elim
 | .ty _,_,hi,_=>hi.elim
 | .vD _,_,hi,_=>hi.elim
 | .raw _,_,hi,_=>hi.elim
 | .lE _,_,hi,_=>hi.elim
theorem jI{a:Addr}{c:Cell}(h:addW W W' a=some c):(W' a=some c/\Dt c)\/W a=some c:=by
 unfold addW at h;split at h
 ·rename_i z;obtain⟨c',e,hi⟩:=z;rw[e]at h;cases h;exact .inl ⟨e,hi⟩
 ·exact .inr h
theorem AK{a:Addr}{c:Cell}(hW:∀ a,W' a≠none->W a=none)(h:W a=some c):addW W W' a=some c:=by
 unfold addW;split
 ·rename_i z;obtain⟨c',e,hi⟩:=z;rw[hW a (by rw[e];exact fun z=>nomatch z)]at h;cases h
 ·exact h
theorem Du{K:zn}{S:kN}{E:XK}(hK:C.K=K)(hX:∀ c H',X c->(∀ a o,C.H0 a=some o->¬ C.T a->H' a=some o)->E (.ref c) none H'){xs:List V}(R:DR C σ H ρ W)(h:aM C (Fz C W H) as xs)(hd:XR S X as W Qd)(k:KE C σ ρ W H Qd Q):fv K S xs H Q E:=by
 obtain⟨ds,e,hS⟩:=hd;have ra:=gE (fun dv x d h e=>R.dat 4 h e) h e;have US:aT (hide (fun a=>C.O a\/eT (W a)) H) (Fz (vF K H W0 (fun a=>C.O a\/eT (W a)) E X) W0 H):=fun a o e=>by
  obtain⟨h1,h2⟩:=aC.mp e;exact aC.mpr ⟨fun z=>h1 (z.elim id fun z=>by cases z),h2⟩
 refine⟨fun a=>C.O a\/eT (W a),ds.map .im,W0,_,X,fun a ha=>?_,(fun p c e=>by cases e),aM.gD (az.same US ra),hS,fun v dv H' W' q f1 f2 f3 hv=>?_,fun c H' hc f1=>hX c H' hc fun a o e ht=>f1 a o (R.fr a o e ht) rfl⟩
 ·rcases ha with ha | ha
  ·exact R.ho a ha
  ·obtain⟨c,e⟩:=gv ha;exact R.there e
 ·have s:aT H H':=fun a o e=>f1 a o e rfl;have Rn:∀ a,W' a≠none->W a=none:=fun a ha=>by
   cases q':W' a with
   | none=>exact absurd q' ha
   | some c =>
    rcases (f3 a c q').1 with g1 | g1
    ·exact R.fresh g1
    ·cases g1
  obtain⟨R1,s1⟩:=R.same s;have XS:Tp (Fz (vF K H W0 (fun a=>C.O a\/eT (W a)) E X) W' H') (Fz C (addW W W') H'):=fun b zs e=>by
   obtain⟨h1,h2⟩:=aC.mp e;refine aC.mpr ⟨fun z=>?_,h2⟩;rcases z with z | z
   ·exact h1 (.inl (.inl z))
   ·cases q2:addW W W' b with
    | none=>rw[q2]at z;cases z
    | some c =>
     rcases jI q2 with⟨g,_⟩ | g
     ·exact h1 (.inr (by rw[g];rfl))
     ·obtain⟨u,e1,e2⟩:=(R1.ce b c g).2.2.mu R1.ok;rw[h2]at e1;cases e1;exact e2 zs rfl
  obtain⟨R',s'⟩:=R.step (W':=addW W W') (H':=H') (fun a z=>by
    cases q2:addW W W' a with
    | none=>rw[q2]at z;cases z
    | some c =>
     rcases jI q2 with⟨g,_⟩ | g
     ·rcases (f3 a c g).1 with g1 | g1
      ·exact .inr g1
      ·cases g1
     ·exact .inl (by rw[g];rfl)) (fun a o e _=>s a o e) f2 fun s2 p c e=>by
   rcases jI e with⟨g,es,rfl,hi⟩ | g
   ·obtain⟨e1,e2,e3⟩:=f3 p _ g;have hp:H p=none:=by
     rcases e1 with e1 | e1
     ·exact e1
     ·cases e1
    obtain⟨ys,g1,g2⟩:=e3;exact⟨.inl (R.Jv hp),R.nO hp,ys,g1,aM.gD (az.tp XS hi (g2.uc))⟩
   ·obtain⟨e1,e2,e3⟩:=R.ce p c g;have hp:=gW s (R.there g);refine⟨e1,e2,?_⟩;cases c with
    | lst aK=>obtain⟨xs,e,r⟩:=e3;exact⟨xs,by rw[hp];exact e,r.mono s2⟩
    | part=>show Mu (H' p);rw[hp];exact e3
    | dk kvs=>obtain⟨ks,e,k,r⟩:=e3;exact⟨ks,by rw[hp];exact e,k,r.mono s2⟩
    | dt kvs=>obtain⟨ks,e,k,r⟩:=e3;exact⟨ks,by rw[hp];exact e,k,r.mono s2⟩
    | ob _ _ kvs=>obtain⟨ks,e,k,r⟩:=e3;exact⟨ks,by rw[hp];exact e,k,r.mono s2⟩
    | aI t n =>
     obtain⟨r,eg,u⟩:=e3;refine⟨R.ok.rs r hp (gW s (R.there eg)),AK Rn eg,fun t' g' n' z=>?_⟩;rcases jI z with⟨_,_,z2,_⟩ | z2
     ·cases z2
     ·exact u t' g' n' z2
  exact k v dv H' _ R' s' (hv.tp XS q.1) (q.2 Rn)
def S4(S:kN)(X:Addr->Prop):List DV->Wd->DK->Prop:=fun as W Q=>dW S X as W Q\/XR S X as W Q
theorem Dv{K:zn}{S:kN}{E:XK}(hK:C.K=K)(hX:∀ c H',X c->(∀ a o,C.H0 a=some o->¬ C.T a->H' a=some o)->E (.ref c) none H'){xs:List V}(R:DR C σ H ρ W)(h:aM C (Fz C W H) as xs)(hd:S4 S X as W Qd)(k:KE C σ ρ W H Qd Q):fv K S xs H Q E :=
 hd.elim (fun z=>Dr hK hX R h z k) (fun z=>Du hK hX R h z k)
instance {K:zn}[hk:mD C K]{S:kN}:G7 C (fv K S) E0 (S4 S fun _=>False):=⟨fun R h hd k=>Dv hk.eq (fun c H' hc _=>hc.elim) R h hd k⟩
end
section
variable {W:Wd}{Q:DK}{S:kN}{vs:List DV}{ds:wE}
theorem Hr(D:Addr->Prop)(hp:∀ a c,D a->W a=some c->c.plain=true)(h:S vs (o6 W D) (fun dv W'=>(∀ a,W' a≠none->D a\/W a=none)->Q dv (AJ W D W')) X):S4 S X vs W Q:=.inl ⟨D,hp,h⟩
end
end L2
namespace L2
open PySem PySem.Spec PyProof.Rows
end L2
namespace L2
open PySem PySem.Spec PyProof.Rows
variable {α:Type}{a:Addr}{x:Addr×Cell}{xs:Array Nat}{es:Array (Int×Value)}
abbrev Ws:=List (Addr×Cell)
structure At(W:Wd)(L:Ws):Prop where
 nd:(L.map (·.1)).Nodup
 at_:∀ x∈L,W x.1=some x.2
def PlainL(L:Ws):Bool:=L.all fun x=>x.2.plain
theorem AL{l:List α}{a:α}(h:l.Nodup)(ha:a ∉ l)(i:Nat):(l.set i a).Nodup:=by
 have pw:=abW.mp h;refine abW.mpr fun j k hj hk hl=>?_;rw[adh,adh];rw[adk]at hj hk;split
 ·split
  ·omega
  ·exact fun z=>ha (z▸abF _)
 ·split
  ·exact fun z=>ha (z▸abF _)
  ·exact pw j k hj hk hl
section
variable {W W':Wd}{L L':Ws}{c c':Cell}{i:Nat}
theorem At.get(h:At W L)(i:Nat)(e:L[i]?=some (a,c)):W a=some c:=h.at_ _ (abw e)
theorem At.key(h:At W L)(i:Nat)(e:L[i]?=some (a,c)){j:Nat}(ej:L[j]?=some x)(ne:i≠j):x.1≠a:=fun z=>by
 have hi:=(aas.mp e).1;have hj:=(aas.mp ej).1;have e1:(L.map (·.1))[i]'(by simpa using hi)=a:=by rw[acK,(aas.mp e).2]
 have e2:(L.map (·.1))[j]'(by simpa using hj)=a:=by rw[acK,(aas.mp ej).2];exact z
 have pw:=abW.mp h.nd;rcases Nat.lt_or_gt_of_ne ne with l | l
 ·exact pw i j (by simpa using hi) (by simpa using hj) l (e1.trans e2.symm)
 ·exact pw j i (by simpa using hj) (by simpa using hi) l (e2.trans e1.symm)
theorem Dw(e:L[i]?=some (a,c)):(L.set i (a,c')).map (·.1)=L.map (·.1):=by
 rw[adq];have hi:=(aas.mp e).1;have e1:(L.map (·.1))[i]'(by simpa using hi)=a:=by rw[acK,(aas.mp e).2]
 exact adi (by simp) fun j h1 h2=>by
  rw[adh];split
  ·rename_i z;subst z;exact e1.symm
  ·rfl
theorem At.gR(h:At W L)(i:Nat)(e:L[i]?=some (a,c))(f:Fr a W W')(w:W' a=some c'):At W' (L.set i (a,c')):=by
 refine⟨by rw[Dw e];exact h.nd,fun x hx=>?_⟩;obtain⟨j,hj⟩:=List.getElem?_of_mem hx;rw[List.getElem?_set]at hj;split at hj
 ·split at hj
  ·cases hj;exact w
  ·cases hj
 ·rename_i ne;exact f.at (h.key i e hj ne) (h.at_ _ (abw hj))
theorem At.set(h:At W L)(i:Nat)(e:L[i]?=some (a,c)):At (aH W a c') (L.set i (a,c')):=h.gR i e (fun b hb=>aE hb) au
theorem At.old(h:At W L)(hn:W a=none)(hx:x∈L):x.1≠a:=fun z=>by
 have:=h.at_ x hx;rw[z,hn]at this;cases this
theorem At.mono(h:At W L)(k:∀ x∈L,W x.1=some x.2->W' x.1=some x.2):At W' L:=⟨h.nd,fun x hx=>k x hx (h.at_ x hx)⟩
theorem At.cons(h:At W L)(hn:W a=none)(f:Fr a W W')(w:W' a=some c):At W' ((a,c)::L) :=
 ⟨aca.mpr ⟨fun z=>by obtain⟨x,hx,e⟩:=aa8.mp z;exact h.old hn hx e,h.nd⟩,fun x hx=>by
  rcases aan.mp hx with z | z
  ·subst z;exact w
  ·exact f.at (h.old hn z) (h.at_ x z)⟩
theorem At.sub(h:At W L)(s:L'.Sublist L):At W L':=⟨h.nd.sublist (s.map _),fun x hx=>h.at_ x (s.subset hx)⟩
theorem At.perm(h:At W L)(s:L.Perm L'):At W L':=⟨(s.map _).nodup h.nd,fun x hx=>h.at_ x (s.mem_iff.mpr hx)⟩
theorem At.swap(h:At W L)(i:Nat)(hn:W a=none)(f:Fr a W W')(w:W' a=some c):At W' (L.set i (a,c)):=by
 refine⟨?_,fun x hx=>?_⟩
 ·rw[adq];have ZP:a ∉ L.map (·.1):=fun z=>by obtain⟨x,hx,e⟩:=aa8.mp z;exact h.old hn hx e
  exact AL h.nd ZP i
 ·rcases ac0 hx with z | z
  ·exact f.at (h.old hn z) (h.at_ x z)
  ·subst z;exact w
theorem At.o6(h:At W L):At (o6 W fun z=>z∈L.map (·.1)) L:=h.mono fun x hx e=>(MY (D:=fun z=>z∈L.map (·.1)) (aa8.mpr ⟨x,hx,rfl⟩)).trans e
theorem qe(h:PlainL L=true)(hx:x∈L):x.2.plain=true:=abm.mp h x hx
end
section
variable {W:Wd}{Q:DK}{S:kN}{X:Addr->Prop}{vs:List DV}{L:Ws}
theorem cA(h:At W L)(nL:PlainL L=true)(k:∀(W1:Wd) (R:DV->Wd->Prop),At W1 L->(∀ dv W',(∀ W2,(∀ L',At W' L'->PlainL L'=true->At W2 L')->(∀ a c,a ∉ L.map (·.1)->W a=some c->W2 a=some c)->Q dv W2)->R dv W')->S vs W1 R X):S4 S X vs W Q:=by
 refine Hr (fun z=>z∈L.map (·.1)) (fun a c ha e=>?_) (k _ _ h.o6 fun dv W' g hW=>?_)
 ·obtain⟨x,hx,rfl⟩:=aa8.mp ha;have:=h.at_ x hx;rw[e]at this;rw[aaV this];exact qe nL hx
 ·exact g _ (fun L' hL hp=>hL.mono fun x hx e=>MZ e (qe hp hx)) fun a c ha e=>uv hW ha e
structure gk(K:zn)(k:Addr)(fs:wv):Prop where
 c:my K k
 n:∀ f,f∈fs->cI K k f
variable {K:zn}{k p d:Addr}{fs:List (Str×DV)}{ns:wv}{f m:Str}{v:DV}{i:Nat}
theorem Nd{B:DV->Prop}(h:At W L)(c:gk K k ns)(i:Nat)(e:L[i]?=some (p,.ob k d fs))(n:f∈ns)(l:fs.lookup f=some v)(hq:B v):∃ p' k d fs v,DV.pt p=.pt p'/\W p'=some (.ob k d fs)/\my K k/\cI K k f/\fs.lookup f=some v/\B v:=⟨p,k,d,fs,v,rfl,h.get i e,c.c,c.n f n,l,hq⟩
theorem rN{Pr:Wd->Prop}(h:At W L)(c:gk K k ns)(i:Nat)(e:L[i]?=some (p,.ob k d fs))(n:f∈ns)(hl:fs.length < 1000)(hq:∀ W',At W' (L.set i (p,.ob k d (putD f v fs)))->Fr p W W'->Pr W'):∃ p' k d fs,DV.pt p=.pt p'/\W p'=some (.ob k d fs)/\my K k/\cI K k f/\fs.length < 1000/\Pr (aH W p' (.ob k d (putD f v fs))) :=
 ⟨p,k,d,fs,rfl,h.get i e,c.c,c.n f n,hl,hq _ (h.set i e) fun b hb=>aE hb⟩
theorem Hs{kC:Addr}{Pr:Prop}(h:At W L)(i:Nat)(e:L[i]?=some (p,.ob kC d fs))(l:fs.lookup m=none)(hq:Pr):∃ p' d fs,DV.pt p=.pt p'/\W p'=some (.ob kC d fs)/\fs.lookup m=none/\Pr:=⟨p,d,fs,rfl,h.get i e,l,hq⟩
end
section
variable {K:zn}{f:Str}{da dv:cV}{dr:pU}{ρ:bR}{W:Wd}{r:jP}{nx ct bk:bR->Wd->Prop}{rt:DV->Wd->Prop}
theorem Nf(h:zh K f da dv ⟨r ⟨nx,rt,bk,ct⟩,rt,bk,ct⟩ ρ W):jQ (zh K f da dv) r ⟨nx,rt,bk,ct⟩ ρ W:=h
theorem Ht(h:rM K f dr da dv ⟨r ⟨nx,rt,bk,ct⟩,rt,bk,ct⟩ ρ W):jQ (rM K f dr da dv) r ⟨nx,rt,bk,ct⟩ ρ W:=h
theorem Hu(h:dv ρ W fun y W1=>da ρ W1 fun a W2=>∃ p k d fs,a=.pt p/\W2 p=some (.ob k d fs)/\my K k/\cI K k f/\fs.length < 1000/\nx ρ (aH W2 p (.ob k d (putD f y fs)))):zh K f da dv ⟨nx,rt,bk,ct⟩ ρ W:=h
theorem Dx(h:da ρ W fun a W1=>∃ p k d fs v,a=.pt p/\W1 p=some (.ob k d fs)/\my K k/\cI K k f/\fs.lookup f=some v /\
 dv ρ W1 fun y W2=>dr v y W2 fun z W3=>∃ d' gq,W3 p=some (.ob k d' gq)/\gq.length < 1000/\nx ρ (aH W3 p (.ob k d' (putD f z gq)))):rM K f dr da dv ⟨nx,rt,bk,ct⟩ ρ W:=h
end
section
variable {W:Wd}{Q:DK}{ρ:bR}{ds:wE}{g:rB}{c:mY}{b:jP}{nx bk ct:bR->Wd->Prop}{rt:DV->Wd->Prop}
theorem fi{kp:Wd->Prop}{e:cV}(Pv:Nat->List DV->Wd->Prop)(hk:ds.length<=sizeLine)(h0:Pv 0 [] W)(ZQ:∀ i ys W,Pv i ys W->kp W)(hs:∀ i d ys W,ds[i]?=some d->ys.length<=i->Pv i ys W->g (.im d) ρ W fun jj W2=>c jj W2 fun b W3=>if b=true then e jj W3 fun y W4=>Pv (i+1) (ys++[y]) W4 else Pv (i+1) ys W3)(hd:∀ ys W,Pv ds.length ys W->i5 ys W Q) :
  uh ⟨ds.map .im,kp⟩ g c e ρ W Q:=by
 refine⟨by simpa using hk,Pv,h0,ZQ,fun i v ys W e hl p=>?_,fun ys W q=>hd ys W (by simpa using q)⟩;rw[aap]at e;cases q:ds[i]? with
 | none=>rw[q]at e;cases e
 | some d=>rw[q]at e;cases e;exact hs i d ys W q hl p
end
theorem ox:∀{us:wf} {ns:wn},IntsAre us ns->Vals (ns.map V.int) us
 | _,_,.nil=>.nil
 | _,_,.cons n t r=>.cons ⟨t,rfl⟩ (ox r)
theorem uw{C:DC}{F:Hp}:∀{ns:wn} {xs:List V},aM C F (ns.map fun i=>.im (.int i)) xs↔xs=ns.map V.int
 | [],xs=>Iff.rfl
 | n::ns,xs=>by
  constructor
  ·rintro⟨y,ys,rfl,h,r⟩;rw[uw.mp r];cases (show y=V.int n from h);rfl
  ·rintro rfl;exact⟨_,_,rfl,rfl,uw.mpr rfl⟩
namespace St
theorem qf:Slot "set" "__iter__" "set.__iter__":=PySem.F.slot_set_iter
theorem xb:entryFor table "set.__iter__"=some Builtin.«frozenset.__iter__» :=
 entryFor_alias (id' := "frozenset.__iter__") (by kernel_rfl) rfl (by decide +kernel) (by kernel_rfl)
theorem slot_next:Slot "set_iterator" "__next__" "set_iterator.__next__" :=
 .of (owner := "set_iterator") (n := "__next__") (by rw[typeLookup_type,builtinLookup_eq_fast];kernel_rfl) (by decide +kernel) (by decide +kernel) (by decide +kernel)
  (by first | exact .inl (by decide +kernel) | exact .inr (by decide +kernel)) (by rw[isSubtype_type];kernel_rfl)
theorem entry_next:entryFor table "set_iterator.__next__"=some Builtin.«set_iterator.__next__»:=entryFor_of_tree (by kernel_rfl)
theorem ux:Manifest.owners.lookup (String.ofList ['r','o','t','a','r','e','t','i','_','t','e','s'].reverse)=some Manifest.sig_set_iterator:=by kernel_rfl
theorem args_next(a:Value):argsOk "set_iterator.__next__" ⟨[a],[]⟩:=by
 unfold argsOk;rw[signature?_of (id := "set_iterator.__next__") (n:=['_','_','t','x','e','n','_','_']) (o:=['r','o','t','a','r','e','t','i','_','t','e','s']) (by kernel_rfl) ux];kernel_rfl
theorem slot_self:Slot "set_iterator" "__iter__" "set_iterator.__iter__" :=
 .of (owner := "set_iterator") (n := "__iter__") (by rw[typeLookup_type,builtinLookup_eq_fast];kernel_rfl) (by decide +kernel) (by decide +kernel) (by decide +kernel)
  (by first | exact .inl (by decide +kernel) | exact .inr (by decide +kernel)) (by rw[isSubtype_type];kernel_rfl)
theorem entry_self:entryFor table "set_iterator.__iter__"=some Builtin.«dict_keyiterator.__iter__» :=
 entryFor_alias (id' := "dict_keyiterator.__iter__") (by kernel_rfl) rfl (by decide +kernel) (by kernel_rfl)
theorem args_self(a:Value):argsOk "set_iterator.__iter__" ⟨[a],[]⟩:=by
 unfold argsOk;rw[signature?_of (id := "set_iterator.__iter__") (n:=['_','_','r','e','t','i','_','_']) (o:=['r','o','t','a','r','e','t','i','_','t','e','s']) (by kernel_rfl) ux];kernel_rfl
end St
def Ng(es:Array (Int×Value))(t:SetTable):Bool:=!t.plain&&es.size > 1
def cJ(xs:Array Nat):Prop:=∀ i j (hi:i < xs.size) (hj:j < xs.size),i < j->xs[i] < xs[j]
theorem oy(xs:Array Nat)(j:Nat)(hr:cJ xs):∀(fuel lo hi:Nat),lo<=hi->hi<=xs.size->hi - lo<=fuel->(∀ k (hk:k < xs.size),k < lo->xs[k] < j)->(∀ k (hk:k < xs.size),hi<=k->j<=xs[k]) ->
  SetTable.below.go xs j fuel lo hi<=xs.size/\(∀ k (hk:k < xs.size),k < SetTable.below.go xs j fuel lo hi->xs[k] < j)/\∀ k (hk:k < xs.size),SetTable.below.go xs j fuel lo hi<=k->j<=xs[k]
 | 0,lo,hi,h1,h2,h3,h4,h5=>by
  have:lo=hi:=by omega
  subst this;unfold SetTable.below.go;exact⟨h2,h4,h5⟩
 | fuel+1,lo,hi,h1,h2,h3,h4,h5=>by
  unfold SetTable.below.go
  by_cases h:lo < hi
  ·rw[aaE h];have hm:(lo+hi) / 2 < xs.size:=by omega
   have e:xs.getD ((lo+hi) / 2) j=xs[(lo+hi) / 2]:=by simp[Array.getD,hm]
   dsimp only;rw[e]
   by_cases hx:xs[(lo+hi) / 2] < j
   ·rw[aaE hx];refine oy xs j hr fuel _ _ (by omega) h2 (by omega) (fun k hk hl=>?_) h5
    by_cases Nh:k=(lo+hi) / 2
    ·subst Nh;exact hx
    ·exact Nat.lt_trans (hr k _ hk hm (by omega)) hx
   ·rw[aaA hx];refine oy xs j hr fuel _ _ (by omega) (by omega) (by omega) h4 fun k hk hl=>?_
    by_cases Nh:k=(lo+hi) / 2
    ·subst Nh;omega
    ·have:=hr _ k hm hk (by omega);omega
  ·rw[aaA h];have:lo=hi:=by omega
   subst this;exact⟨h2,h4,h5⟩
theorem iR(j:Nat)(hr:cJ xs):SetTable.below xs j<=xs.size/\(∀ k (hk:k < xs.size),k < SetTable.below xs j->xs[k] < j)/\∀ k (hk:k < xs.size),SetTable.below xs j<=k->j<=xs[k]:=by
 unfold SetTable.below;exact oy xs j hr _ _ _ (aaK _) (aao _) (by omega) (fun k _ h=>absurd h (Nat.not_lt_zero _)) fun k hk h=>absurd hk (by omega)
theorem xc(hr:cJ xs):SetTable.below xs 0=0:=by
 obtain⟨h1,h2,_⟩:=iR 0 hr;rcases Nat.eq_zero_or_pos (SetTable.below xs 0)with h | h
 ·exact h
 ·exact absurd (h2 0 (by omega) h) (Nat.not_lt_zero _)
theorem xf(hr:cJ xs){i:Nat}(hi:i < xs.size):SetTable.below xs (xs[i]+1)=i+1:=by
 obtain⟨h1,h2,h3⟩:=iR (xs[i]+1) hr;rcases Nat.lt_trichotomy (SetTable.below xs (xs[i]+1)) (i+1)with h | h | h
 ·have:=h3 i hi (by omega);omega
 ·exact h
 ·have ha:=h2 (i+1) (by omega) h;have hb:=hr i (i+1) hi (by omega) (by omega);omega
theorem ke{α:Type}:∀{l:List α} {i:Nat} (h:i < l.length),(l[i]::l.eraseIdx i).Perm l
 | x::r,0,_=>acD _
 | x::r,i+1,h=>by
  rw[List.getElem_cons_succ,List.eraseIdx_cons_succ];exact(List.Perm.swap ..).trans ((ke (Nat.lt_of_succ_lt_succ h)).cons _)
theorem zj{α:Type}(next:Nat->Nat):∀(fuel k:Nat) (left:List α) (out:Array α),left.length<=fuel->(pickOrder.go next fuel k left out).toList.Perm (out.toList++left)
 | 0,k,left,out,h=>by
  have:left=[]:=abG.mp (by omega);subst this;unfold pickOrder.go;simp
 | fuel+1,k,left,out,h=>by
  unfold pickOrder.go;cases hl:left with
  | nil=>simp
  | cons x r =>
   rw[<- hl];have hp:0 < left.length:=by rw[hl];simp
   have hi:next k % left.length < left.length:=Nat.mod_lt _ hp
   rw[aaG hi];dsimp only;have ih:=zj next fuel (k+1) (left.eraseIdx (next k % left.length)) (out.push left[next k % left.length]) (by rw[List.length_eraseIdx];split<;>omega)
   refine ih.trans ?_;rw[Array.toList_push,ac3];refine List.Perm.append_left _ ?_;exact ke hi
theorem oz(next:Nat->Nat)(xs:Array α):(pickOrder next xs).toList.Perm xs.toList:=by
 have:=zj next xs.size 0 xs.toList #[] (by simp)
 simpa [pickOrder] using this
section
variable {prog:u8}{w:World}{A:tx}{E:xz}{s:Shared}
theorem wp_choose{src:Source}{n:Nat}{Q:Nat->Shared->Prop}(hn:n≠0)(h:∀ k,k < n->Q k { s with drawn:=s.drawn.bump src }):wpAny (model prog w) A (choose src n) Q E s:=fun _ _ _ =>
 ⟨hn,h _ (Nat.mod_lt _ (Nat.pos_of_ne_zero hn))⟩
theorem kP{α:Type}:∀(n:Nat) (xs:List α) (s:Shared) {Q:List α->Shared->Prop},n=xs.length->(∀ ys d,ys.Perm xs->Q ys { s with drawn:=d })->wpAny (model prog w) A (drawOrder n xs) Q E s
 | 0,xs,s,Q,hn,h=>by
  have:xs=[]:=abG.mp hn.symm;subst this;exact aam (h [] s.drawn (acD _))
 | n+1,[],s,Q,hn,h=>by simp at hn
 | n+1,x::r,s,Q,hn,h=>by
  unfold drawOrder;refine aaj (wp_choose (by simp) fun k hk=>?_);rw[aaG hk];dsimp only;refine aaj (kP n _ _ (by rw[List.length_eraseIdx,aaE hk];simp at hn ⊢;omega) fun ys d hp=>aam ?_);refine h _ d ?_;exact(hp.cons _).trans (ke hk)
theorem lK{Q:Bool->Shared->Prop}(h:Q (w.params.followText "set-order") s):wpAny (model prog w) A setsByText Q E s:=by
 unfold setsByText;exact aaj (wpAny_askSetting (aam h))
end
structure dP(bt:Bool)(h:Heap)(a:Addr)(es:Array (Int×Value))(ep:Nat)(t:SetTable):Prop where
 ob:∃ o,h.get? a=some o/\o.ExactSet/\o.data=.set es ep t
 fits:t.fits es.size=true
 led:t.led=!bt
 up:cJ t.place
theorem dP.keep{bt:Bool}{h h':Heap}{ep:Nat}{t:SetTable}(x:dP bt h a es ep t)(k:∀ o,h.get? a=some o->h'.get? a=some o):dP bt h' a es ep t :=
 ⟨let ⟨o,ho,r⟩:=x.ob;⟨o,k o ho,r⟩,x.fits,x.led,x.up⟩
theorem dP.sz{bt:Bool}{h:Heap}{ep:Nat}{t:SetTable}(x:dP bt h a es ep t):t.place.size=es.size:=by
 have:=x.fits;simp only[SetTable.fits,aaC,ab6]at this;exact this.1
theorem dP.typeIs{bt:Bool}{s:Shared}{ep:Nat}{t:SetTable}(x:dP bt s.heap a es ep t):s.TypeIs (.ref a) "set":=let ⟨o,ho,r,_⟩:=x.ob;⟨o,ho,r.1⟩
end L2
namespace L2
open PySem PySem.Spec PyProof.Rows
variable {prog:u8}{w:World}{A:tx}{E Q:xz}{s:Shared}{I a:Addr}{es:Array (Int×Value)}{ep:Nat}{ord:List (Int×Value)}{h h':Heap}{ns:wn}{C:DC}
def Mode(w:World)(h:Heap)(a tp:Addr)(es:Array (Int×Value))(ep:Nat)(t:SetTable)(ord:List (Int×Value))(i:Nat)(first:Value):Prop :=
 (w.params.followText "set-order"=true/\first=.int 0 0/\ord=(pickOrder (w.params.setOrder a ep) es).toList) \/
 (w.params.followText "set-order"=false/\Ng es t=false/\ord=es.toList/\∃ slot:Nat,first=.int slot 0/\SetTable.below t.place slot=i) \/
 (w.params.followText "set-order"=false/\∃(ps:List Nat) (c:Nat),first=.ref tp/\h.get? tp=some (seqObj "tuple" (ps.map fun(n:Nat)=>rawInt n).toArray c)/\ps.map (fun k=>es[k]?)=ord.map some)
structure fj(w:World)(h:Heap)(I a tp:Addr)(es:Array (Int×Value))(ep:Nat)(t:SetTable)(ord:List (Int×Value))(i:Nat):Prop where
 so:dP (w.params.followText "set-order") h a es ep t
 it:∃ o first,h.get? I=some o/\o.cls=.type "set_iterator"/\o.data=.fields #[first,.int i 0,.ref a,.int es.size 0,.int ep 0]/\Mode w h a tp es ep t ord i first
 ne:a≠I/\tp≠I
 pm:ord.Perm es.toList
theorem fj.typeIs{tp:Addr}{i:Nat}{t:SetTable}(x:fj w s.heap I a tp es ep t ord i):s.TypeIs (.ref I) "set_iterator":=let ⟨o,_,ho,hc,_⟩:=x.it;⟨o,ho,hc⟩
theorem Mode.keep{tp:Addr}{i:Nat}{t:SetTable}{f:Value}(x:Mode w h a tp es ep t ord i f)(k:∀ o,h.get? tp=some o->h'.get? tp=some o):Mode w h' a tp es ep t ord i f:=by
 rcases x with x | x | ⟨b,ps,c,e1,e2,e3⟩
 ·exact .inl x
 ·exact .inr (.inl x)
 ·exact .inr (.inr ⟨b,ps,c,e1,k _ e2,e3⟩)
theorem fY{bt:Bool}{t:SetTable}{Q:(Array (Int×Value)×Nat×SetTable)->Shared->Prop}(x:dP bt s.heap a es ep t)(h:Q (es,ep,t) s):wpAny (model prog w) A (setState a) Q E s :=
 let ⟨_,ho,_,hd⟩:=x.ob;wpAny_setState_of ho hd x.fits h
theorem xg{t:SetTable}{Q:Array (Int×Value)->Shared->Prop}(x:dP (w.params.followText "set-order") s.heap a es ep t)(hb:w.params.followText "set-order"=true)(hQ:Q (pickOrder (w.params.setOrder a ep) es) s):wpAny (model prog w) A (setWalk a) Q E s:=by
 unfold setWalk;refine aaj (fY x (aaj (lK (abr (fun _=>aaj (wpAny_askSetting (aam hQ))) fun z=>absurd hb z))))
theorem oA{I tp:Addr}{i:Nat}{t:SetTable}{n:Nat}{Q:Option (Value×Nat)->Shared->Prop}(x:dP (w.params.followText "set-order") s.heap a es ep t)(hm:Mode w s.heap a tp es ep t ord i (.int n 0))(hQ:∀ m:Nat,(∀ e,ord[i]?=some e->Mode w s.heap a tp es ep t ord (i+1) (.int m 0))->Q (ord[i]?.map fun e=>(e.2,m)) s):wpAny (model prog w) A (setNext a n i ep) Q E s:=by
 unfold setNext;refine aaj (fY x (aaj (lK ?_)));rcases hm with⟨hb,hf,ku⟩ | ⟨hb,S5,ku,slot,hf,GU⟩ | ⟨hb,ps,c,hf,Ni,Dy⟩
 ·cases hf;refine abr (fun _=>?_) fun z=>absurd hb z;refine abr (fun z=>absurd z (by simp)) fun _=>aaj (xg x hb (aam ?_));have:=hQ 0 fun e he=>.inl ⟨hb,rfl,ku⟩;rw[ku,abQ]at this;exact this
 ·have hn:slot=n:=by have:=(Value.int.inj hf).1;omega
  subst hn;refine abr (fun z=>by rw[hb]at z;cases z) fun _=>abr (fun z=>absurd (show Ng es t=true from z) (by rw[S5];decide)) fun _=>?_;refine aaj ?_
  wp_delta
  refine abr (fun z=>absurd z (by rw[x.led,hb];simp)) fun _=>aam ?_;dsimp only;rw[GU]
  by_cases iz:i < es.size
  ·have hp:i < t.place.size:=by rw[x.sz];exact iz
   rw[abj iz,abj hp];have e1:ord[i]?=some es[i]:=by rw[ku,abQ,abj iz]
   have:=hQ (t.place[i]+1) fun e he=>.inr (.inl ⟨hb,S5,ku,_,rfl,xf x.up hp⟩);rw[e1]at this;exact aam this
  ·rw[Array.getElem?_eq_none (by omega)];have e1:ord[i]?=none:=by rw[ku,abQ,Array.getElem?_eq_none (by omega)]
   have:=hQ 0 fun e he=>by rw[e1]at he;cases he
   rw[e1]at this;exact aam this
 ·cases hf
theorem next_item{tp:Addr}{i:Nat}{t:SetTable}{e:Int×Value}{Q:wP->Shared->Prop}(x:fj w s.heap I a tp es ep t ord i)(hi:ord[i]?=some e)(hQ:∀ h',fj w h' I a tp es ep t ord (i+1)->Heap.SameBut I s.heap h'->Q (some e.2) { s with heap:=h' }):wpAny (model prog w) A (pyNext (.ref I)) Q E s:=by
 obtain⟨o,first,ho,hc,hd,hm⟩:=x.it;have key:∀(h':Heap) (o':Obj) (f':Value),Heap.SameBut I s.heap h'->h'.get? I=some o'->o'.cls=.type "set_iterator"->o'.data=.fields #[f',.int ((i+1:Nat):Int) 0,.ref a,.int es.size 0,.int ep 0]->Mode w s.heap a tp es ep t ord (i+1) f'->fj w h' I a tp es ep t ord (i+1) :=
  fun h' o' f' sb h1 h2 h3 h4=>⟨x.so.keep fun o e=>sb.extBut a o x.ne.1 e,⟨o',f',h1,h2,h3,h4.keep fun o e=>sb.extBut tp o x.ne.2 e⟩,x.ne,x.pm⟩
 unfold pyNext;refine aaj (adf (aa9 (name:=Str.ofString "__next__") x.typeIs St.slot_next
  (abe St.slot_next x.typeIs St.entry_next ?_ (St.args_next _))))
 unfold Builtin.«set_iterator.__next__»;refine aaj (aam ?_);refine aaj (wpAny_fieldsOf ho hd ?_);dsimp only;unfold setEntries;refine aaj (aaj (fY x.so (aam ?_)));rw[aaA (by simp)];have Dz:∀ n:Nat,first=.int n 0->wpAny (model prog w) A.in1 (do
    let br <- setNext a (Int.toNat n) (Int.toNat i) (Int.toNat ep)
    match br with
     | some (x,next)=>do
      setField (Value.ref I) 0 (rawInt ↑next)
      setField (Value.ref I) 1 (rawInt (↑i+1))
      ret x
     | none=>do
      setField (Value.ref I) 2 Value.none
      let br <- newExc (Value.type "StopIteration") []
      raiseNew br)
   (fun fin s'=>∃ v,fin=PySem.Fin.done (Flow.ret v)/\wpAny (model prog w) A (pure (some v)) Q E s')
   (fun e s'=>wpAny (model prog w) A (do
     let br <- isInstance e (Value.type "StopIteration")
     if br=true then pure none else throw e) Q E s') s:=by
  rintro n rfl;rw[aaY,aaY,aaY];refine aaj (oA (I:=I) x.so hm fun m OH=>?_);rw[hi];dsimp only[Option.map];refine aaj (abV ho hd (by simp) ?_);have g1:(s.heap.update I (Obj.mapFields (·.setIfInBounds 0 (rawInt (m:Int))))).get? I=some _:=aa7 _ ho (abR (aa3 hd _));refine aaj (abV g1 (aa3 hd _) (by simp) ?_);refine aam ⟨_,rfl,aam (hQ _ (key _ _ (.int m 0) ?_ (aa7 _ g1 (abR (aa3 (aa3 hd _) _))) ?_ ?_ (OH e hi)) ?_)⟩
  ·exact(aaW ..).trans (aaW ..)
  ·exact(acB ..).trans ((acB ..).trans hc)
  ·rw[aa3 (aa3 hd _)];simp[rawInt]
  ·exact(aaW ..).trans (aaW ..)
 rcases id hm with⟨hb,hf,ku⟩ | ⟨hb,S5,ku,slot,hf,GU⟩ | ⟨hb,ps,c,hf,Ni,Dy⟩
 ·rw[hf];exact Dz 0 hf
 ·rw[hf];exact Dz slot hf
 ·subst hf;dsimp only;have ls:=abK List.length Dy;rw[aak,aak]at ls;have iz:=(aas.mp hi).1;have Vl:i < ps.length:=by omega
  have he:es[ps[i]]?=some e:=by
   have h1:(ps.map fun k=>es[k]?)[i]?=(ord.map some)[i]?:=by rw[Dy]
   rw[aap,aap,hi,aaG Vl]at h1;simpa using h1
  unfold seqItems?;refine aaj (aaj (wpAny_load Ni (aam ?_)));dsimp only;rw[aaY];rw[show(ps.map fun(n:Nat)=>rawInt (n:Int)).toArray[i]?=some (rawInt (ps[i]:Int)) by simp[Vl]];dsimp only[rawInt];unfold setNextDrawn;refine aaj (aaj (fY x.so ?_));dsimp only;rw[aaA (by simp),aaY,he];refine aam ?_;refine aaj (abV ho hd (by simp) ?_);refine aam ⟨_,rfl,aam (hQ _ (key _ _ (.ref tp) (aaW ..) (aa7 _ ho (abR (aa3 hd _))) ((acB ..).trans hc) ?_ (.inr (.inr ⟨hb,ps,c,rfl,Ni,Dy⟩))) (aaW ..))⟩;rw[aa3 hd];simp[rawInt]
theorem oB{Q:wP->Shared->Prop}(hh:A.handled=none)(eb:Heap.ExtBut I s.heap h')(hQ:∀ h',Heap.ExtBut I s.heap h'->Q none { s with heap:=h' }):wpAny (model prog w) A.in1 (do
      let br <- newExc (Value.type "StopIteration") []
      (raiseNew br:Sem PySem.Fin))
   (fun fin s'=>∃ v,fin=PySem.Fin.done (Flow.ret v)/\wpAny (model prog w) A (pure (some v)) Q E s')
   (fun e s'=>wpAny (model prog w) A (do
     let br <- isInstance e (Value.type "StopIteration")
     if br=true then pure none else throw e) Q E s') { s with heap:=h' }:=by
 refine aaj ?_;simp only[newExc,newTuple];refine aaj (abb ?_ (by size_fits));refine aaj (m:=firstArgMember _ _) (wpAny_of_eq (a:=Value.none) (by first | rfl | (simp only[firstArgMember];rfl)) ?_);refine abb ?_ (by size_fits);simp only[raiseNew];refine aaj (wpAny_handled ?_);rw[show A.in1.handled=none from hh];refine aaj (aam (wpAny_throw ?_));refine aaj (wpAny_isInstance (T := "StopIteration") (b:=true) ⟨_,aau _ rfl,rfl⟩ isSubtype_stop ?_);exact aam (hQ _ ((eb.push _).push _))
theorem next_end{tp:Addr}{i:Nat}{t:SetTable}{Q:wP->Shared->Prop}(hh:A.handled=none)(x:fj w s.heap I a tp es ep t ord i)(hi:ord[i]?=none)(hQ:∀ h',Heap.ExtBut I s.heap h'->Q none { s with heap:=h' }):wpAny (model prog w) A (pyNext (.ref I)) Q E s:=by
 obtain⟨o,first,ho,hc,hd,hm⟩:=x.it;unfold pyNext;refine aaj (adf (aa9 (name:=Str.ofString "__next__") x.typeIs St.slot_next
  (abe St.slot_next x.typeIs St.entry_next ?_ (St.args_next _))))
 unfold Builtin.«set_iterator.__next__»;refine aaj (aam ?_);refine aaj (wpAny_fieldsOf ho hd ?_);dsimp only;unfold setEntries;refine aaj (aaj (fY x.so (aam ?_)));rw[aaA (by simp)];have Dz:∀ n:Nat,first=.int n 0->wpAny (model prog w) A.in1 (do
    let br <- setNext a (Int.toNat n) (Int.toNat i) (Int.toNat ep)
    match br with
     | some (x,next)=>do
      setField (Value.ref I) 0 (rawInt ↑next)
      setField (Value.ref I) 1 (rawInt (↑i+1))
      ret x
     | none=>do
      setField (Value.ref I) 2 Value.none
      let br <- newExc (Value.type "StopIteration") []
      raiseNew br)
   (fun fin s'=>∃ v,fin=PySem.Fin.done (Flow.ret v)/\wpAny (model prog w) A (pure (some v)) Q E s')
   (fun e s'=>wpAny (model prog w) A (do
     let br <- isInstance e (Value.type "StopIteration")
     if br=true then pure none else throw e) Q E s') s:=by
  rintro n rfl;rw[aaY,aaY,aaY];refine aaj (oA (I:=I) x.so hm fun m OH=>?_);rw[hi];dsimp only[Option.map];refine aaj (abV ho hd (by simp) ?_);exact oB hh (aaW ..).extBut hQ
 rcases id hm with⟨hb,hf,ku⟩ | ⟨hb,S5,ku,slot,hf,GU⟩ | ⟨hb,ps,c,hf,Ni,Dy⟩
 ·rw[hf];exact Dz 0 hf
 ·rw[hf];exact Dz slot hf
 ·subst hf;dsimp only;have ls:=abK List.length Dy;rw[aak,aak]at ls;have hge:=List.getElem?_eq_none_iff.mp hi;unfold seqItems?;refine aaj (aaj (wpAny_load Ni (aam ?_)));dsimp only;rw[aaY];rw[show(ps.map fun(n:Nat)=>rawInt (n:Int)).toArray[i]?=none by simp;omega];dsimp only;refine aaj (abV ho hd (by simp) ?_);have g1:(s.heap.update I (Obj.mapFields (·.setIfInBounds 0 (rawInt 0)))).get? I=some _:=aa7 _ ho (abR (aa3 hd _));refine aaj (abV g1 (aa3 hd _) (by simp) ?_);have e1:Heap.SameBut I s.heap (s.heap.update I (Obj.mapFields (·.setIfInBounds 0 (rawInt 0)))):=aaW ..;have e2:Heap.SameBut I (s.heap.update I (Obj.mapFields (·.setIfInBounds 0 (rawInt 0)))) ((s.heap.update I (Obj.mapFields (·.setIfInBounds 0 (rawInt 0)))).update I (Obj.mapFields (·.setIfInBounds 2 Value.none))):=aaW ..;exact oB (s:=s) hh (e1.trans e2).extBut hQ
theorem AM{tp:Addr}{i:Nat}{t:SetTable}(x:fj w s.heap I a tp es ep t ord i)(h:Q (.ref I) s):wpAny (model prog w) A (pyIter (.ref I)) Q E s:=by
 refine wpAny_pyIter_slot x.typeIs St.slot_self (abe St.slot_self x.typeIs St.entry_self ?_ (St.args_self _));show wpAny _ _ (ret (.ref I)) _ _ s;exact aam ⟨_,rfl, "set_iterator",_,x.typeIs,St.slot_next.lookup,h⟩
theorem fj.keep{h h':Heap}{I a tp:Addr}{es:Array (Int×Value)}{ep i:Nat}{t:SetTable}{ord:List (Int×Value)}(x:fj w h I a tp es ep t ord i)(k:∀ b∈[I,a,tp],∀ o,h.get? b=some o->h'.get? b=some o):fj w h' I a tp es ep t ord i :=
 ⟨x.so.keep fun o e=>k a (by simp) o e,let ⟨o,f,h1,h2,h3,h4⟩:=x.it;⟨o,f,k I (by simp) o h1,h2,h3,h4.keep fun o e=>k tp (by simp) o e⟩,x.ne,x.pm⟩
theorem AN(hh:A.handled=none)(I a tp:Addr)(es:Array (Int×Value))(ep:Nat)(t:SetTable)(ord:List (Int×Value)) :
  Walks prog w A I [I,a,tp] [I] ord.length (fun i v=>∃ e,ord[i]?=some e/\v=e.2) (fun i h=>fj w h I a tp es ep t ord i) where
 sub:=fun b hb=>by simp at hb;simp[hb]
 frame:=fun _ _ _ st hk=>st.keep hk
 item:=fun i s Q E hi st hQ=>next_item st (aaG hi) fun h' x' sb=>hQ _ h' s.toks ⟨_,aaG hi,rfl⟩ x' fun b o hb e=>sb.extBut b o (fun h=>hb (by simp[h])) e
 done:=fun s Q E st hQ=>next_end hh st (List.getElem?_eq_none (aao _)) fun h' eb=>hQ h' s.toks fun b o hb e=>eb b o (fun h=>hb (by simp[h])) e
 self:=fun _ _ _ _ st hQ=>AM st hQ
theorem AO{t:SetTable}(x:dP (w.params.followText "set-order") s.heap a es ep t)(hz:es.size<=sizeLine)(hQ:∀(h':Heap) (d:Drawn) (I tp:Addr) (ord:List (Int×Value)),(∀ b o,s.heap.get? b=some o->h'.get? b=some o)->s.heap.objs.size<=I->(tp=a\/s.heap.objs.size<=tp)->fj w h' I a tp es ep t ord 0->Q (.ref I) { s with heap:=h',drawn:=d }) :
  wpAny (model prog w) A (pyIter (.ref a)) Q E s:=by
 have iz:a < s.heap.objs.size:=let ⟨_,ho,_⟩:=x.ob;aar ho;refine wpAny_pyIter_slot x.typeIs St.qf (abe St.qf x.typeIs St.xb ?_ (PySem.F.args_set_iter_1 _));unfold Builtin.«frozenset.__iter__»;refine aaj (m:=Builtin.Frozenset.slot0 _ _) (aaj (aam (aam ?_)));unfold Builtin.Frozenset.sizeOf setEntries;refine aaj (aaj (aaj (fY x (aam (aam ?_)))));unfold setDrawn;refine aaj (aaj (fY x (aaj (lK (aam ?_)))));dsimp only;have g:∀(h1:Heap) (d:Drawn) (first:Value) (tp:Addr) (ord:List (Int×Value)),(∀ b o,s.heap.get? b=some o->h1.get? b=some o)->s.heap.objs.size<=h1.objs.size->(tp=a\/s.heap.objs.size<=tp)->tp < h1.objs.size->Mode w h1 a tp es ep t ord 0 first->ord.Perm es.toList ->
   wpAny (model prog w) A.in1 (do
     let br <- setEpoch a
     let br <- newFields "set_iterator" [first,rawInt 0,Value.ref a,rawInt ↑es.size,rawInt ↑br]
     (ret br:Sem PySem.Fin))
    (fun fin s'=>∃ v,fin=PySem.Fin.done (Flow.ret v)/\∃ T' r,s'.TypeIs v T'/\typeLookup (Value.type T') (Str.ofString "__next__")=pure (some r)/\Q v s') E { s with heap:=h1,drawn:=d }:=by
  intro h1 d first tp ord k1 hsz ht XT hm hp
  unfold setEpoch;refine aaj (aaj (fY (s:={ s with heap:=h1,drawn:=d }) (x.keep fun o e=>k1 a o e) (aam ?_)));refine aaj (abb (aam ⟨_,rfl, "set_iterator",_,⟨_,aau _ rfl,rfl⟩,St.slot_next.lookup,?_⟩));refine hQ _ d h1.objs.size tp ord (fun b o e=>aal _ (k1 b o e)) hsz ht ⟨x.keep fun o e=>aal _ (k1 a o e),⟨_,first,aau _ rfl,rfl,rfl,hm.keep fun o e=>aal _ e⟩,⟨aaO (aaD iz hsz),aaO XT⟩,hp⟩
 cases hb:w.params.followText "set-order" with
 | true =>
  rw[aaA (by simp)];refine aaj (aam ?_);exact g s.heap s.drawn _ a _ (fun b o e=>e) (aao _) (.inl rfl) iz (.inl ⟨hb,rfl,rfl⟩) (oz _ _)
 | false =>
  cases hd:Ng es t with
  | false =>
   rw[aaA (by simp;exact hd)];refine aaj (aam ?_);exact g s.heap s.drawn _ a _ (fun b o e=>e) (aao _) (.inl rfl) iz (.inr (.inl ⟨hb,hd,rfl,0,rfl,xc x.up⟩)) (acD _)
  | true =>
   rw[aaE (by simp;exact hd)];refine aaj (kP _ _ _ (by simp) fun ps d hp=>?_);refine aaj (wpAny_newTuple ?_ (by rw[aak,hp.length_eq,List.length_range];exact hz));have hr:(List.range es.size).map (fun k=>es[k]?)=es.toList.map some:=by
    apply adi (by simp);intro i h1 h2;simp at h1 h2 ⊢
   have kr:∀ k∈ps,k < es.size:=fun k hk=>List.mem_range.mp (hp.mem_iff.mp hk);have Vm:ps.map (fun k=>es[k]?)=(ps.filterMap fun k=>es[k]?).map some:=by
    clear hp;induction ps with
    | nil=>rfl
    | cons k r ih =>
     have hk:=kr k (aaF ..);rw[aaz,ih fun j hj=>kr j (aax _ hj),acm,abj hk]
     rfl
   refine g _ d _ s.heap.objs.size (ps.filterMap fun k=>es[k]?) (fun b o e=>aal _ e) (by rw[size_push'];exact abB _) (.inr (aao _)) (by rw[size_push'];exact abN _) (.inr (.inr ⟨hb,ps,0,rfl,aau _ rfl,Vm⟩)) ?_;have h1:=hp.filterMap (fun k=>es[k]?);rw[filterMap_getElem?_range]at h1;exact h1
theorem DA{r:Addr}{Q:Bool->Shared->Prop}(hT:s.TypeIs (.ref r) "set")(h:Q false s):wpAny (model prog w) A (Builtin.List.listLengthHint (.ref r)) Q E s:=by
 unfold Builtin.List.listLengthHint;refine aaj (wpAny_specialOf hT PySem.F.slot_set_len.lookup ?_);generalize XU:("set.__len__":String)=ZR
 wp_delta
 rw[show splitId ZR=some ("set", "__len__") from by subst XU;decide +kernel];subst XU;refine aaj (wpAny_isInstance (T := "set") (b:=true) hT (by rw[isSubtype_type];kernel_rfl) ?_);refine abr (fun FO=>absurd FO (by decide)) (fun _=>?_);refine abr (fun _=>?_) (fun FO=>absurd (by decide +kernel) FO);refine aaj (acX hT ?_);exact aam h
theorem uy{t:SetTable}{R:wf->Shared->Prop}(hh:A.handled=none)(x:dP (w.params.followText "set-order") s.heap a es ep t)(hz:es.size<=sizeLine)(hR:∀(h':Heap) (tk:Nat) (d:Drawn) (vs:wf),(∀ b o,s.heap.get? b=some o->h'.get? b=some o)->vs.Perm (es.toList.map (·.2))->R vs { s with heap:=h',toks:=tk,drawn:=d }) :
  wpAny (model prog w) A (collect (.ref a)) R E s:=by
 have iz:a < s.heap.objs.size:=let ⟨_,ho,_⟩:=x.ob;aar ho;unfold collect;refine aaj (wpAny_runValue (acb entry_proto_collect' ?_));rw[abX PySem.F.plain_proto_collect _];show wpAny _ A.in1 (newList [] >>= fun l=>again (.builtin "list.__iadd__" ⟨[l,.ref a],[]⟩)) _ _ s;refine aaj (abb ?_);refine aam ⟨acM PySem.F.plain_list_iadd _,acb entry_list_iadd' ?_⟩;rw[abX PySem.F.plain_list_iadd _];have zk:(s.heap.push { cls:=.type "list",data:=.seq ([]:wf).toArray }).get? s.heap.objs.size=some { cls:=.type "list",data:=.seq #[] }:=aau _ rfl;have x1:dP (w.params.followText "set-order") (s.heap.push { cls:=.type "list",data:=.seq ([]:wf).toArray }) a es ep t:=x.keep fun o e=>aal _ e;have S6:(s.heap.push { cls:=.type "list",data:=.seq ([]:wf).toArray }).objs.size=s.heap.objs.size+1:=size_push' ..;have k1:∀ b o,s.heap.get? b=some o->(s.heap.push { cls:=.type "list",data:=.seq ([]:wf).toArray }).get? b=some o:=fun b o e=>aal _ e;generalize (s.heap.push { cls:=.type "list",data:=.seq ([]:wf).toArray })=h1 at zk x1 S6 k1;show wpAny _ A.in1 (Builtin.List.listExtendWith (.ref s.heap.objs.size) (.ref a) (.ref s.heap.objs.size)) _ _ _;unfold Builtin.List.listExtendWith;refine aaj (acX (T := "set") (dP.typeIs (s:={ s with heap:=h1 }) x1) ?_);have i4:Builtin.List.listSameRef (.ref s.heap.objs.size) (.ref a)=false:=by simp[Builtin.List.listSameRef,abO iz]
 simp only[i4,show(Value.type "set" == Value.type "list")=false by decide,show(Value.type "set" == Value.type "tuple")=false by decide,Bool.or_false,acx,adb];refine aaj (AO (s:={ s with heap:=h1 }) x1 hz fun h2 d I tp ord k2 hI Ni it=>?_);have XW:s.heap.objs.size ∉ [I,a,tp]:=by
  have Mz:h1.objs.size<=I:=hI;have:tp=a\/h1.objs.size<=tp:=Ni;intro z;simp only[aan,abf,acC]at z;rcases z with z | z | z
  ·rw[<- z,S6]at Mz;exact absurd Mz (Nat.not_succ_le_self _)
  ·exact abO iz z
  ·rcases this with q | q
   ·rw[q]at z;exact abO iz z
   ·rw[<- z,S6]at q;exact absurd q (Nat.not_succ_le_self _)
 have Vn:=k2 _ _ zk;have hlen:ord.length<=sizeLine:=by rw[it.pm.length_eq];simpa using hz
 have key:∀(h:Heap) (c₁ tk:Nat),fj w h I a tp es ep t ord 0->(∀ b o,s.heap.get? b=some o->h.get? b=some o) ->
   h.get? s.heap.objs.size=some { cls:=.type "list",data:=.seq #[] c₁ }->codeAny (model prog w) A (.builtin "list.extend.loop" ⟨[.ref s.heap.objs.size,.ref I,.ref s.heap.objs.size],[]⟩) (fun r s'=>match r with
    | .ok (.ret (.ref l))=>∃(h':Heap) (tk:Nat) (vs:wf) (c':Nat),s'={ s with heap:=h',toks:=tk,drawn:=d }/\(∀ b o,s.heap.get? b=some o->h'.get? b=some o)/\h'.get? l=some { cls:=.type "list",dict:=none,data:=.seq vs.toArray c',slots:=#[] }/\vs.Perm (es.toList.map (·.2))
    | _=>False) { s with heap:=h,toks:=tk,drawn:=d }:=by
  intro h c₁ tk yk hk zk;refine codeAny_extend_loopS (AN (A:=A.in1) (prog:=prog) (w:=w) hh I a tp es ep t ord).toS hlen s.heap.objs.size XW (.ref s.heap.objs.size) ord.length 0 _ #[] c₁ rfl (aaK _) yk zk (ItemsOf.nil _) fun s' Nj c' hm ZS Rr=>?_;rw[Moved.eq_with hm];refine⟨s'.heap,s'.toks,Nj.toList,c',rfl,fun b o e=>hm.heap b o (fun Nk=>?_) (hk b o e),by rw[Array.toArray_toList];exact ZS,?_⟩
  ·have hb:=aar e;rcases aan.mp Nk with e' | Nk
   ·rw[e']at hb;exact absurd hb (aa1 _)
   ·rw[abd.mp Nk]at hb;have Mz:h1.objs.size<=I:=hI;rw[S6]at Mz;exact absurd (Nat.lt_trans hb Mz) (aa1 _)
  ·have e1:Nj.toList=ord.map (·.2):=by
    apply adi (by rw[aaP,aak];exact Rr.1);intro j h1 h2;rw[aaP]at h1;obtain⟨e,he,hv⟩:=Rr.2 j Nj[j] (by rw[abj h1]);rw[aak]at h2;rw[aaG h2]at he;cases he;rw[abY,acK];exact hv
   rw[e1];exact it.pm.map _
 have go:∀(h:Heap) (c₁ tk:Nat),fj w h I a tp es ep t ord 0->(∀ b o,s.heap.get? b=some o->h.get? b=some o)->h.get? s.heap.objs.size=some { cls:=.type "list",data:=.seq #[] c₁ } ->
   codeAny (model prog w) A (.builtin "list.extend.loop" ⟨[.ref s.heap.objs.size,.ref I,.ref s.heap.objs.size],[]⟩) (fun r s'=>match r with
    | .ok (.ret v)=>wpAny (model prog w) A (match v with
      | Value.ref a=>do
       let br <- load a
       match br.data with
        | Data.seq xs XX=>pure xs.toList
        | x=>unsupported "internal:collect"
      | x=>unsupported "internal:collect") R E s'
    | .ok a=>False
    | .error e=>E e s') { s with heap:=h,toks:=tk,drawn:=d }:=fun h c₁ tk i1 i2 i3=>ab9 (key h c₁ tk i1 i2 i3) fun r s' hr=>by
  cases r with
  | error e=>exact hr.elim
  | ok f =>
   cases f with
   | ret v =>
    cases v with
    | ref l =>
     obtain⟨h',ZT,vs,c',rfl,q1,q2,q3⟩:=hr;dsimp only;refine aaj (wpAny_load q2 (aam ?_));exact hR h' ZT d vs q1 q3
    | _=>exact hr.elim
   | _=>exact hr.elim
 refine aaj (abc (DA (dP.typeIs (s:={ s with heap:=h2,drawn:=d }) it.so) ?_));refine abr (fun _=>?_) (fun _=>aam ⟨acM ac1 _,go _ 0 _ it (fun b o e=>k2 b o (k1 b o e)) Vn⟩);refine aaj (acp ?_);refine aaj ?_;show wpAny _ _ (updateSeq s.heap.objs.size (·.push .none) >>= fun _=>updateSeq s.heap.objs.size (·.pop)) _ _ _;refine aaj (wpAny_updateSeq Vn rfl ?_);have JW:=aa7 (Obj.mapSeq (·.push Value.none)) Vn rfl;refine wpAny_updateSeq (hz:=by seq_fits) JW rfl ?_;have Rt:=aa7 (Obj.mapSeq (·.pop)) JW rfl;have Ru:∀ b o,b≠s.heap.objs.size->h2.get? b=some o->((h2.update s.heap.objs.size (Obj.mapSeq (·.push Value.none))).update s.heap.objs.size (Obj.mapSeq (·.pop))).get? b=some o:=fun b o hb e =>
  (ab7 _ _ (acf hb)).trans ((ab7 _ _ (acf hb)).trans e)
 refine aam ⟨acM ac1 _,go _ _ _ (it.keep fun b hb o e=>Ru b o (fun z=>XW (z▸hb)) e) (fun b o e=>Ru b o (aaO (aar e)) (k2 b o (k1 b o e))) Rt⟩
section
variable {κ:KeyOrd}{kv:Value->κ.α}{kd:SortKind}{S:Value->Prop}
theorem oC{r:Addr}{Rc:wf->Prop}(Vo:∀(A:tx) (R:wf->Shared->Prop) (E:xz),A.handled=none->(∀(h':Heap) (tk:Nat) (d:Drawn) (vs:wf),(∀ b o,s.heap.get? b=some o->h'.get? b=some o)->Rc vs->R vs { s with heap:=h',toks:=tk,drawn:=d })->wpAny (model prog w) A (collect (.ref r)) R E s)(hh:A.handled=none)(hz:∀ vs,Rc vs->vs.length < 64)(hI:∀ vs,Rc vs->∃ ns,IntsAre vs ns)(h:∀(h1 h':Heap) (tk:Nat) (d:Drawn) (vs out:wf) (ns jo:wn) (c:Nat),(∀ b o,s.heap.get? b=some o->h1.get? b=some o)->(∀ b o,h1.get? b=some o->h'.get? b=some o)->Rc vs->IntsAre vs ns->h'.get? h1.objs.size=some (seqObj "list" out.toArray c)->IntsAre out jo->jo.Perm ns->jo.Pairwise (·<=·)->Q (.ref h1.objs.size) { s with heap:=h',toks:=tk,drawn:=d }) :
  wpAny (model prog w) A (call (.builtin "sorted") [.ref r]) Q E s:=by
 refine Calls.call_function_entry kind_sorted plain_sorted entry_sorted (args_sorted1 _) ?_;unfold Builtin.«sorted»;refine aaj (m:=checkCount "sorted" 1 1 _) (aam (aaj (Vo _ _ _ hh fun h1 tk d vs k1 rc=>aaj (wpAny_newList ?_ (aaq (aaH (hz vs rc)) (by decide))))));obtain⟨ns,hi⟩:=hI vs rc;have ho:(h1.push (seqObj "list" vs.toArray 0)).get? h1.objs.size=some (seqObj "list" vs.toArray 0):=aau _ rfl;refine aaj (abc (abe slot_list_sort ⟨_,ho,rfl⟩ entry_list_sort (list_sort_tree (s:={ s with heap:=h1.push (seqObj "list" vs.toArray 0),toks:=tk,drawn:=d }) ho hi (hz vs rc) fun out jo a p o=>⟨_,rfl,aam ⟨_,rfl,?_⟩⟩) (args_list_sort _)));obtain⟨c,hc⟩:=sortedHeap_at (vs:=vs) (out:=out) ho;refine h h1 _ tk d vs out.toList ns jo c k1 (fun b o e=>?_) rc hi (by rw[Array.toArray_toList];exact hc) a p o;have hl:=aar e;have e2:(h1.push (seqObj "list" vs.toArray 0)).get? b=some o:=aal _ e;exact(sortedHeap_old (aaO hl) (aar e2)).trans e2
end
theorem jJ{xs:Array Nat}:cJ xs↔xs.toList.Pairwise (· < ·):=by
 rw[abW];constructor
 ·intro h i j hi hj hl;exact h i j (by simpa using hi) (by simpa using hj) hl
 ·intro h i j hi hj hl;exact h i j (by simpa using hi) (by simpa using hj) hl
theorem oE:cJ #[]:=fun i j hi=>absurd hi (by simp)
theorem gw(n:Nat):cJ (Array.range n):=by
 rw[jJ,Array.toList_range];exact List.pairwise_lt_range
theorem uz{t:SetTable}{j:Nat}(hr:cJ t.place)(h:∀ i,t.slot j≠.live i):j ∉ t.place.toList:=fun hm=>by
 obtain⟨i,hi,e⟩:=aci.mp hm;have C6:i < t.place.size:=by simpa using hi
 rw[abY]at e;obtain⟨h1,h2,h3⟩:=iR j hr;have eb:SetTable.below t.place j=i:=by
  rcases Nat.lt_trichotomy (SetTable.below t.place j) i with q | q | q
  ·have a:=h3 (SetTable.below t.place j) (by omega) (aao _);have b:=hr _ i (by omega) C6 q;omega
  ·exact q
  ·have a:=h2 i C6 q;omega
 refine h i ?_;unfold SetTable.slot;dsimp only;rw[eb,abj C6,e];simp
theorem lL{t:SetTable}(hr:cJ t.place){ha:Nat->Int}{h:Int}:∀(fuel:Nat) (p:SetTable.Probe) {j:Nat} {d:Option Nat},(∀ k,p.dummy=some k->k ∉ t.place.toList)->SetTable.probe.go t ha h fuel p=some (.empty j d)->j ∉ t.place.toList/\∀ k,d=some k->k ∉ t.place.toList
 | 0,p,j,d,hp,e=>by unfold SetTable.probe.go at e;cases e
 | fuel+1,p,j,d,hp,e=>by
  unfold SetTable.probe.go at e;have XY:∀ q:SetTable.Probe,(t.advance q).dummy=q.dummy:=fun q=>by unfold SetTable.advance;split<;>rfl
  cases hs:t.slot p.j with
  | empty =>
   rw[hs]at e;cases e;exact⟨uz hr (fun i z=>by rw[hs]at z;cases z),hp⟩
  | dummy =>
   rw[hs]at e;refine lL hr fuel _ (fun k hk=>?_) e;rw[XY]at hk;cases hk;exact uz hr fun i z=>by rw[hs]at z;cases z
  | live i =>
   rw[hs]at e;dsimp only at e;split at e
   ·cases e
   ·exact lL hr fuel _ (fun k hk=>hp k (by rw[XY]at hk;exact hk)) e
theorem DB{t:SetTable}(hr:cJ t.place){h:Int}{slot:Nat}{wd:Bool}(e:t.freeSlot h=some (slot,wd)):slot ∉ t.place.toList:=by
 unfold SetTable.freeSlot SetTable.probe at e;cases q:SetTable.probe.go t (fun _=>h+1) h (10 * SetTable.turns t.mask) (t.probeStart h) with
 | none=>rw[q]at e;cases e
 | some m =>
  rw[q]at e;cases m with
  | candidate j i n=>cases e
  | empty j d =>
   obtain⟨h1,h2⟩:=lL hr _ _ (fun k hk=>by unfold SetTable.probeStart at hk;cases hk) q;cases d with
   | none=>simp at e;rw[<- e.1];exact h1
   | some d=>simp at e;rw[<- e.1];exact h2 d rfl
theorem xh{t:SetTable}(hr:cJ t.place){j:Nat}(hj:j ∉ t.place.toList):cJ (t.put j).1.place:=by
 obtain⟨h1,h2,h3⟩:=iR j hr;show cJ (SetTable.insertAt t.place (SetTable.below t.place j) j);rw[jJ,SetTable.toList_insertAt];have hp:=jJ.mp hr;refine List.pairwise_append.mpr ⟨hp.sublist (List.take_sublist ..),acy.mpr ⟨fun x hx=>?_,hp.sublist (List.drop_sublist ..)⟩,fun x hx y hy=>?_⟩
 ·obtain⟨k,hk,e⟩:=aci.mp hx;rw[List.getElem_drop,abY]at e;rw[abE,aaP]at hk;have:=h3 (SetTable.below t.place j+k) (by omega) (by omega);have i4:x≠j:=fun z=>hj (z▸List.mem_of_mem_drop hx);omega
 ·obtain⟨k,hk,e⟩:=aci.mp hx;rw[List.getElem_take,abY]at e;rw[abk,aaP]at hk;have Nh:=h2 k (by omega) (by omega);have ZU:x < j:=by omega
  rcases aan.mp hy with rfl | hy
  ·exact ZU
  ·obtain⟨m,hm,e'⟩:=aci.mp hy;rw[List.getElem_drop,abY]at e';rw[abE,aaP]at hm;have:=h3 (SetTable.below t.place j+m) (by omega) (by omega);omega
theorem rO{t:SetTable}(hr:cJ t.place)(n:Nat):cJ (t.orStandIn n).place/\(t.orStandIn n).led=t.led:=by
 unfold SetTable.orStandIn;split
 ·exact⟨hr,rfl⟩
 ·exact⟨gw n,rfl⟩
theorem AQ{t:SetTable}(hr:cJ t.place)(es:Array (Int×Value))(h:Int)(x:Value):cJ (layNew t es h x).2.1.place/\(layNew t es h x).2.1.led=t.led:=by
 unfold layNew;cases q:t.freeSlot h with
 | none=>exact⟨gw _,rfl⟩
 | some sw =>
  obtain⟨slot,wd⟩:=sw;have h1:=xh hr (DB hr q);have h2:=rO h1 (SetTable.insertAt es (t.put slot).2 (h,x)).size;exact⟨h2.1,h2.2⟩
theorem AR{t t':SetTable}{hs:Array Int}{wanted:Nat}{order:Array Nat}(e:t.relaid hs wanted=some (t',order)):cJ t'.place/\t'.led=t.led:=by
 unfold SetTable.relaid SetTable.laid at e;cases q:SetTable.layClean (SetTable.sizeAbove wanted - 1) hs with
 | none=>rw[q]at e;cases e
 | some owner =>
  rw[q]at e;simp only[bind,Option.bind,pure]at e;have e':=aaV e;have e1:=abK Prod.fst e';dsimp only at e1;subst e1;refine⟨?_,rfl⟩;rw[jJ];dsimp only;rw[List.pairwise_map];have hp:List.Pairwise (· < ·) (List.range (SetTable.sizeAbove wanted - 1+1)):=List.pairwise_lt_range;refine List.Pairwise.filterMap _ (fun a b FO x hx y hy=>?_) hp;cases q1:owner.getD a none with
  | none=>rw[q1]at hx;simp at hx
  | some u =>
   cases q2:owner.getD b none with
   | none=>rw[q2]at hy;simp at hy
   | some v =>
    rw[q1]at hx;rw[q2]at hy;simp at hx hy;subst hx hy;exact FO
theorem uA{t:SetTable}(es:Array (Int×Value))(wanted:Nat):cJ (relayAll t es wanted).2.1.place/\(relayAll t es wanted).2.1.led=t.led:=by
 unfold relayAll;cases q:t.relaid (es.map (·.1)) wanted with
 | none=>exact⟨gw _,rfl⟩
 | some to =>
  obtain⟨t',order⟩:=to;dsimp only;split
  ·exact AR q
  ·exact⟨gw _,rfl⟩
def xi(prog:u8)(w:World)(l:List (Int×Value)):Prop:=∀ e∈l,∃ n t,e.2=.int n t/\e.1=(intKind prog w).hash n
theorem xi.elems{l:List (Int×Value)}(h:xi prog w l):ElemsOf (intKind prog w) l:=fun e he=>by
 obtain⟨n,t,e1,e2⟩:=h e he;exact⟨⟨n,by rw[e1];exact adt _ _ _ _,e2⟩,by rw[e1];rfl⟩
theorem xi.perm{l l':List (Int×Value)}(h:xi prog w l)(p:l'.Perm l):xi prog w l':=fun e he=>h e (p.mem_iff.mp he)
def xj(prog:u8)(w:World)(h:Heap)(a:Addr)(ns:wn):Prop :=
 ∃ es ep t,dP (w.params.followText "set-order") h a es ep t/\es.size < scanBound/\xi prog w es.toList/\(es.toList.map fun e=>numOf e.2).Perm ns/\ns.Nodup
theorem xj.keep{prog:u8}{w:World}{h h':Heap}{a:Addr}{ns:wn}(x:xj prog w h a ns)(k:∀ o,h.get? a=some o->h'.get? a=some o):xj prog w h' a ns :=
 let ⟨es,ep,t,x1,r⟩:=x;⟨es,ep,t,x1.keep k,r⟩
theorem uB{FE:Array (Int×Value)}{t t':SetTable}{bt:Bool}(x:dP bt h a es ep t)(hf:t'.fits FE.size=true)(hl:t'.led=t.led)(hr:cJ t'.place):dP bt (h.update a (Obj.putSet FE t')) a FE (ep+1) t':=by
 obtain⟨o,ho,hex,hd⟩:=x.ob;have:=aa7 (Obj.putSet FE t') ho (by rw[putSet_of FE t' hd];rfl);rw[putSet_of FE t' hd]at this;exact⟨⟨_,this,hex,rfl⟩,hf,hl.trans x.led,hr⟩
theorem uC{g:Bool->Sem Unit}(hg:∀(b:Bool) (bH:Shared) (Q':Unit->Shared->Prop),Q' () bH->wpAny (model prog w) A (g b) Q' E bH){t:SetTable}(x:dP (w.params.followText "set-order") s.heap a es ep t){mn:Array (Int×Value)}{t2:SetTable}(hz:mn.size<=sizeLine)(ZV:t2.fits mn.size=true)(hl:t2.led=t.led)(hr:cJ t2.place){uD:Bool}{R:Option Bool->Shared->Prop}(h:∀ h' AS Hv t3,Heap.SameBut a s.heap h'->dP (w.params.followText "set-order") h' a AS Hv t3->AS.toList.Perm mn.toList->R (some true) { s with heap:=h' }) :
  wpAny (model prog w) A (do
    storeSet a mn t2
    if(!uD&&t2.tooFull)=true then do
      g (relayAll t2 mn (SetTable.grown mn.size)).2.2
      storeSet a (relayAll t2 mn (SetTable.grown mn.size)).1 (relayAll t2 mn (SetTable.grown mn.size)).2.1
      pure (some true)
     else pure (some true)) R E s:=by
 obtain⟨o,ho,hex,hd⟩:=x.ob;refine aaj (wpAny_storeSet_of ho hd ?_ hz);have x1:=uB x ZV hl hr;have Rv:=aaW s.heap a (Obj.putSet mn t2);split
 ·have hp:=relayAll_perm t2 mn (SetTable.grown mn.size);have OB:=relayAll_fits t2 mn (SetTable.grown mn.size);have ku:=uA (t:=t2) mn (SetTable.grown mn.size);generalize hRl:relayAll t2 mn (SetTable.grown mn.size)=Rl at hp OB ku ⊢;obtain⟨AS,t3,XZ⟩:=Rl;dsimp only at hp OB ku ⊢;have hsz:AS.size=mn.size:=by rw[<- aaP,hp.length_eq,aaP]
  refine aaj (hg _ _ _ ?_);obtain⟨o1,Jl,ZW,ZX⟩:=x1.ob;refine aaj (wpAny_storeSet_of Jl ZX ?_ (by rw[hsz];exact hz));exact aam (h _ _ _ _ (Rv.trans (aaW _ a _)) (uB x1 OB ku.2 ku.1) hp)
 ·exact aam (h _ _ _ _ Rv x1 (acD _))
theorem add_int{k:Int}{tk:Tok}{Q:Bool->Shared->Prop}(hS:xj prog w s.heap a ns)(JX:ns.length+1 < scanBound)(h:∀ h' jo b,Heap.SameBut a s.heap h'->xj prog w h' a jo->(∀ n,n∈jo↔n∈ns\/n=k)->jo.length<=ns.length+1->Q b { s with heap:=h' }) :
  wpAny (model prog w) A (setAddHashed a (.int k tk) ((intKind prog w).hash k)) Q E s:=by
 obtain⟨es,ep,t,x,hb,DD,JY,S7⟩:=hS;obtain⟨o,ho,hex,hd⟩:=x.ob;have hn:es.size=ns.length:=by have:=JY.length_eq;simpa using this
 have Lh:(intKind prog w).is k (.int k tk)=true:=adt _ _ _ _;have wL:∀ e∈es.toList,(intKind prog w).is k e.2=true↔numOf e.2=k:=fun e he=>by
  obtain⟨n,t',e1,_⟩:=DD e he;rw[e1];constructor
  ·intro q;exact((intKind prog w).inj _ _ _ q (adt _ _ n t')).symm
  ·rintro rfl;exact adt _ _ _ _
 unfold setAddHashed setAddHashedIn;refine abc (aaj (wpAny_setState_of ho hd x.fits ?_));dsimp only;rw[byScan_of rfl hb DD.elems];simp only[↓reduceIte];unfold setAddByScan;refine aaj ?_;refine aaj (acp ?_);refine aaj (wpAny_setScan_of Lh ho hd x.fits DD.elems ?_);cases hr:List.findIdx? (fun e=>(intKind prog w).is k e.2) es.toList with
 | some j =>
  dsimp only;obtain⟨hj,ZY,_⟩:=List.findIdx?_eq_some_iff_getElem.mp hr;have hk:k∈ns:=JY.mem_iff.mp (aa8.mpr ⟨_,abF hj,(wL _ (abF hj)).mp ZY⟩);refine aam (aam ?_);exact h s.heap ns false (Heap.SameBut.refl a s.heap) ⟨es,ep,t,x,hb,DD,JY,S7⟩ (fun n=>⟨.inl,fun z=>z.elim id fun z=>z▸hk⟩) (by omega)
 | none =>
  dsimp only;have hk:k ∉ ns:=fun hk=>by
   obtain⟨e,he,q⟩:=aa8.mp (JY.mem_iff.mpr hk);have:=List.findIdx?_eq_none_iff.mp hr e he;rw[(wL e he).mpr q]at this;cases this
  have ZZ:∀(b:Bool) {bH:Shared} {Q':Unit->Shared->Prop},Q' () bH->wpAny (model prog w) A (match b with | true=>rule "set.scan.the-table-gave-way" | false=>pure ()) Q' E bH :=
   fun b bH Q' hq=>by cases b<;>first | exact aam hq | exact acp hq
  have qg:=layNew_perm t es ((intKind prog w).hash k) (.int k tk);have uE:=layNew_fits t es ((intKind prog w).hash k) (.int k tk);have AU:=AQ x.up es ((intKind prog w).hash k) (.int k tk);generalize hL:layNew t es ((intKind prog w).hash k) (.int k tk)=L at qg uE AU ⊢;obtain⟨mn,t1,uD,Z0⟩:=L;dsimp only at qg uE AU ⊢;rw[Array.toList_push]at qg;have Rx:mn.size=es.size+1:=by rw[<- aaP,qg.length_eq,aaQ,aaP];rfl
  have Vp:xi prog w mn.toList:=fun e he=>by
   rcases abo.mp (qg.mem_iff.mp he)with q | q
   ·exact DD e q
   ·rw[abd]at q;subst q;exact⟨k,tk,rfl,rfl⟩
  have Vq:(mn.toList.map fun e=>numOf e.2).Perm (ns++[k]):=by
   have h1:=qg.map (fun e=>numOf e.2);rw[ab3]at h1;exact h1.trans (JY.append_right _)
  have Vr:(ns++[k]).Nodup:=List.nodup_append.mpr ⟨S7,by simp,fun a ha b X0=>by rw[abd]at X0;subst X0;exact fun z=>hk (z▸ha)⟩;have tS:∀ h' AS Hv t3,Heap.SameBut a s.heap h'->dP (w.params.followText "set-order") h' a AS Hv t3->AS.toList.Perm mn.toList->Q true { s with heap:=h' }:=fun h' AS Hv t3 sb x2 p2=>by
   refine h h' (ns++[k]) true sb ⟨AS,Hv,t3,x2,?_,Vp.perm p2,(p2.map _).trans Vq,Vr⟩ (fun n=>by simp) (by simp);rw[<- aaP,p2.length_eq,aaP,Rx,hn];exact JX
  have X1:mn.size<=sizeLine:=fits_of_scanBound (by rw[Rx,hn];exact JX);refine aaj (ZZ _ ?_);split
  ·refine aaj ?_;rw[hashByValue_scannable 8 rfl];refine aam ?_;refine uC ?_ x X1 ?_ ?_ ?_ ?_
   ·intro b bH Q' hq;cases b<;>first | exact aam hq | exact acp hq
   ·split
    ·exact uE
    ·exact SetTable.fits_plain_off uE
   ·split<;>exact AU.2
   ·split<;>exact AU.1
   ·intro h' AS Hv t3 sb x2 p2;dsimp only;exact aam (tS h' AS Hv t3 sb x2 p2)
  ·refine aaj (aam ?_);simp only[↓reduceIte];refine uC ?_ x X1 uE AU.2 AU.1 ?_
   ·intro b bH Q' hq;cases b<;>first | exact aam hq | exact acp hq
   ·intro h' AS Hv t3 sb x2 p2;dsimp only;exact aam (tS h' AS Hv t3 sb x2 p2)
structure Nl(prog:u8)(w:World)(u:Nat)(S I:Addr)(n:Nat)(P:Nat->Value->Prop)(J:Nat->Heap->Prop):Prop where
 keep:∀ i h h',J i h->(∀ b o,b≠I->h.get? b=some o->h'.get? b=some o)->J i h'
 add:∀(A:tx) (s:Shared) i v,A.units<=u->i < n->P i v->J i s.heap->∀(Q:Bool->Shared->Prop) (E:xz),(∀ h' tk b,Heap.SameBut S s.heap h'->s.toks<=tk->J (i+1) h'->Q b { s with heap:=h',toks:=tk })->wpAny (model prog w) A (setAdd S v) Q E s
theorem AV{R:Result->Shared->Prop}{S:Addr}{fp:ww}{n:Nat}{P:Nat->Value->Prop}{St:Nat->Heap->Prop}{J:Nat->Heap->Prop}{u:Nat}(W:Walks prog w A.in1 I fp [I] n P St)(F:Nl prog w u S I n P J)(hu:A.units+1<=u)(Z1:S ∉ fp) :
  ∀(k:Nat) (s:Shared),k<=n->St (n - k) s.heap->J (n - k) s.heap ->
   (∀ h' tk,(∀ b o,b≠S->b≠I->s.heap.get? b=some o->h'.get? b=some o)->J n h'->R (.ok (.ret .none)) { s with heap:=h',toks:=tk }) ->
   codeAny (model prog w) A (.builtin "set.update.loop" ⟨[.ref S,.ref I],[]⟩) R s:=by
 intro k;induction k with
 | zero =>
  intro s _ yk hJ hR;refine acb ack ?_;rw[abX abH];refine aaj (W.done s _ _ yk fun h' tk hk=>?_);have kk:∀ b o,b≠I->s.heap.get? b=some o->h'.get? b=some o:=fun b o hb e=>hk b o (by simpa using hb) e;exact aam (hR h' tk (fun b o _ hb e=>kk b o hb e) (F.keep _ _ _ hJ kk))
 | succ k ih =>
  intro s hle yk hJ hR;refine acb ack ?_;rw[abX abH];refine aaj (W.item (n - (k+1)) s _ _ (by omega) yk fun v h1 tk1 hP Ry hk=>?_);have kk:∀ b o,b≠I->s.heap.get? b=some o->h1.get? b=some o:=fun b o hb e=>hk b o (by simpa using hb) e;refine aaj (abc (F.add _ _ _ v hu (by omega) hP (F.keep _ _ _ hJ kk) _ _ fun h2 Z2 b sb _ X2=>?_));have e:n - (k+1)+1=n - k:=by omega
  rw[e]at Ry X2;have Ru:∀ b o,b≠S->h1.get? b=some o->h2.get? b=some o:=fun b o hb q=>sb.extBut b o hb q;refine aam ⟨acM abH _,ih { s with heap:=h2,toks:=Z2 } (by omega) ?_ X2 fun h3 Z3 k3 Z4=>hR h3 Z3 (fun b o FJ X3 q=>k3 b o FJ X3 (Ru b o FJ (kk b o X3 q))) Z4⟩;exact W.frame _ _ _ Ry fun b hb o q=>Ru b o (fun z=>Z1 (z▸hb)) q
noncomputable abbrev fL(w:World):Obj:={ cls:=.type "set",dict:=none,data:=.set #[] 0 (.fresh 0 0 (!w.params.followText "set-order")) }
theorem DE(x:Value)(h:Q (.ref s.heap.objs.size) { s with heap:=s.heap.push (fL w) }):codeAny (model prog w) A (.call (.builtin "set.__new__") ⟨[.type "set",x],[]⟩) (wants Q E) s:=by
 refine codeAny_of_tree (aaj (m:=checkBuiltinCall "set.__new__" _) (wpAny_of_eq (PySem.F.newCall_set_1 x) (aam ⟨acM PySem.F.plain_set_new _,acb PySem.F.entry_set_new ?_⟩)));rw[abX PySem.F.plain_set_new];unfold Builtin.«set.__new__» newSet;refine aaj (Q:=_) (m:=Builtin.Frozenset.newClass _ _) ?_;unfold Builtin.Frozenset.newClass;have GG:=sub_set_self
 wp_walk
 refine wpAny_askSetting (aam ?_);simp only[newObj];exact aaj (wpAny_alloc (aam (aam h)))
theorem uF{T ni ii:String}{args:wf}{M:xz}(c:TypeCalled T ni ii)(hc:checkTypeCall T ⟨args,[]⟩=pure ())(hm:codeAny (model prog w) A.in1 (.call (.builtin ni) ⟨.type T::args,[]⟩) (wants M E) s)(hf:∀ x s1,M x s1->s1.TypeIs x T/\codeAny (model prog w) A.in1 (.call (.builtin ii) ⟨x::args,[]⟩) (wants (fun r s2=>r=.none/\Q x s2) E) s1):wpAny (model prog w) A (call (.type T) args) Q E s:=by
 have⟨nt,cc,⟨_,_,mro⟩,mk,_,sb,S8⟩:=c;refine wpAny_call (codeAny_of_tree (aam ⟨Code.quiet_builtin _ (by decide +kernel),acb PySem.F.entry_type_call ?_⟩));rw[Around.under_plain (weight_type_call_type T args []) rfl]
 repeat (any_goals (first | wp_step | assumption))
 refine ab9 hm fun r s1 hr=>?_;rcases r with e | f
 ·exact hr
 cases f with
 | next=>exact hr.elim
 | brk=>exact hr.elim
 | cont=>exact hr.elim
 | ret x =>
 have⟨hT,hi⟩:=hf _ _ hr;have il:=S8.lookup;have ib:=S8.bind x
 repeat (any_goals (first | wp_step | assumption))
 refine ab9 hi fun r s2 Mx=>?_;rcases r with e | f
 ·exact Mx
 cases f with
 | next=>exact Mx.elim
 | brk=>exact Mx.elim
 | cont=>exact Mx.elim
 | ret y =>
 obtain⟨rfl,q⟩:=Mx
 repeat (any_goals (first | wp_step | assumption))
theorem uG{l:Addr}{items:Array Value}{J:Nat->Heap->Prop}{u:Nat}(hu:A.units+8<=u)(hh:A.handled=none)(hl:s.heap.IsList l items)(F:Nl prog w u s.heap.objs.size (s.heap.objs.size+1) items.size (fun i v=>items[i]?=some v) J)(h0:∀ h',(∀ b o,s.heap.get? b=some o->h'.get? b=some o)->h'.get? s.heap.objs.size=some (fL w)->J 0 h')(h:∀(h':Heap) (tk:Nat),(∀ b o,s.heap.get? b=some o->h'.get? b=some o)->J items.size h'->Q (.ref s.heap.objs.size) { s with heap:=h',toks:=tk }) :
  wpAny (model prog w) A (call (.type "set") [.ref l]) Q E s:=by
 refine uF (M:=fun o bH=>o=.ref s.heap.objs.size/\bH={ s with heap:=s.heap.push (fL w) }) PySem.F.called_set (PySem.F.typeCall_set_1 _) (DE _ ⟨rfl,rfl⟩) ?_;rintro _ _ ⟨rfl,rfl⟩;have hS:(s.heap.push (fL w)).get? s.heap.objs.size=some (fL w):=aau _ rfl;have pe:(s.heap.push (fL w)).IsList l items:=hl.push _;have hsz:(s.heap.push (fL w)).objs.size=s.heap.objs.size+1:=aba ..;have k1:∀ b o,s.heap.get? b=some o->(s.heap.push (fL w)).get? b=some o:=fun b o e=>aal _ e;have iz:l < s.heap.objs.size:=let ⟨_,ho,_⟩:=hl;aar ho;have Z5:Shared.TypeIs { s with heap:=s.heap.push (fL w) } (.ref l) "list":=let ⟨o,ho,hc,_⟩:=pe;⟨o,ho,hc⟩;refine⟨⟨_,hS,rfl⟩,codeAny_call_builtin PySem.F.called_set.init.plain PySem.F.entry_set_init (check_set_init_1 ⟨_,hS,rfl⟩ ?_)⟩;generalize hG:s.heap.push (fL w)=G at hS pe hsz k1 Z5;have x0:dP (w.params.followText "set-order") G s.heap.objs.size #[] 0 (.fresh 0 0 (!w.params.followText "set-order")):=⟨⟨_,hS,⟨rfl,rfl,rfl⟩,rfl⟩,rfl,rfl,oE⟩;unfold Builtin.«set.__init__» noKeywords;refine aaj (abr (fun _=>aam ?_) fun z=>absurd rfl z);have hTS:Shared.TypeIs { s with heap:=G } (.ref s.heap.objs.size) "set":=⟨_,hS,rfl⟩;generalize Z6:Builtin.Frozenset.updateFrom=UF
 wp_walk
 subst Z6;unfold Builtin.Frozenset.updateFrom Builtin.Frozenset.isAnySet;have n1:=PySem.F.sub_list_set;have n2:=PySem.F.sub_list_frozenset;generalize Z7:pyIter=PI
 wp_walk
 subst Z7;refine abA pe (aaj (wpAny_runValue ?_));have hI:G.objs.size=s.heap.objs.size+1:=hsz;dsimp only;rw[hI];have k2:∀ b o,s.heap.get? b=some o->(G.push { cls:=.type "list_iterator",data:=.fields #[.ref l,.int 0 0] }).get? b=some o:=fun b o e=>aal _ (k1 b o e);refine AV (Walks.list (by simp[hh]) (s.heap.objs.size+1) l (aaO (ac4 iz)) items) F (by show _<=u;simp only[Around.in1];omega) (fun z=>?_) items.size _ (aao _) ?_ ?_ fun h' tk k3 hJ=>?_
 ·rcases aan.mp z with e | e
  ·exact absurd e (aaO (abN _))
  ·rw[abd]at e;exact absurd e (abO iz)
 ·rw[Nat.sub_self];exact⟨⟨_,by rw[<- hI];exact aau _ rfl,rfl,rfl⟩,pe.push _⟩
 ·rw[Nat.sub_self];exact h0 _ k2 (aal _ hS)
 ·refine aam (aam ⟨rfl,h h' tk (fun b o e=>k3 b o (aaO (aar e)) (aaO (ac4 (aar e))) (k2 b o e)) hJ⟩)
def Rz(prog:u8)(w:World)(S:Addr)(ns:wn)(i:Nat)(h:Heap):Prop:=∃ jo,xj prog w h S jo/\(∀ k,k∈jo↔k∈ns.take i)/\jo.length<=i
theorem AW{S:Addr}{items:Array Value}{u:Nat}(i4:S≠I)(hi:IntsAre items.toList ns)(hb:ns.length+1 < scanBound) :
  Nl prog w u S I items.size (fun i v=>items[i]?=some v) (Rz prog w S ns) where
 keep:=fun i h h' ⟨jo,x,r⟩ k=>⟨jo,x.keep fun o e=>k S o i4 e,r⟩
 add:=fun A s i v _ iz hv zz Q E hQ=>by
  obtain⟨jo,x,hm,hl⟩:=zz
  have RA:items.size=ns.length:=by have:=IntsAre.length hi;simpa using this
  obtain⟨t,rfl⟩:=IntsAre.int_at hi i v (by rw[abQ];exact hv);unfold setAdd;refine abc (aaj ((intKind prog w).pyHash (k:=ns.getD i 0) (adt _ _ _ _) ?_));refine add_int (s:={ s with toks:=s.toks+1 }) x (by omega) fun h' Z8 b sb x2 OH sQ=>hQ h' (s.toks+1) b sb (abB _) ⟨Z8,x2,fun k=>?_,by omega⟩;have X4:i < ns.length:=by omega
  have e:ns.getD i 0=ns[i]:=by rw[abx,aaG X4];rfl
  have et:ns.take (i+1)=ns.take i++[ns[i]]:=by rw[aaM,aaG X4];rfl
  rw[OH,hm,e,et,abo,abd]
def uH(K:zn):V->Hp->VK->Prop:=fun x H Q=>∃(p:Addr) (ns:wn),x=.ref p/\gb K H p (ns.map V.int)/\ns.length < 64 /\
 ∀(l:Addr) (jo:wn),H l=none->jo.Pairwise (· < ·)->(∀ k,k∈jo↔k∈ns)->Q (.ref l) (upd H l (.lst (jo.map V.int)))
theorem zl:∀{vs:wf} {ns:wn},IntsAre vs ns->ns=vs.map numOf
 | _,_,.nil=>rfl
 | _,_,.cons n t r=>by rw[aaz,<- zl r];rfl
section
variable {X:Cx}{pins:yp}{σ:St}{H:Hp}
theorem Inv.drew{t':Nat}{d:Drawn}(I:Inv X pins σ H { s with heap:=h',toks:=t' }):Inv X pins σ H { s with heap:=h',toks:=t',drawn:=d } :=
 ⟨I.ok,I.os,I.bare,I.base,I.loc,I.cell,I.free,I.iA,I.pin,I.cv,I.len⟩
theorem AX{X5:wn}{Q:VK}(hc:X.calm=true)(I:Inv X pins σ H s)(x:xj X.prog X.w s.heap a ns)(hm:∀ k,k∈ns↔k∈X5)(h64:ns.length < 64)(q:∀(l:Addr) (jo:wn),H l=none->jo.Pairwise (· < ·)->(∀ k,k∈jo↔k∈X5)->Q (.ref l) (upd H l (.lst (jo.map V.int)))) :
  wpAny (model X.prog X.w) X.A (call (.builtin "sorted") [.ref a]) (EP X pins σ Q) E s:=by
 obtain⟨es,ep,t,so,hb,DD,JY,S7⟩:=x;have hz:es.size<=sizeLine:=fits_of_scanBound hb;have RA:ns.length=es.size:=by have:=JY.length_eq;simpa using this.symm
 have kr:∀ vs:List Value,vs.Perm (es.toList.map (·.2))->∀ v∈vs,∃ n t,v=Value.int n t:=fun vs hv v Z9=>by
  obtain⟨e,he,rfl⟩:=aa8.mp (hv.mem_iff.mp Z9);obtain⟨n,t,e1,_⟩:=DD e he;exact⟨n,t,e1⟩
 refine oC (Rc:=fun vs=>vs.Perm (es.toList.map (·.2))) (fun A R E hh hR=>uy hh so hz fun h' tk d vs k p=>hR h' tk d vs k p) (I.ok.hd hc) (fun vs hv=>?_) (fun vs hv=>⟨_,intsAre_map vs (kr vs hv)⟩) fun h1 h' tk d vs out ns1 jo c k1 k2 rc hi1 e hi pm pw=>?_
 ·rw[hv.length_eq,aak,aaP];omega
 ·have e1:ns1=vs.map numOf:=zl hi1;have p2:jo.Perm ns:=by
   have h3:=rc.map numOf;rw[acG]at h3;rw[e1]at pm;exact pm.trans (h3.trans JY)
  have I1:Inv X pins σ H { s with heap:=h1,toks:=tk }:=I.kept k1;have hv:=ox hi;have hl:=p2.length_eq;have I2:=I1.laid (t':=tk) (a:=h1.objs.size) (o:=.lst (jo.map V.int)) k2 (aao _) (show cq X.prog X.w _ h' _ (.lst _) from ⟨by rw[aak];omega,out,c,hv,e⟩);refine⟨.ref h1.objs.size,_,I2.drew,rfl,q _ _ (I1.cv.fresh (aao _)) ?_ fun k=>by rw[p2.mem_iff,hm]⟩;have nd:jo.Nodup:=p2.nodup_iff.mpr S7;exact(pw.and nd).imp fun⟨a,b⟩=>by omega
variable {e:Expr}{te:TE}{p p2 pos Vs:Pos}
theorem AY(hc:X.calm=true)(hm1:X.mg "sorted"=none)(OH:X.mg "set"=none)(he:SE X e te)(hs:autoParam (noStar e=true) ra0)(hg1:autoParam (Gl X "sorted") ra0)(hg2:autoParam (Gl X "set") ra0) :
  SE X (.Call (.Name "sorted" p) [.Call (.Name "set" p2) [e] [] Vs] [] pos) (Sq (uH X.K) te):=⟨by
 intro pins s σ H Q I h
 refine abP (j2 I hg1 hm1 PyProof.Rows.boot_sorted ?_)
 refine acF (acV ?_) rfl rfl
 refine abP (j2 I hg2 OH PyProof.Rows.boot_set ?_)
 refine abI ?_ (cW [] X.env hs) rfl
 rw[cW [] X.env hs]
 refine acV (cL (he.run pins s σ H _ I h) fun u s1 ⟨x,H1,I1,r1,q1⟩=>?_)
 obtain⟨p,ns,rfl,hq,hb,q⟩:=q1
 cases r1
 obtain⟨aV,rv,pl,hz⟩:=I1.list hq
 refine ac2 ?_
 have hi:=intsAre_of rv
 have hlen:aV.length=ns.length:=by have:=rv.length;simp at this;omega
 refine uG (items:=aV.toArray) (aao _) (I1.ok.hd hc) pl.isList (AW (aaO (abN _)) (by simpa using hi) (aaD (Nat.succ_lt_succ hb) (by decide))) (fun h' k e0=>⟨[],⟨#[],0,_,⟨⟨_,e0,⟨rfl,rfl,rfl⟩,rfl⟩,rfl,rfl,oE⟩,by decide,(fun e he=>by simp at he),acD _,List.nodup_nil⟩,fun k=>by simp,aao _⟩) fun h' tk k2 ⟨jo,x,hm,hle⟩=>?_
 refine ac2 ?_
 refine AX (s:={ s1 with heap:=h',toks:=tk }) hc (I1.kept k2) x (fun k=>?_) (by simp at hle;omega) q
 rw[hm,abL (by simp;omega)]⟩
end
def DF:DV->Wd->DK->Prop:=fun a W Q=>∃ ns:List Int,dS W a=some (ns.map fun i=>.im (.int i))/\ns.length < 64/\∀ jo:List Int,jo.Pairwise (· < ·)->(∀ k,k∈jo↔k∈ns)->i5 (jo.map fun i=>.im (.int i)) W Q
instance {K:zn}[hk:mD C K]:UH C (uH K) DF:=by
 obtain⟨rfl⟩:=hk;exact⟨fun D h zz k=>by
  obtain⟨ns,e,hb,q⟩:=zz
  obtain⟨p,xs,rfl,hq,r⟩:=D.dS h e;rw[uw.mp r]at hq;exact⟨p,ns,rfl,gb.of hq,hb,fun l jo hl h1 h2=>gY D (uw.mpr rfl) hl (q jo h1 h2) k⟩⟩
def DG(K:zn):V->List V->Hp->VK->Prop:=fun x vs H Q=>∃(p:Addr) (ns:wn) (k:Int),x=.ref p/\vs=[.int k]/\gb K H p (ns.map V.int)/\Q (.int (ns.count k:Nat)) H
section
variable {X:Cx}
theorem uI:T5 X "list.count" (DG X.K):=by
 intro pins s σ H x vs v us Q I rx rv h;obtain⟨p,ns,k,rfl,rfl,hq,q⟩:=h;cases rx;obtain⟨u,rfl,t,rfl⟩:=vals1 rv;obtain⟨aV,rv,⟨o,n,ho,hc,hd,hs⟩,hz⟩:=I.list hq;have hi:=intsAre_of rv;obtain⟨cls,dd,data,sl⟩:=o;simp only at hc hd hs;subst hc hd hs;refine ads F.slot_list_count ⟨_,ho,rfl⟩ F.entry_list_count (F.args_list_count_2 _ _) (PySem.SeqAt.list_countAt p aV.toArray n none sl (.int k t) (fun y=>numOf y == k)) ⟨ho,fun y hy=>?_,?_⟩
 ·obtain⟨m,t',rfl⟩:=hi.all y (by simpa using hy);exact PySem.SeqAt.EqAt.int_int m t' k t
 ·refine⟨.int (ns.count k:Nat),H,I.tok _,⟨s.toks,?_⟩,q⟩;rw[<- hi.nums,List.count,List.countP_map]
  rfl
end
def Nm:DV->List DV->Wd->DK->Prop:=fun a as W Q=>∃(ns:wn) (n:Int),as=[.im (.int n)]/\dS W a=some (ns.map fun i=>.im (.int i))/\Q (.im (.int (ns.count n:Nat))) W
instance {K:zn}[hk:mD C K]:OG C (DG K) Nm:=by
 obtain⟨rfl⟩:=hk;exact⟨fun D h1 h2 zz k=>by
  obtain⟨ns,n,e,e1,q⟩:=zz
  subst e;obtain⟨y,rfl,hy⟩:=h2.dX;obtain⟨p,xs,rfl,hq,r⟩:=D.dS h1 e1;rw[uw.mp r]at hq;exact⟨p,ns,n,rfl,by rw[show y=V.int n from hy],gb.of hq,k.now (dv:=.im (.int _)) D rfl q⟩⟩
theorem anyI(z:Int):∀ xs:List Int,((xs.map PyData.int).any fun d=>PyData.eqv d (.int z))=decide (z∈xs)
 | []=>by simp
 | x::xs=>by
  rw[aaz,abl,anyI z xs,show PyData.eqv (.int x) (.int z)=(x == z) from rfl]
  by_cases e:x=z
  ·simp[e]
  ·have:¬ z=x:=fun q=>e q.symm;simp[e,this]
theorem anyS(z:Str):∀ xs:List Str,((xs.map PyData.str).any fun d=>PyData.eqv d (.str z))=decide (z∈xs)
 | []=>by simp
 | x::xs=>by
  rw[aaz,abl,anyS z xs,show PyData.eqv (.str x) (.str z)=(x == z) from rfl]
  by_cases e:x=z
  ·simp[e]
  ·have:¬ z=x:=fun q=>e q.symm;simp[e,this]
section
variable {W:Wd}{Q:DK}{neg:Bool}{b:DV}{p:Addr}{ds:wE}
theorem RB(e:W p=some (.lst (ds.map .im))):gF W (.pt p)=some ds:=by
 have e1:dS W (.pt p)=some (ds.map .im):=by unfold dS;dsimp only;rw[e]
 unfold gF iF;rw[e1];exact jF (fun _=>by rfl) ds
theorem jq{z:Int}{xs:wn}(e:gF W b=some (xs.map .int))(h:Q (.im (.bool (if neg then !decide (z∈xs)else decide (z∈xs)))) W):ug neg (.im (.int z)) b W Q :=
 ⟨_,_,rfl,e,.inl ⟨rfl,by rw[abm];intro d hd;obtain⟨x,_,rfl⟩:=aa8.mp hd;rfl⟩,by rw[anyI];exact h⟩
theorem kQ{z:Str}{xs:wv}(e:gF W b=some (xs.map .str))(h:Q (.im (.bool (if neg then !decide (z∈xs)else decide (z∈xs)))) W):ug neg (.im (.str z)) b W Q :=
 ⟨_,_,rfl,e,.inl ⟨rfl,by rw[abm];intro d hd;obtain⟨x,_,rfl⟩:=aa8.mp hd;rfl⟩,by rw[anyS];exact h⟩
end
end L2
namespace L2
open PySem PySem.Spec PyProof.Rows PySem.StrLaws PySem.Builtin.Str
end L2
namespace L2
open PySem PySem.Spec PyProof.Rows
end L2
namespace L2
open PySem PySem.Spec PyProof.Rows
variable {C:DC}
abbrev xk(K:zn)(Rs:Hp->Addr->Addr->Nat->Prop)(H:Hp)(W:Wd)(O:Addr->Prop)(E:XK):DC:=⟨K,Rs,H,fun a=>(W a).isSome=true,O,E,fun _=>False⟩
abbrev sU:=List DV->Wd->(DV->Wd->Prop)->Prop
def iW(K:zn)(Rs:Hp->Addr->Addr->Nat->Prop)(S:sU):Sp:=fun vs H Q E=>∃(O:Addr->Prop) (aK:List DV) (W:Wd) (R:DV->Wd->Prop),
 (∀ a,O a->H a≠none)/\(∀ p c,W p=some c->¬ O p/\H p≠none/\bS (xk K Rs H W O E) W H p c)/\aM (xk K Rs H W O E) (Fz (xk K Rs H W O E) W H) aK vs/\S aK W R /\
 (∀ v dv H' W',R dv W'->(∀ a o,H a=some o->W a=none->H' a=some o)->(∀ a,H a≠none->H' a≠none)->(∀ p c,W' p=some c->(H p=none\/(W p).isSome=true)/\¬ O p/\bS (xk K Rs H W O E) W' H' p c)->dH (xk K Rs H W O E) (Fz (xk K Rs H W O E) W' H') dv v->Q v H')
section
variable {P:u8}{w:World}{K:zn}{mg:xL}{base:Heap}{x qual:Str}{st:Stmt}{f:Addr}{fd:wT}{N ps:wv}{k:Nat}{Sd:sU}{Rs:Hp->Addr->Addr->Nat->Prop}
theorem DH{vs:List V}{H:Hp}{Q:VK}{E:XK}{t:TS}(ok:wX Rs)(h:iW K Rs Sd vs H Q E)(hb:∀ O W,∃ d,LS (xk K Rs H W O E) t d/\∀ aK R,Sd aK W R->d (Hm R) (cz N aK) W):t { nx:=fun _ H'=>Q .dj H',rt:=Q } (start N vs) H:=by
 obtain⟨O,aK,W,R,hO,hc,hv,hS,hR⟩:=h;obtain⟨d,hd,hb⟩:=hb O W;have D:DR (xk K Rs H W O E) (start N vs) H (cz N aK) W:=by
  refine⟨⟨ok.rs,ok.rn,fun c Vh=>Vh.elim⟩,fun a o e _=>e,hO,fun a ha=>?_,?_,fun p c e=>⟨.inr (by show(W p).isSome=true;rw[e];rfl),(hc p c e).1,(hc p c e).2.2⟩⟩
  ·cases q:W a with
   | none=>have pj:(W a).isSome=true:=ha;rw[q]at pj;cases pj
   | some c=>exact(hc a c q).2.1
  ·unfold start cz;rw[hv.length];exact Slots.start _ hv
 have fr:∀ bG H' cC W',DR (xk K Rs H W O E) bG H' cC W'->(∀ a o,H a=some o->W a=none->H' a=some o)/\(∀ a,H a≠none->H' a≠none)/\∀ p c,W' p=some c->(H p=none\/(W p).isSome=true)/\¬ O p/\bS (xk K Rs H W O E) W' H' p c:=fun bG H' cC W' D' =>
  ⟨fun a o e e2=>D'.fr a o e (by show ¬ (W a).isSome=true;rw[e2];exact fun z=>nomatch z),fun a ha=>by
   cases q:W a with
   | none=>cases q2:H a with
    | none=>exact absurd q2 ha
    | some o=>rw[D'.fr a o q2 (by show ¬ (W a).isSome=true;rw[q];exact fun z=>nomatch z)];exact fun z=>nomatch z
   | some c=>exact D'.th a (by show(W a).isSome=true;rw[q];rfl),fun p c e=>D'.ce p c e⟩
 refine hd.go D (hb aK R hS) ⟨fun bG H' cC W' D' s q=>?_,fun bG H' cC W' D' s q=>q.elim,fun bG H' cC W' D' s q=>q.elim,fun x dv bG H' cC W' D' s v q=>?_⟩
 ·obtain⟨f1,f2,f3⟩:=fr bG H' cC W' D';exact hR .dj (.im .none) H' W' q f1 f2 f3 rfl
 ·obtain⟨f1,f2,f3⟩:=fr bG H' cC W' D';exact hR x dv H' W' q f1 f2 f3 v
theorem cM.Bv(F:cM K x qual st f fd)(S:aB N ps (defScope st))(ok:wX Rs)(hlen:∀ aK W R,Sd aK W R->aK.length=ps.length)(dJ:∀(bz:Value) (A:tx) (outer:List Env) (s:Shared) (H:Hp) (E:XK),cT k (A.deeper (envOfC qual (defScope st) s.heap.objs.size f bz)) ->
   ∃ t,sR (gf cU P w K mg base N qual (defScope st) f bz A outer s H E).zQ (defBody st) t/\∀ O W,∃ d,LS (xk K Rs H W O E) t d/\∀ aK R,Sd aK W R->d (Hm R) (cz N aK) W):ba P w K mg base cU (k+1) f fd ps (iW K Rs Sd) :=
 F.LY S (fun vs H Q E zz=>by obtain⟨O,aK,W,R,_,_,hv,hS,_⟩:=zz; rw[<- hv.length];exact hlen aK W R hS) fun bz A outer s H vs Q E hr h=>by
  obtain⟨t,h1,h2⟩:=dJ bz A outer s H E hr;exact⟨t,h1,DH ok h h2⟩
end
def dV(S:sU):List DV->Wd->DK->Prop:=fun as W Q=>S as W Q
section
variable {σ:St}{H H':Hp}{ρ:bR}{W W':Wd}{Qd:DK}{Q:VK}
theorem bS.JZ{C':DC}(hK:C'.K=C.K)(hR:C'.Rs=C.Rs)(hO:C'.O=C.O){p:Addr}:∀{c:Cell},bS C W H p c->bS C' W H p c:=by
 have e:Fz C' W H=Fz C W H:=by unfold Fz;rw[hO]
 intro c h;cases c with
 | lst aK=>obtain⟨xs,e1,r⟩:=h;exact⟨xs,e1,by rw[e];exact r.conv hK⟩
 | aI g n=>exact⟨by rw[hR];exact h.1,h.2⟩
 | part=>exact h
 | dk kvs=>obtain⟨ks,e1,k,r⟩:=h;exact⟨ks,e1,k,by rw[e];exact r.conv hK⟩
 | dt kvs=>obtain⟨ks,e1,k,r⟩:=h;exact⟨ks,e1,k,by rw[e];exact r.conv hK⟩
 | ob _ _ kvs=>obtain⟨ks,e1,k,r⟩:=h;exact⟨ks,e1,k,by rw[e];exact r.conv hK⟩
theorem DI{K:zn}{Rs:Hp->Addr->Addr->Nat->Prop}{S:sU}{E:XK}(hK:C.K=K)(hR:C.Rs=Rs){as:List DV}{xs:List V}(R:DR C σ H ρ W)(h:aM C (Fz C W H) as xs)(hd:dV S as W Qd)(k:KE C σ ρ W H Qd Q):iW K Rs S xs H Q E:=by
 subst hK hR;refine⟨C.O,as,W,Qd,R.ho,fun p c e=>?_,aM.conv (C:=C) (C':=xk C.K C.Rs H W C.O E) (F:=Fz C W H) rfl h,hd,fun v dv H' W' q f1 f2 f3 hv=>?_⟩
 ·obtain⟨_,g2,g3⟩:=R.ce p c e;exact⟨g2,R.there e,bS.JZ (C:=C) (C':=xk C.K C.Rs H W C.O E) rfl rfl rfl g3⟩
 ·obtain⟨R',s'⟩:=R.step (W':=W') (H':=H') (fun a z=>by
    cases q:W' a with
    | none=>rw[q]at z;cases z
    | some c=>exact(f3 a c q).1.symm) f1 f2 fun s p c e=>by
   obtain⟨e1,e2,e3⟩:=f3 p c e;refine⟨?_,e2,bS.JZ (C:=xk C.K C.Rs H W C.O E) (C':=C) rfl rfl rfl e3⟩;rcases e1 with e1 | e1
   ·exact .inl (R.Jv e1)
   ·cases q2:W p with
    | none=>rw[q2]at e1;cases e1
    | some c'=>exact(R.ce p c' q2).1
  exact k v dv H' _ R' s' (dH.conv (C:=xk C.K C.Rs H W C.O E) (C':=C) (F:=Fz C W' H') rfl hv) q
instance {K:zn}[hk:mD C K]{Rs:Hp->Addr->Addr->Nat->Prop}[hs:GY C Rs]{S:sU}{E:XK}:G7 C (iW K Rs S) E (dV S):=by
 obtain⟨hR⟩:=hs;exact⟨fun R h hd k=>DI hk.eq hR R h hd k⟩
end
theorem bK{S:sU}{as:List DV}{W:Wd}{Q:DK}(h:S as W Q):dV S as W Q:=h
end L2
namespace HT
open PySem PyProof.Rows
section
open PySem.SeqAt
open PySem.AutoSeq1 (wpAny_loadPart')
open PySem.MeetsSeq PySem.MeetsSeq2 PySem.MeetsSeq3
variable {prog:u8}{w:World}{A:tx}{E:xz}{s:Shared}
theorem jR{t sl:Addr}{items:Array Value}{vl vu:Value}{lo hi:v0}{Q:xz}(ht:IsTup s.heap t items)(hs:s.heap.IsSliceOf sl vl vu .none)(pl:IsPart vl lo)(pu:IsPart vu hi)(h1:de items.size 0 lo=0)(h2:de items.size items.size hi=items.size)(h:Q (.ref t) s):wpAny (model prog w) A (getItem (.ref t) (.ref sl)) Q E s:=by
 obtain⟨os,Lu,Sv,Pj⟩:=id hs;have TV:s.TypeIs (.ref sl) "slice":=⟨os,Lu,Sv⟩;unfold getItem
 try with_reducible refine abc ?_
 first | refine aaj (aam ?_) | skip
 refine aaj (wpAny_sequenceKey ht.typeIs (by decide) ?_);refine aaj (aa9 (name:=Str.ofString "__getitem__") ht.typeIs aa5
  (abe aa5 ht.typeIs entry_tuple_getitem ?_ (args_tuple_getitem _ _)))
 show wpAny _ _ (Builtin.Tuple.tupleItemsOf (.ref t) >>= _) _ _ s;refine aaj (tupleItemsOf_ ht ?_);refine aaj (acX TV ?_);rw[aaE (by decide)];refine aaj (iB hs pl pu ?_);have hy:((((de items.size 0 lo:Nat):Int) == 0&&(1:Int) == 1&&(de items.size items.size hi - de items.size 0 lo) == items.size)=true):=by
  rw[h1,h2];simp
 show wpAny _ _ (if(((de items.size 0 lo:Nat):Int) == 0&&(1:Int) == 1&&(de items.size items.size hi - de items.size 0 lo) == items.size)=true then _ else _) _ _ s;rw[aaE hy];refine aaj ?_;refine aaj (acX ht.typeIs (aam ?_));rw[aaE (by decide)]
 first | exact aam ⟨_,rfl,aam h⟩ | (refine aaj (acp ?_);exact aam ⟨_,rfl,aam h⟩)
end
end HT
namespace L2
open PySem PySem.Spec PyProof.Rows
def RC(K:zn):V->v0->v0->Hp->VK->Prop:=fun x lo hi H Q=>∃ a xs,x=.ref a/\fN K H a xs /\
 ((HT.de xs.length 0 lo=0/\HT.de xs.length xs.length hi=xs.length/\Q (.ref a) H)\/(¬ (HT.de xs.length 0 lo=0/\HT.de xs.length xs.length hi=xs.length)/\∀ p,H p=none->Q (.ref p) (upd H p (.tup (lx xs lo hi)))))
theorem g9{X:Cx}:Pk X (RC X.K):=by
 intro pins s σ H x v vl vu lo hi sl Q I rx hs pl pu h;obtain⟨a,xs,rfl,hx,h | h⟩:=h
 ·cases rx;obtain⟨aV,r,ht,hz⟩:=I.tuple hx;have hlen:aV.toArray.size=xs.length:=by rw[aay];exact r.length.symm
  exact⟨"tuple",_,aa5.lookup,ht.typeIs,HT.jR ht hs pl pu (by rw[hlen];exact h.1) (by rw[hlen];exact h.2.1) ⟨.ref a,H,I,rfl,h.2.2⟩⟩
 ·exact nR pins s σ H _ v vl vu lo hi sl Q I rx hs pl pu ⟨a,xs,rfl,hx,h.1,h.2⟩
section
variable {C:DC}
def Vt:DV->v0->v0->Wd->DK->Prop:=fun a lo hi W Q=>∃ ds,a=.im (.tuple ds)/\Q (.im (.tuple (cutD ds lo hi))) W
theorem xl{α:Type}{xs:List α}{lo hi:v0}(h1:HT.de xs.length 0 lo=0)(h2:HT.de xs.length xs.length hi=xs.length):cutD xs lo hi=xs:=by
 unfold cutD;rw[h1,h2];simp
instance {K:zn}[hk:mD C K]:SV C (RC K) Vt:=by
 obtain⟨rfl⟩:=hk;exact⟨fun{_ _ _ _ _ _ _ _ lo hi} D h ⟨ds,e,q⟩ k=>by
 subst e;obtain⟨p,xs,rfl,hq,r⟩:=h
 by_cases hn:HT.de ds.length 0 lo=0/\HT.de ds.length ds.length hi=ds.length
 ·refine⟨p,xs,rfl,fN.of (Fz.le hq),.inl ⟨by rw[<- r.length];exact hn.1,by rw[<- r.length];exact hn.2,?_⟩⟩;rw[xl hn.1 hn.2]at q;exact k.now (dv:=.im (.tuple ds)) D ⟨p,xs,rfl,hq,r⟩ q
 ·refine⟨p,xs,rfl,fN.of (Fz.le hq),.inr ⟨by rw[<- r.length];exact hn,fun l hl=>?_⟩⟩;obtain⟨D3,s3,e3⟩:=D.Bt hl (.tup (lx xs lo hi));exact k _ (.im (.tuple _)) _ _ D3 s3 ⟨l,_,rfl,e3,az.same s3 r.cut⟩ q⟩
end
theorem DJ{α:Type}{a:α}{l:List α}{k:Nat}:cutD (a::l) none (some ((k+1:Nat):Int))=a::l.take k:=by
 unfold cutD;rw[HT.jC,show HT.de (a::l).length 0 none=0 from rfl];simp
theorem uJ{α:Type}{a:α}{l:List α}{k:Nat}:cutD (a::l) (some ((k+1:Nat):Int)) none=l.drop k:=by
 unfold cutD;rw[HT.jC,show HT.de (a::l).length (a::l).length none=(a::l).length from rfl];simp;rw[abL (by rw[abE];omega)]
 by_cases h:k<=l.length
 ·rw[Nat.min_eq_left h]
 ·rw[Nat.min_eq_right (by omega),List.drop_eq_nil_of_le (aao _),List.drop_eq_nil_of_le (by omega)]
theorem Np{W:Wd}{L:Ws}{K:zn}{k p d:Addr}{fs:List (Str×DV)}{ns:wv}{f:Str}{v:DV}{B:Addr->Addr->DV->Prop}(h:At W L)(c:gk K k ns)(i:Nat)(e:L[i]?=some (p,.ob k d fs))(n:f∈ns)(l:fs.lookup f=some v)(hq:B p k v):∃ p' k d fs v,DV.pt p=.pt p'/\W p'=some (.ob k d fs)/\my K k/\cI K k f/\fs.lookup f=some v/\B p' k v:=⟨p,k,d,fs,v,rfl,h.get i e,c.c,c.n f n,l,hq⟩
def J0:V->List V->Hp->VK->Prop:=fun x vs H Q=>∃ l kvs k y,x=.ref l/\vs=[kV k,y]/\H l=some (.dK kvs)/\Q ((gP kvs k).getD y) H
theorem Hw{X:Cx}:Sw X "dict.get" J0:=by
 intro pins s σ H x vs v us Q I rx rv h;obtain⟨l,kvs,k,y,rfl,rfl,hH,q⟩:=h;cases rx;obtain⟨u,r,rfl,ru,rr⟩:=rv.two;obtain⟨z,hd,ws,rel,dd⟩:=tL I.cv hH;refine call_meetsIn PySem.F.slot_dict_get dd.typeIs PySem.F.entry_dict_get (PySem.F.args_dict_get_3 _ _ _) (meets_dict_get_default (bX X.prog X.w) l (pL ru) hd r) ⟨_,dd.mapOf,?_⟩;have J1:=rel.val k;cases h1:gP kvs k with
 | none =>
  rw[h1]at J1 q;cases h2:valueAt ws k with
  | none=>exact⟨y,H,I.tok _,rr,q⟩
  | some v'=>rw[h2]at J1;exact absurd J1 (by intro z;cases z)
 | some vv =>
  rw[h1]at J1 q;cases h2:valueAt ws k with
  | none=>rw[h2]at J1;exact absurd J1 (by intro z;cases z)
  | some v'=>rw[h2]at J1;exact⟨vv,H,I.tok _,J1,q⟩
def J2:V->List V->Hp->VK->Prop:=fun x vs H Q=>∃ l m kvs more,x=.ref l/\vs=[.ref m]/\l≠m/\H l=some (.dK kvs)/\H m=some (.dK more)/\kvs.length+more.length<=sizeLine/\Q .dj (upd H l (.dK (iM kvs more)))
theorem Hx{X:Cx}:Sw X "dict.update" J2:=by
 intro pins s σ H x vs v us Q I rx rv h;obtain⟨l,m,kvs,more,rfl,rfl,i4,hl,hm,hz,q⟩:=h;cases rx;obtain⟨u,rfl,ru⟩:=vals1 rv;cases ru;obtain⟨z,hd,ws,rel,dd⟩:=tL I.cv hl;obtain⟨z2,hd2,ws2,RD,OA⟩:=tL I.cv hm;have hlen:(iM kvs more).length<=sizeLine:=aaq (hV more kvs) hz;refine call_meetsIn ac5 dd.typeIs PySem.F.entry_dict_update (PySem.F.args_dict_update_2 _ _) (meets_dict_update (bX X.prog X.w) l m i4 hd2) ⟨ws,ws2,dd,OA,by rw[<- rel.length,<- RD.length];exact hz,fun h' FH _ hs=>?_⟩;have he:∃ q,h'.get? l=some q:=let ⟨q,_,_,hq,_⟩:=FH;⟨q,hq⟩;exact⟨.dj,_,mS (t':=s.toks) I (by rw[hl];exact True.intro) hs he (v8 hlen hd (KV.merge RD rel) FH),rfl,q⟩
section
variable {C:DC}{σ:St}{H H':Hp}{ρ:bR}{W W':Wd}{Qd:DK}{Q:VK}
def J3:DV->List DV->Wd->DK->Prop:=fun a as W Q=>∃ p kvs b k v,a=.pt p/\as=[b,v]/\W p=some (.dk kvs)/\ot b=some k/\Q ((ik kvs k).getD v) W
instance:OG C J0 J3:=⟨fun D h1 h2 zz k=>by
 obtain⟨p,kvs,b,k',v,e1,e2,e3,ek,q⟩:=zz
 subst e1 e2;cases h1;obtain⟨y1,y2,rfl,Vu,hy2⟩:=h2.nh;obtain⟨_,_,xs,hx,hk,MU⟩:=D.ce p _ e3;have ka:=gZ hk MU;refine⟨p,xs,k',y2,rfl,by rw[nk Vu ek],hx,?_⟩;rcases ka.get (k:=k') with⟨g,z⟩ | ⟨dv,v',g1,g2,g3⟩
 ·rw[z];rw[g]at q;exact k.now D hy2 q
 ·rw[g2];rw[g1]at q;exact k.now D g3 q⟩
def J4:DV->List DV->Wd->DK->Prop:=fun a as W Q=>∃ p m kvs more,a=.pt p/\as=[.pt m]/\p≠m/\W p=some (.dk kvs)/\W m=some (.dk more)/\kvs.length+more.length<=sizeLine/\Q (.im .none) (aH W p (.dk (gj kvs more)))
instance:OG C J2 J4:=⟨fun D h1 h2 zz k=>by
 obtain⟨p,m,kvs,more,e1,e2,i4,e3,e4,hz,q⟩:=zz
 subst e1 e2;cases h1;obtain⟨y1,rfl,Vu⟩:=h2.dX;cases Vu;obtain⟨_,_,xs,hx,hk,MU⟩:=D.ce p _ e3;have ka:=gZ hk MU;obtain⟨_,_,X6,Vj,Nh,Vv⟩:=D.ce m _ e4;have X7:=gZ Nh Vv;refine⟨p,m,xs,X6,rfl,rfl,i4,hx,Vj,by rw[<- ka.length,<- X7.length];exact hz,?_⟩;obtain⟨D2,s2⟩:=D.OF (o:=.dK (iM xs X6)) (c:=.dk (gj kvs more)) e3 rfl rfl fun s=>by
  obtain⟨g1,g2⟩:=jH (dG.merge (X7.mono s) (ka.mono s));exact⟨_,cn,g1,g2⟩
 exact k _ (.im .none) _ _ D2 s2 rfl q⟩
theorem Nq{p:Addr}{kvs:List (Key×DV)}{b v u:DV}{k:Key}(e:W p=some (.dk kvs))(ek:ot b=some k)(hv:(ik kvs k).getD v=u)(h:Qd u W):J3 (.pt p) [b,v] W Qd:=⟨p,kvs,b,k,v,rfl,rfl,e,ek,by rw[hv];exact h⟩
theorem Nr{p m:Addr}{kvs more kvs':List (Key×DV)}(i4:p≠m)(e:W p=some (.dk kvs))(e2:W m=some (.dk more))(hz:kvs.length+more.length<=sizeLine)(em:gj kvs more=kvs')(h:∀ W',W' p=some (.dk kvs')->Fr p W W'->Qd (.im .none) W'):J4 (.pt p) [.pt m] W Qd :=
 ⟨p,m,kvs,more,rfl,rfl,i4,e,e2,hz,by rw[em];exact h _ au fun a ha=>aE ha⟩
end
noncomputable def uK:List V->Option wv
 | []=>some []
 | .str x::r=>(uK r).map (x::·)
 | _=>none
noncomputable def zm:List V->Option wn
 | []=>some []
 | .int x::r=>(zm r).map (x::·)
 | _=>none
theorem oF:∀{ks:List V} {xs:wv},uK ks=some xs->ks.map FK=(xs.map PyData.str).map DV.im
 | [],_,e=>by cases e;rfl
 | .str x::r,_,e=>by
  obtain⟨ys,e1,rfl⟩:=aaw.mp (show(uK r).map (x::·)=_ from e);rw[aaz,oF e1];rfl
theorem uL:∀{ks:List V} {xs:wn},zm ks=some xs->ks.map FK=(xs.map PyData.int).map DV.im
 | [],_,e=>by cases e;rfl
 | .int x::r,_,e=>by
  obtain⟨ys,e1,rfl⟩:=aaw.mp (show(zm r).map (x::·)=_ from e);rw[aaz,uL e1];rfl
section
variable {W:Wd}{ks:List V}{B:Bool->Wd->Prop}
theorem xm{ds:wE}:gF W (.im (.tuple ds))=some ds:=jF (fun _=>by rfl) ds
theorem Nt{z:Str}{xs:wv}(e:uK ks=some xs)(hl:xs.length<=1000)(h:B (decide (z∈xs)) W):mm (ks.map FK) W fun u W2=>ug false (.im (.str z)) u W2 fun v W1=>∃ b,v=.im (.bool b)/\B b W1:=by
 rw[oF e];exact aA (by rw[aak];exact aaq hl (by decide)) (kQ xm ⟨_,rfl,h⟩)
theorem Nu{z:Str}{xs:wv}(e:uK ks=some xs)(hl:xs.length<=1000)(h:B (!decide (z∈xs)) W):mm (ks.map FK) W fun u W2=>ug true (.im (.str z)) u W2 fun v W1=>∃ b,v=.im (.bool b)/\B b W1:=by
 rw[oF e];exact aA (by rw[aak];exact aaq hl (by decide)) (kQ xm ⟨_,rfl,h⟩)
theorem Nv{z:Int}{xs:wn}(e:zm ks=some xs)(hl:xs.length<=1000)(h:B (decide (z∈xs)) W):mm (ks.map FK) W fun u W2=>ug false (.im (.int z)) u W2 fun v W1=>∃ b,v=.im (.bool b)/\B b W1:=by
 rw[uL e];exact aA (by rw[aak];exact aaq hl (by decide)) (jq xm ⟨_,rfl,h⟩)
end
end L2
set_option synthInstance.maxHeartbeats 0
set_option synthInstance.maxSize 100000
namespace T1
open PySem L2
variable {P:u8}{w:World}{mg:xL}{base:Heap}{f fD aR aS kH p f1 f2 f3 f4 f5 f6 C:Addr}{fd NB RG d1 d2 d3 d4 d5 d6:wT}{W W':Wd}{Q:DK}{α:Type}{xs sp ns:wn}{m x b:Int}{n:Nat}{ds:wE}{L:Ws}{Kc:Wd->Prop}
local macro_rules | `(tactic| array_mem_dec) => `(tactic| first
 | (with_reducible first|refine MB ?_|refine MC ?_|refine Rq ?_|refine Nf ?_|refine Ht ?_|refine Hu ?_|refine Dx ?_|refine Nb ?_|refine Nc ?_|refine MX ?_|refine MW ?_|refine MV ?_|refine Vc ?_|refine Vd ?_)
 | ((with_reducible apply Ve);(· exact rfl))
 | (with_reducible first|refine wY ?_|refine QI ?_|refine MA ?_|refine QJ ?_|refine QK ?_|refine UU ?_|refine UW ?_|refine Rh ?_|refine Ri ?_)
 | ((with_reducible apply Rg);(· exact rfl))
 | ((with_reducible apply QM);· exact rfl)
 | (with_reducible first|refine ZK ?_|refine Va ?_|refine Vg ?_|refine UX ?_|refine Q6 ?_|refine Q7 ?_|refine UY ?_|refine UZ ?_|refine U0 ?_|refine QN ?_|refine U1 ?_|refine QO ?_|refine MD ?_|refine QP ?_|refine ME ?_|refine U2 ?_|refine QQ ?_|refine MF ?_|refine Hf ?_|refine QR ?_|refine MG ?_)
 | ((with_reducible refine U3 ?_);refine⟨rfl,?_⟩)
 | (with_reducible first|refine QS ?_|refine QT ?_|refine U4 ?_|refine cG ?_|refine U5 ?_|refine U6 ?_|refine Dh ?_|refine MH ?_|refine U7 ?_|refine MI ?_|refine QU ?_|refine QL ?_|refine x_raise ?_|refine MM ?_)
 | ((with_reducible apply U9);(· omega);(· omega))
 | (with_reducible first|refine Hg ?_|refine Q1 ?_|refine Q2 ?_)
 | ((with_reducible apply um);(· assumption))
 | (with_reducible first|refine U8 ?_)
 | ((with_reducible apply XF);· first | (show(0:Int) < _;omega) | (show(0:Int) < _;decide) | exact⟨by omega,by omega⟩ | exact .inl ⟨by omega,by omega⟩ | exact .inr ⟨by omega,by omega⟩ | exact .inr ⟨by decide,by decide⟩ | exact⟨by decide,by decide,by decide⟩ | exact⟨by decide,by decide,by omega⟩)
 | (with_reducible first|refine ZL ?_|refine QV ?_|refine QW ?_|refine QX ?_|refine QY ?_|refine QZ ?_|refine MJ ?_|refine MK ?_|refine Q8 ?_|refine MO ?_|refine Q9 ?_|refine MN ?_)
 | ((with_reducible apply ML);(· assumption))
 | ((with_reducible apply Vb);(· assumption))
 | ((with_reducible apply JT);(· assumption))
 | (with_reducible first|refine CM ?_|refine wG ?_|refine Uy ?_|refine Uz ?_)
 | with_reducible refine aae ?_)
local macro_rules | `(tactic| array_get_dec) => `(tactic| repeat (first
 | array_mem_dec
 | ((with_reducible apply bC);(· exact rfl))
 | ((with_reducible apply ph);· decide)
 | ((with_reducible apply j5);· decide)
 | ((with_reducible apply wH);· decide)
 | ((with_reducible apply wI);· decide)
 | ((with_reducible apply ph);· omega)
 | ((with_reducible apply j5);· omega)
 | ((with_reducible apply wH);· omega)
 | ((with_reducible apply wI);· omega)))
local macro_rules | `(tactic| sizeOf_list_dec) => `(tactic| repeat (first
 | array_mem_dec
 | ((with_reducible apply bC);(· exact rfl))
 | ((with_reducible apply eF);(· assumption);(· exact rfl))
 | with_reducible refine Nd (by assumption) (by assumption) 0 (by with_unfolding_all rfl) (by decide +kernel) (by with_unfolding_all rfl) ?_
 | with_reducible refine Np (by assumption) (by assumption) 0 (by with_unfolding_all rfl) (by decide +kernel) (by with_unfolding_all rfl) ?_
 | with_reducible refine Hs (by assumption) 0 (by with_unfolding_all rfl) (by with_unfolding_all rfl) ?_
 | ((with_reducible apply ph);· decide)
 | ((with_reducible apply j5);· decide)
 | ((with_reducible apply wH);· decide)
 | ((with_reducible apply wI);· decide)
 | (apply bC;(· exact rfl))
 | refine CM ?_
 | refine wG ?_))
local macro_rules | `(tactic| rfl') => `(tactic| repeat array_mem_dec)
local macro_rules | `(tactic| symm) => `(tactic| (try dsimp only[gf,Cx.zQ,Cx.nE,iO,Cx.Qi,Cx.marked]))
local macro_rules | `(tactic| ac_rfl) => `(tactic| exact ⟨rfl,rfl,rfl,by decide +kernel,rfl,by decide +kernel,by decide +kernel⟩)
local macro_rules | `(tactic| nofun) => `(tactic| (intros; rename_i h; repeat (first | (obtain ⟨e, _⟩ := h; rw [e]; rfl) | obtain ⟨_, h⟩ := h)))
set_option hygiene false in
local macro_rules | `(tactic| exact_mod_cast $e) => `(tactic| (refine $e fun bz A outer s H E hr=>?_;have hu:=hr.units))
set_option hygiene false in
local macro_rules | `(tactic| norm_cast) => `(tactic| (clear hu;symm;refine fun O X W=>⟨_,inferInstance,?_⟩))
set_option hygiene false in
local macro_rules | `(tactic| push_cast) => `(tactic| (clear hu;symm;refine fun O X=>⟨_,inferInstance,?_⟩))
abbrev zo(K:zn):Sp:=C9 K
abbrev Nw:Stmt:=top 36
abbrev DL:Stmt:=top 37
theorem qh:aB ["script", "great", "fold", "cell"] ["script"] (defScope Nw):=by ac_rfl
theorem rP:aB ["bag", "many", "great", "one", "mixed"] ["bag", "many"] (defScope DL):=by ac_rfl
def Bg:Addr->Nat->Cell->wn->Prop:=fun g n c gs=>∃ f k:Int,c=.lst [.pt g,.im (.int f),.im (.int k)]/\0<=f/\f < 2147483629/\0<=k/\k<=n/\gs.length<=100
section
variable {K:zn}
theorem Ny(F:cM K "_law_bag" "_law_bag" Nw f fd):ba P w K mg base cU 1 f fd ["script"] (Hd K (bg Bg)):=by
 refine F.UT qh fun bz A outer s H E hr=>?_;refine⟨_,(af (aF 1 qh.nd (bo ag))
  (af (aF 2 qh.nd ae)
  (af (kD (eJ (ah 0)) (bf 3 qh.nd) (af (aO (ay gz (ah 3) ae) (ai (aF 3 qh.nd (aY gy ae (ah 3)))) av)
   (af (aF 2 qh.nd (aY gd (aY bb (aY bb (aY iK (ah 2) ae) (aY gd (ah 3) ae)) ae) ae))
   (ai (aO (ay i9 (ah 3) (aY lp ae ae)) (ai (dO (jN aaJ aaS aaT cY (ah 1) (aa (aY gy (ah 3) (aY lp ae ae)) ag)))) av)))))
  (ai (ax (bo (aa (ah 1) (aa (ah 2) (aa ae ag))))))))),?_⟩
 symm;refine⟨_,inferInstance,fun ns JK=>?_⟩;refine cj [_,none,none,none] rfl ?_
 rfl'
 refine⟨aaK _,.inl fun p hp=>?_⟩
 rfl'
 refine ar ?_
 rfl'
 refine Hj (fun i ρ W=>∃(fo:Int) (gs:wn) (u:Option DV),ρ=[some (.lE ns),some (.pt p),some (.im (.int fo)),u]/\W=aH W0 p (.lst (gr gs))/\gs.length<=i/\0<=fo/\fo < 2147483629) ⟨5,[],none,rfl,rfl,aao _,by decide,by decide⟩ ?_ ?_
 ·rintro i z ρ W hi ⟨fo,gs,u,rfl,rfl,hl,f0,f1⟩;have Ym:i < ns.length:=(aas.mp hi).1;have hw:aH W0 p (.lst (gr gs)) p=some (.lst (gr gs)):=au
  rfl'
  refine ar ?_
  rfl'
  refine dA (fun _=>?_) (fun _=>?_)
  all_goals
   rfl'
   refine dA (fun _=>?_) (fun _=>?_)
   ·rfl'
    refine uk hw (by rw[aak];exact dR (by omega)) ?_
    rfl'
    exact⟨_,gs++[_],_,rfl,by rw[lF,show ∀ z:Int,gr gs++[DV.im (.int z)]=gr (gs++[z]) from fun z=>by simp],by rw[aaQ];simp;omega,abJ _ (by decide),abt _ (by decide)⟩
   ·rfl'
    exact⟨_,gs,_,rfl,rfl,by omega,abJ _ (by decide),abt _ (by decide)⟩
 ·rintro ρ W ⟨fo,gs,u,rfl,rfl,hl,f0,f1⟩
  rfl'
  refine⟨(by show 3<=sizeLine;decide),.inl fun q hq=>?_⟩;have pq:p≠q:=fun z=>by rw[<- z,au]at hq;cases hq
  exact⟨q,p,_,gs,rfl,au,by rw[aE pq];exact au,pq,⟨fo,0,rfl,f0,f1,adv _,adv _,by omega⟩,rfl⟩
theorem Hy(F:cM K "_law_draw" "_law_draw" DL f fd):ba P w K mg base cU 1 f fd ["bag", "many"] (spT (bg Bg) gu):=by
 exact_mod_cast F.ZI rP rfl (by nofun);refine⟨_,(af (tX (aY bb (ao (ah 0) ae) ae) (yH (ah 0) ae set_list))
  (af (aF 2 rP.nd (ao (ah 0) ae))
  (af (GL (gN (w_and (ay (bD hu) (ah 2) (bo ag)) (bx (ay (aG hu) (ao (ah 2) ae) ae)))) (ai (dO (jN aaJ PySem.F.slot_list_pop PySem.F.type_list_pop Cr (ah 2) (aa ae ag)))))
  (af (aO (ay (bD hu) (ah 2) (bo ag)) (af (aF 3 rP.nd (aY gd (ao (ah 2) ae) (ah 1)))
   (af (tX (aY tP (ao (ah 2) ae) (ah 1)) (yH (ah 2) ae set_list))
   (ai (ax (ah 3))))) av)
  (af (aF 4 rP.nd (aY gd (aY bb (aY iK (aY bb (ao (ah 0) ae) ae) (aY lp (aY bb (ao (ah 0) ae) ae) ae)) (aY iK ae (ao (ah 0) ae))) ae))
  (ai (ax (aY gd (aY tP (aY gd (aY lp (ah 4) ae) ae) ae) (ah 1))))))))),?_⟩
 clear hu;symm;refine fun t g O=>⟨_,inferInstance,?_⟩;rintro n ds R c gs gt ⟨fo,kk,rfl,f0,f1,k0,k1,hl⟩ ⟨m,rfl,hn,m0,m1,q⟩;refine cj [_,_,none,none,none] rfl ?_;have keys:∀(gs:wn) (k:Int),WO t g (.lst [.pt g,.im (.int fo),.im (.int k)]) gs t=some (.lst [.pt g,.im (.int fo),.im (.int k)])/\WO t g (.lst [.pt g,.im (.int fo),.im (.int k)]) gs g=some (.lst (gr gs)):=fun gs k=>⟨au,by unfold WO;rw[aE gt];exact au⟩;obtain⟨wt,wg⟩:=keys gs kk
 rfl'
 refine eF wt rfl ?_
 rfl'
 refine⟨t,_,2,2,rfl,rfl,wt,rfl,?_⟩;rw[show aH (WO t g (.lst [.pt g,.im (.int fo),.im (.int kk)]) gs) t (.lst ([DV.pt g,.im (.int fo),.im (.int kk)].set 2 (.im (.int (kk+1)))))=WO t g (.lst [.pt g,.im (.int fo),.im (.int (kk+1))]) gs from lF];clear wt wg;have kt:=fun gs=>(keys gs (kk+1)).1;have kg:=fun gs=>(keys gs (kk+1)).2;have re:∀ x y,aH (WO t g (.lst [.pt g,.im (.int fo),.im (.int (kk+1))]) x) g (.lst (gr y))=WO t g (.lst [.pt g,.im (.int fo),.im (.int (kk+1))]) y:=fun x y=>by unfold WO;rw[AI (acf gt),lF]
 rfl'
 refine eF (kt gs) rfl ?_
 rfl'
 refine ar ?_;refine He (fun j ρ W=>∃ FN:List Int,j=FN.length/\FN.length<=100/\ρ=[some (.pt t),some (.im (.int m)),some (.pt g),none,none]/\W=WO t g (.lst [.pt g,.im (.int fo),.im (.int (kk+1))]) FN) gs.length ⟨gs,rfl,hl,rfl,rfl⟩ ?_;rintro j ρ W ⟨FN,rfl,Ta,rfl,rfl⟩;have cl:PyData.canLay0 (.list (FN.map .int))=true:=dN FN
 rfl'
 refine⟨_,om (kg FN),cl,?_⟩;cases FN with
 | nil =>
  rfl'
  refine wG ?_
  rfl'
  refine ar ?_
  rfl'
  refine⟨_,om (kg []),cl,?_⟩
  rfl'
  refine wG ?_
  rfl'
  refine eF (kt []) rfl ?_
  rfl'
  refine eF (kt []) rfl ?_
  rfl'
  refine eF (kt []) rfl ?_
  rfl'
  exact⟨n+1,_,[],_,rfl,kt _,kg _,⟨fo,kk+1,rfl,f0,f1,by omega,by omega,by simp⟩,rfl,q _ (abJ _ (by omega)) (abt _ m0)⟩
 | cons z L =>
  have kz:WO t g (.lst [.pt g,.im (.int fo),.im (.int (kk+1))]) (z::L) g=some (.lst (.im (.int z)::gr L)):=kg (z::L)
  rfl'
  refine CM ?_
  rfl'
  refine eF kz (bY (j:=0) rfl) ?_
  rfl'
  refine dA (fun h2=>?_) (fun h2=>?_)
  ·rfl'
   refine⟨g,_,0,0,_,rfl,rfl,kz,by decide,by decide,by unfold seqIndex?;simp,rfl,?_⟩;exact⟨L.length,by simp,L,rfl,by simp at Ta;omega,rfl,re _ _⟩
  ·refine ar ?_
   rfl'
   refine⟨_,om (kg _),cl,?_⟩
   rfl'
   refine CM ?_
   rfl'
   refine eF kz (bY (j:=0) rfl) ?_
   rfl'
   refine eF kz (bY (j:=0) rfl) ?_
   rfl'
   refine⟨g,_,0,0,rfl,rfl,kz,xa (adv _) (by simp only[aaR];omega),?_⟩;rw[show(DV.im (.int z)::gr L).set 0 (.im (.int (z / m)))=gr (z / m::L) from rfl,re]
   rfl'
   exact⟨n+1,_,_,_,rfl,kt _,kg _,⟨fo,kk+1,rfl,f0,f1,by omega,by omega,by simpa using Ta⟩,rfl,q _ (abJ _ (by omega)) (abt _ m0)⟩
end
inductive Rw where
 | put (d v:Int) | op (x:Str) (d a b:Int) | mv (x:Str) (d a n:Int) | go (a p:Int) | one (x:Str)
def c7:Rw->PyData
 | .put d v=>.tuple [.str "put",.int d,.int v]
 | .op x d a b=>.tuple [.str x,.int d,.int a,.int b]
 | .mv x d a n=>.tuple [.str x,.int d,.int a,.int n]
 | .go a p=>.tuple [.str "go",.int a,.int p]
 | .one x=>.tuple [.str x]
def FP(i:Int):Prop:=0<=i/\i < 8
def Wr(i:Int):Prop:=0<=i/\i < 4294967296
def iG(m:Int):Rw->Prop
 | .put d v=>FP d/\Wr v
 | .op x d a b=>(x = "sum"\/x = "mul"\/x = "less")/\FP d/\FP a/\FP b
 | .mv x d a n=>(x = "take"\/x = "lay")/\FP d/\FP a/\0<=n/\n < 16
 | .go a p=>FP a/\0<=p/\p<=m
 | .one x=>x = "shut"\/x = "open"\/x = "home"
def bO(rs:List Rw)(bs:wn):PyData:=.tuple [.tuple (rs.map c7),.tuple (bs.map .int)]
structure rQ(rs:List Rw)(bs:wn):Prop where
 r1:1<=rs.length
 r2:rs.length<=40
 rok:∀ r∈rs,iG rs.length r
 b1:bs.length<=4
 bok:∀ b∈bs,0<=b/\b<=rs.length
noncomputable def mE:v0->PyData
 | none=>.none
 | some k=>.int k
noncomputable def stD(pl:Int)(sp ce:wn)(sh:Bool)(kp:v0):PyData:=.tuple [.int pl,.tuple (sp.map .int),.tuple (ce.map .int),.bool sh,mE kp]
structure VH(m:Int)(pl:Int)(sp ce:wn)(kp:v0):Prop where
 p0:0<=pl
 p1:pl<=m
 s8:sp.length=8
 sw:∀ z∈sp,Wr z
 Hz:ce.length=16
 cw:∀ z∈ce,Wr z
 kb:∀ k,kp=some k->0<=k/\k<=m
def pairD(p:Int×Int):PyData:=.tuple [.int p.1,.int p.2]
abbrev Nz:Stmt:=top 38
abbrev xn:Stmt:=top 39
abbrev xo:Stmt:=top 59
theorem zp:aB ["bag", "far", "k"] ["bag"] (defScope Nz):=by ac_rfl
theorem zq:aB ["bag", "kind"] ["bag"] (defScope xn):=by ac_rfl
theorem HA:aB ["found", "due"] ["found", "due"] (defScope xo):=by ac_rfl
def xp:sT:=fun n ds R=>ds=[]/\n<=999000000/\∀(r:Int) (n':Nat),0<=r->n'<=n+7->R (.im (.int r)) n'
def oG:sT:=fun n ds R=>ds=[]/\n<=999000000/\∀(r:Int) (n':Nat),Wr r->n'<=n+3->R (.im (.int r)) n'
noncomputable def uM:Option (Int×Str)->PyData
 | none=>.none
 | some (i,x)=>.tuple [.int i,.str x]
noncomputable def DM:ll:=fun ds R _=>∃ a b:Option (Int×Str),ds=[uM a,uM b]/\R (.im (.bool (decide (a=b))))
theorem HB{l:wn}{k:Int}(h0:0<=k)(h1:k < l.length):∃ v∈l,iy (l.map PyData.int) k=some (.int v):=by
 obtain⟨j,rfl⟩:=Int.eq_ofNat_of_zero_le h0;have hj:j < l.length:=by omega
 exact⟨l[j],abF hj,bY (by rw[aap,aaG hj];rfl)⟩
theorem dn{l:wn}{k:Int}(h0:0<=k)(h1:k < l.length)(h:∀ v∈l,Q (.im (.int v)) W):Mj (.im (.list (l.map .int))) (.im (.int k)) W Q:=by
 obtain⟨v,hv,e⟩:=HB h0 h1;exact eW e (h v hv)
section
variable {K:zn}
theorem NA(F:cM K "_law_far" "_law_far" Nz f fd)(ak:Dn P w K mg base 1 "_law_draw" fD NB ["bag", "many"] (spT (bg Bg) gu))(bP:mg "range"=none):ba P w K mg base cU 2 f fd ["bag"] (spT (bg Bg) xp):=by
 exact_mod_cast F.Ha zp bN rfl (by nofun);refine⟨_,(af (aF 1 zp.nd ae)
  (af (kD (fb bP (aa ae ag)) (bf 2 zp.nd) (ai (aF 1 zp.nd (aY bb (aY iK (ah 1) (aY lp ae ae)) (aq ak hr (aa (ah 0) (aa (aY lp ae ae) ag)))))))
  (ai (ax (ah 1))))),?_⟩
 clear hu;symm;refine fun t g O=>⟨_,inferInstance,?_⟩;rintro n ds R ⟨rfl,hn,q⟩;refine cj [_,none,none] rfl ?_;have wt:WT t g n t=some (.aI g n):=au;generalize WT t g n=W at wt;have e8:(10:Int) ^ Int.toNat 8=100000000:=by decide
 rfl'
 refine ar ?_
 rfl'
 refine kL (fun i ρ W=>∃(r:Int) (u:Option DV) (k:Nat),ρ=[some (.pt t),some (.im (.int r)),u]/\0<=r/\W t=some (.aI g k)/\k<=n+i) ⟨0,_,_,rfl,adv _,wt,by omega⟩ ?_ ?_
 ·rintro i ρ W hi ⟨r,u,k,rfl,r0,wt,hk⟩;have hi7:i < 7:=by omega
  rfl'
  rw[e8];refine aL wt (by omega) (by omega) (by omega) fun z W1 z0 z1 wt f1=>?_
  rfl'
  exact⟨_,_,_,rfl,by omega,wt,by omega⟩
 ·rintro ρ W ⟨r,u,k,rfl,r0,wt,hk⟩
  rfl'
  exact⟨_,wt,q r _ r0 (by have:(7:Int).toNat=7:=rfl;omega)⟩
theorem DN(F:cM K "_law_worth" "_law_worth" xn f fd)(ak:Dn P w K mg base 1 "_law_draw" fD NB ["bag", "many"] (spT (bg Bg) gu)):ba P w K mg base cU 2 f fd ["bag"] (spT (bg Bg) oG):=by
 exact_mod_cast F.Ha zq bN rfl (by nofun);refine⟨_,(af (aF 1 zq.nd (aq ak hr (aa (ah 0) (aa ae ag))))
  (af (aO (ay gz (ah 1) ae) (ai (ax (ao (bo (bV rfl)) (ah 1)))) av)
  (af (aO (ay (aG hu) (ah 1) ae) (ai (ax (aq ak hr (aa (ah 0) (aa ae ag))))) av)
  (ai (ax (aY bb (aY iK (aq ak hr (aa (ah 0) (aa ae ag))) ae) (aq ak hr (aa (ah 0) (aa ae ag))))))))),?_⟩
 clear hu;symm;refine fun t g O=>⟨_,inferInstance,?_⟩;rintro n ds R ⟨rfl,hn,q⟩;refine cj [_,none] rfl ?_;have wt:WT t g n t=some (.aI g n):=au;generalize WT t g n=W at wt
 rfl'
 refine aL wt (by omega) (by omega) (by omega) fun k W1 k0 k1 wt f1=>?_
 rfl'
 refine ar ?_
 rfl'
 refine dA (fun h=>?_) (fun h=>?_)
 ·rfl'
  refine bT (ds:=[0,1,4294967295].map PyData.int) (by show 3<=sizeLine;decide) ?_
  rfl'
  refine dn k0 h fun v hv=>?_;have:v=0\/v=1\/v=4294967295:=by simpa using hv
  exact⟨_,wt,q v _ ⟨by omega,by omega⟩ (by omega)⟩
 rfl'
 refine ar ?_
 rfl'
 refine dA (fun h=>?_) (fun h=>?_)
 ·rfl'
  refine aL wt (by omega) (by omega) (by omega) fun r W2 r0 r1 wt f2=>?_;exact⟨_,wt,q r _ ⟨by omega,by omega⟩ (by omega)⟩
 rfl'
 refine aL wt (by omega) (by omega) (by omega) fun r W2 r0 r1 wt f2=>?_
 rfl'
 refine aL wt (by omega) (by omega) (by omega) fun r' W3 r0' r1' wt f3=>?_
 rfl'
 exact⟨_,wt,q _ _ ⟨by omega,by omega⟩ (by omega)⟩
theorem DO(F:cM K "_law_right" "_law_right" xo f fd)(dY:mg "isinstance"=none)(dF:mg "tuple"=none)(bj:mg "len"=none)(DP:mg "str"=none)(xq:mg "bool"=none)(gK:mg "int"=none):ba P w K mg base cU 1 f fd ["found", "due"] (eZ DM):=by
 exact_mod_cast F.sS HA (by nofun);refine⟨_,(af (aO (fV (ah 1)) (ai (ax (yI (ah 0)))) av)
  (af (aO (gN (w_or (jX (nW (yJ dY dF abu (ah 0)))) (w_or (ay (bD hu) (bJ bq bj aaU (aa (ah 0) ag)) ae) (jW (jX (nW (yJ dY DP PyProof.Rows.boot_str (ao (ah 0) ae)))))))) (ai (ax Aw)) av)
  (af (aO (gN (w_or (nW (yJ dY xq PyProof.Rows.boot_bool (ao (ah 0) ae))) (jW (jX (nW (yJ dY gK abT (ao (ah 0) ae))))))) (ai (ax Aw)) av)
  (ai (ax (tZ (gA (aG hu) (ao (ah 0) ae) (ao (ah 1) ae)) (tY (gA (aG hu) (ao (ah 0) ae) (ao (ah 1) ae))))))))),?_⟩
 push_cast;rintro ds R ⟨a,b,rfl,q⟩;refine ar ?_;rcases a with _ | ⟨i,x⟩<;>rcases b with _ | ⟨j,y⟩<;>dsimp only[uM]
 ·sizeOf_list_dec
  exact q
 ·sizeOf_list_dec
  refine ar ?_
  sizeOf_list_dec
  exact q
 ·sizeOf_list_dec
  exact q
 ·sizeOf_list_dec
  refine ar ?_
  sizeOf_list_dec
  refine ar ?_
  sizeOf_list_dec
  refine dA (fun h=>?_) (fun h=>?_)
  ·sizeOf_list_dec
   rw[show decide (x=y)=decide (some (i,x)=some (j,y)) by rw[h];simp];exact q
  ·rw[aat (by simp[h])]at q;exact q
end
abbrev oH:Stmt:=top 11
abbrev rR:Stmt:=top 12
abbrev DQ:Stmt:=top 14
abbrev NC:Stmt:=top 17
abbrev DS:Stmt:=top 18
abbrev rS:Stmt:=top 19
abbrev xr:Stmt:=top 20
abbrev xt:Stmt:=top 21
abbrev rT:Stmt:=top 22
abbrev xu:Stmt:=top 26
abbrev DT:Stmt:=top 27
abbrev DU:Stmt:=top 28
abbrev DW:Stmt:=top 29
theorem AZ:aB ["number"] ["number"] (defScope oH):=by ac_rfl
theorem DX:aB ["worth", "n"] ["worth", "n"] (defScope rR):=by ac_rfl
theorem xw:aB ["row", "part", "number"] ["row"] (defScope DQ):=by ac_rfl
theorem zr:aB ["row", "spots", "cells", "word", "one", "other"] ["row", "spots", "cells"] (defScope NC):=by ac_rfl
theorem DY:aB ["row", "spots", "cells", "spot"] ["row", "spots", "cells"] (defScope DS):=by ac_rfl
theorem DZ:aB ["row", "place", "spots", "kept"] ["row", "place", "spots", "kept"] (defScope rS):=by ac_rfl
theorem HC:aB ["row", "shut"] ["row", "shut"] (defScope xr):=by ac_rfl
theorem HE:aB ["row", "kept"] ["row", "kept"] (defScope xt):=by ac_rfl
theorem D0:aB ["mill", "k"] ["mill", "k"] (defScope rT):=by ac_rfl
theorem HF:aB ["mill", "state"] ["mill", "state"] (defScope xu):=by ac_rfl
theorem Ea:aB ["worths", "kind", "wrote", "at"] ["worths", "kind", "wrote"] (defScope DT):=by ac_rfl
theorem jr:aB ["mill", "state", "place", "spots", "cells", "kept", "row", "wrote", "behind"] ["mill", "state"] (defScope DU):=by ac_rfl
theorem ND:aB ["mill", "state", "k"] ["mill", "state", "k"] (defScope DW):=by ac_rfl
noncomputable def cf:List (Str×wv):=[("put",["d", "worth"]),("sum",["d", "a", "b"]),("mul",["d", "a", "b"]),("less",["d", "a", "b"]),("take",["d", "a", "n"]),("lay",["b", "a", "n"]),("go",["a", "p"]),("shut",[]),("open",[]),("home",[])]
noncomputable def lM(x:Str):Option (List V):=(cf.lookup x).map fun ps=>ps.map V.str
theorem lookup_mem{α β:Type}[BEq α][LawfulBEq α]{a:α}{b:β}:∀{l:List (α×β)},l.lookup a=some b->(a,b)∈l
 | [],h=>by cases h
 | (x,y)::r,h=>by
  rw[aaZ]at h
  by_cases e:a == x
  ·rw[e]at h;cases h;rw[ab6.mp e];exact aaF ..
  ·rw[Bool.not_eq_true _ |>.mp e]at h;exact aax _ (lookup_mem h)
structure Parts(K:zn)(w:World)(a:Addr):Prop where
 ex:∃ kvs:List (Key×V),Ar K w a kvs/\(∀ x ps,cf.lookup x=some ps->∃ b,gP kvs (Sum.inr x)=some (.ref b)/\∀ H,fN K H b (ps.map V.str))/\∀ x,cf.lookup x=none->gP kvs (Sum.inr x)=none
theorem Parts.mt{K:zn}{a:Addr}(h:Parts K w a):ModT K w a lM:=by
 obtain⟨kvs,h1,h2,_⟩:=h.ex;refine⟨kvs,h1,fun x xs e=>?_⟩;unfold lM at e;cases q:cf.lookup x with
 | none=>rw[q]at e;cases e
 | some ps=>rw[q]at e;cases e;exact h2 x ps q
noncomputable def c8(ps:wv)(ns:wn):Option Int:=((ps.zip ns).find? fun p=>decide (p.1=("d":Str))).map (·.2)
def gI(xs:wn)(i:Int):Int:=xs.getD i.toNat 0
theorem Eb{i:Int}(h0:0<=i)(h1:i < xs.length):iy (xs.map PyData.int) i=some (.int (gI xs i)):=by
 obtain⟨n,rfl⟩:∃ n:Nat,i=(n:Int):=⟨i.toNat,by omega⟩;refine bY ?_;have hn:n < xs.length:=by omega
 rw[aap,aaG hn];unfold gI;simp[abx,hn]
theorem Ec{i:Int}(h0:0<=i)(h1:i < xs.length):gI xs i∈xs:=by
 unfold gI;have hn:i.toNat < xs.length:=by omega
 rw[abx,aaG hn];exact abF hn
abbrev vH:=Option (Str×Int×Int)
noncomputable def fk:vH->PyData
 | none=>.none
 | some (k,a,w)=>.tuple [.str k,.int a,.int w]
structure A0 where
 place:Int
 aQ:List Int
 cells:List Int
 cK:Bool
 kept:Option Int
noncomputable abbrev i6(s:A0):PyData:=stD s.place s.aQ s.cells s.cK s.kept
abbrev jY(n:Nat)(s:A0):Prop:=VH n s.place s.aQ s.cells s.kept
noncomputable def NF(e:Int×vH):PyData:=.tuple [.int e.1,fk e.2]
def Rw.d?:Rw->Option Int
 | .put d _=>some d
 | .op _ d _ _=>some d
 | .mv x d _ _=>if x = "lay" then none else some d
 | _=>none
noncomputable def Rw.gives(sp ce:wn):Rw->Int
 | .put _ v=>v
 | .op x _ a b=>if x = "sum" then(gI sp a+gI sp b) % 4294967296 else if x = "mul" then gI sp a * gI sp b % 4294967296 else if gI sp a < gI sp b then 1 else 0
 | .mv _ _ a n=>gI ce ((gI sp a+n) % 16)
 | _=>0
noncomputable def Rw.wrote(sp ce:wn):Rw->vH
 | .mv x d a n=>if x = "lay" then some ("cell",(gI sp a+n) % 16,gI sp d)else some ("spot",d,Rw.gives sp ce (.mv x d a n))
 | .put d v=>some ("spot",d,v)
 | .op x d a b=>some ("spot",d,Rw.gives sp ce (.op x d a b))
 | _=>none
noncomputable def dq(sp:wn)(place:Int)(kept:v0):Rw->Int
 | .go a p=>if gI sp a=0 then place+1 else p
 | .one x=>if x = "home" then kept.getD (place+1)else place+1
 | _=>place+1
noncomputable def kR(cK:Bool):Rw->Bool
 | .one x=>decide (x = "shut")
 | _=>cK
def js(kept:v0):Rw->Option Int
 | .one x=>if x = "home" then none else kept
 | _=>kept
noncomputable def jt(kind:Str)(ws:wn):vH->List Int
 | none=>ws
 | some (k,a,w)=>if k=kind then ws.set a.toNat w else ws
def rowOf(rows:List Rw)(place:Int):Rw:=rows.getD place.toNat (.one "home")
noncomputable def eG(r:Rw)(s:A0):A0:=⟨dq s.aQ s.place s.kept r,jt "spot" s.aQ (r.wrote s.aQ s.cells),jt "cell" s.cells (r.wrote s.aQ s.cells),kR s.cK r,js s.kept r⟩
noncomputable def zt(uN:wn)(k:Int)(s:A0):A0:=⟨gI uN k,s.aQ,s.cells,true,some s.place⟩
theorem Ed(n:Int):Wr (n % 4294967296):=⟨abJ _ (by decide),abt _ (by decide)⟩
def zu:vH->Prop
 | none=>True
 | some (k,a,w)=>((k = "spot"/\0<=a/\a < 8)\/(k = "cell"/\0<=a/\a < 16))/\Wr w
theorem zv(h:∀ z∈xs,Wr z)(i:Int):Wr (gI xs i):=by
 unfold gI;rw[abx];cases e:xs[i.toNat]? with
 | none=>exact⟨by decide,by decide⟩
 | some z=>exact h z (abw e)
theorem fZ{r:Rw}{ce:wn}(ok:iG m r)(ws:∀ z∈sp,Wr z)(wc:∀ z∈ce,Wr z):zu (r.wrote sp ce):=by
 cases r with
 | put d n=>exact⟨.inl ⟨rfl,ok.1⟩,ok.2⟩
 | op x d a b =>
  refine⟨.inl ⟨rfl,ok.2.1⟩,?_⟩;show Wr (if x = "sum" then(gI sp a+gI sp b) % 4294967296 else if x = "mul" then gI sp a * gI sp b % 4294967296 else if gI sp a < gI sp b then 1 else 0);split
  ·exact Ed _
  split
  ·exact Ed _
  split
  ·exact⟨by decide,by decide⟩
  ·exact⟨by decide,by decide⟩
 | mv x d a n =>
  show zu (if x = "lay" then some ("cell",(gI sp a+n) % 16,gI sp d)else some ("spot",d,gI ce ((gI sp a+n) % 16)));split
  ·exact⟨.inr ⟨rfl,abJ _ (by decide),abt _ (by decide)⟩,zv ws _⟩
  ·exact⟨.inl ⟨rfl,ok.2.1⟩,zv wc _⟩
 | go a p=>trivial
 | one x=>trivial
theorem qi(k:Str)(ws:wn)(w:vH):(jt k ws w).length=ws.length:=by
 unfold jt;split
 ·rfl
 ·split
  ·rw[adk]
  ·rfl
theorem uO{k:Str}{ws:wn}{w:vH}(h:∀ z∈ws,Wr z)(ok:zu w):∀ z∈jt k ws w,Wr z:=by
 unfold jt;split
 ·exact h
 ·split
  ·intro z hz;rcases ac0 hz with hz | hz
   ·exact h z hz
   ·rw[hz];exact ok.2
  ·exact h
theorem dQ{rs:List Rw}{bs:wn}(h:rQ rs bs){place:Int}(h0:0<=place)(h1:place < rs.length):iy (rs.map c7) place=some (c7 (rowOf rs place))/\iG rs.length (rowOf rs place):=by
 have iz:place.toNat < rs.length:=by omega
 have e:rs[place.toNat]?=some rs[place.toNat]:=aaG iz;have e2:rowOf rs place=rs[place.toNat]:=by unfold rowOf;rw[abx,e];rfl
 rw[e2];refine⟨?_,h.rok _ (abF iz)⟩;have ha:iy (rs.map c7) ((place.toNat:Nat):Int)=some (c7 rs[place.toNat]):=bY (by rw[aap,e];rfl);rw[show((place.toNat:Nat):Int)=place by omega]at ha;exact ha
theorem HG{s:A0}{r:Rw}(h:jY n s)(hp:s.place < n)(ok:iG n r):jY n (eG r s):=by
 have NG:=fZ ok h.sw h.cw;refine⟨?_,?_,by show(jt _ _ _).length=8;rw[qi];exact h.s8,uO h.sw NG,by show(jt _ _ _).length=16;rw[qi];exact h.Hz,uO h.cw NG,?_⟩
 ·show 0<=dq s.aQ s.place s.kept r;have:=h.p0;unfold dq;split
  ·split
   ·omega
   ·exact ok.2.1
  ·split
   ·cases e:s.kept with
    | none=>show 0<=s.place+1;omega
    | some k=>exact(h.kb k e).1
   ·omega
  ·omega
 ·show dq s.aQ s.place s.kept r<=n;unfold dq;split
  ·split
   ·omega
   ·exact ok.2.2
  ·split
   ·cases e:s.kept with
    | none=>show s.place+1<=n;omega
    | some k=>exact(h.kb k e).2
   ·omega
  ·omega
 ·intro k e;have e:js s.kept r=some k:=e;unfold js at e;split at e
  ·split at e
   ·cases e
   ·exact h.kb k e
  ·exact h.kb k e
theorem HH{s:A0}{uN:wn}{k:Int}(h:jY n s)(hb:∀ b∈uN,0<=b/\b<=(n:Int))(k0:0<=k)(k1:k < uN.length):jY n (zt uN k s) :=
 ⟨(hb _ (Ec k0 k1)).1,(hb _ (Ec k0 k1)).2,h.s8,h.sw,h.Hz,h.cw,fun j e=>by cases e;exact⟨h.p0,h.p1⟩⟩
def J5:ll:=fun ds R _=>∃ i:Int,ds=[.int i]/\R (.im (.int (i % 4294967296)))
def rV:ll:=fun ds R _=>∃ a n:Int,ds=[.int a,.int n]/\R (.im (.int ((a+n) % 16)))
noncomputable def zw:ll:=fun ds R _=>∃(x:Str) (ps:wv) (ns:wn),ds=[.tuple (.str x::ns.map .int)]/\cf.lookup x=some ps/\R (.im (mE (c8 ps ns)))
def cu(xs:wn):PyData:=.tuple (xs.map .int)
noncomputable def RE:ll:=fun ds R _=>∃(r:Rw) (m:Int) (sp ce:wn),ds=[c7 r,cu sp,cu ce]/\iG m r/\sp.length=8/\ce.length=16/\(∀ z∈sp,Wr z)/\r.d?.isSome=true/\R (.im (.int (r.gives sp ce)))
noncomputable def J6:ll:=fun ds R _=>∃(r:Rw) (m:Int) (sp ce:wn),ds=[c7 r,cu sp,cu ce]/\iG m r/\sp.length=8/\ce.length=16/\(∀ z∈sp,Wr z)/\R (.im (fk (r.wrote sp ce)))
noncomputable def zx:ll:=fun ds R _=>∃(r:Rw) (m place:Int) (sp:wn) (kept:v0),ds=[c7 r,.int place,cu sp,mE kept]/\iG m r/\sp.length=8/\R (.im (.int (dq sp place kept r)))
noncomputable def Ee:ll:=fun ds R _=>∃(r:Rw) (m:Int) (cK:Bool),ds=[c7 r,.bool cK]/\iG m r/\R (.im (.bool (kR cK r)))
noncomputable def Ef:ll:=fun ds R _=>∃(r:Rw) (m:Int) (kept:v0),ds=[c7 r,mE kept]/\iG m r/\R (.im (mE (js kept r)))
def zz:ll:=fun ds R _=>∃(rs:List Rw) (bs:wn) (k:Int),ds=[bO rs bs,.int k]/\R (.im (.bool (decide (0<=k)&&decide (k < bs.length))))
def rW:ll:=fun ds R _=>∃(rs:List Rw) (bs:wn) (pl:Int) (r:wE),ds=[bO rs bs,.tuple (.int pl::r)]/\R (.im (.bool (decide (pl=rs.length))))
noncomputable def J7:ll:=fun ds R _=>∃(ws:wn) (kind:Str) (wr:vH),ds=[cu ws,.str kind,fk wr]/\2<=ws.length/\ws.length<=16/\(∀ a w,wr=some (kind,a,w)->0<=a/\a < ws.length)/\R (.im (cu (jt kind ws wr)))
noncomputable def SStep(aR:Addr):ll:=fun ds R X=>∃(rs:List Rw) (bs:wn) (s:A0),ds=[bO rs bs,i6 s]/\rQ rs bs/\jY rs.length s /\
 (s.place < rs.length->R (.im (.tuple [i6 (eG (rowOf rs s.place) s),NF (s.place,(rowOf rs s.place).wrote s.aQ s.cells)])))/\(s.place=rs.length->X aR)
noncomputable def Eg(aN aS:Addr):ll:=fun ds R X=>∃(rs:List Rw) (bs:wn) (s:A0) (k:Int),ds=[bO rs bs,i6 s,.int k] /\
 (0<=k/\k < bs.length->s.cK=false->R (.im (i6 (zt bs k s))))/\(¬ (0<=k/\k < bs.length)->X aN)/\(0<=k/\k < bs.length->s.cK=true->X aS)
theorem Eh{x:PyData}{xs:wE}(h:Q (.im (.tuple xs)) W):G4 (.im (.tuple (x::xs))) (some 1) none W Q:=by
 have e:HT.de (x::xs).length 0 (some 1)=1:=by
  rw[show(some 1:v0)=some ((1:Nat):Int) from rfl,HT.jC];show min 1 (xs.length+1)=1;omega
 refine⟨_,rfl,fun h=>by rw[e]at h;exact absurd h.1 (by decide),?_⟩;have e2:cutD (x::xs) (some 1) none=xs:=by
  unfold cutD;rw[e];show((x::xs).drop 1).take ((x::xs).length - 1)=_;rw[List.drop_one,List.tail_cons,aaR,Nat.add_sub_cancel,aa2]
 rw[e2];exact h
theorem NH{ws:wn}{k:Int}(h0:0<=k)(h1:k < ws.length)(h:Q (.im (cu (ws.take k.toNat))) W):G4 (.im (cu ws)) none (some k) W Q:=by
 have e:HT.de (ws.map PyData.int).length (ws.map PyData.int).length (some k)=k.toNat:=by
  have ek:k=((k.toNat:Nat):Int):=by omega
  rw[ek,HT.jC,aak];simp only[aaY];omega
 refine⟨_,rfl,fun h=>by rw[e,aak]at h;omega,?_⟩;have e2:cutD (ws.map PyData.int) none (some k)=(ws.take k.toNat).map .int:=by
  unfold cutD;rw[e,HT.nP,List.drop_zero,Nat.sub_zero,List.map_take]
 rw[e2];exact h
theorem Ei{ws:wn}{k:Int}(h0:0 < k)(h1:k<=ws.length)(h:Q (.im (cu (ws.drop k.toNat))) W):G4 (.im (cu ws)) (some k) none W Q:=by
 have e:HT.de (ws.map PyData.int).length 0 (some k)=k.toNat:=by
  have ek:k=((k.toNat:Nat):Int):=by omega
  rw[ek,HT.jC,aak];simp only[aaY];omega
 refine⟨_,rfl,fun h=>by rw[e]at h;omega,?_⟩;have e2:cutD (ws.map PyData.int) (some k) none=(ws.drop k.toNat).map .int:=by
  unfold cutD;rw[e,HT.nP,List.map_drop];exact abL (by rw[abE];exact aao _)
 rw[e2];exact h
theorem HI{ws:wn}{k:Nat}(h:k < ws.length):ws.take k++[x]++ws.drop (k+1)=ws.set k x:=by
 rw[List.set_eq_take_append_cons_drop,aaE h,ac3];rfl
theorem uP{a b:Str}:decide (a=b)=decide (b=a):=decide_eq_decide.mpr eq_comm
theorem iX{ws:wn}{k:Int}(h0:0<=k)(h1:k < ws.length)(h:Q (.im (.int (gI ws k))) W):Mj (.im (cu ws)) (.im (.int k)) W Q:=bC (Eb h0 h1) h
section
variable {K:zn}
theorem xx{tk:Tok}(F:cM K "wrapped" "wrapped" oH f fd)(oI:mg "WORTHS"=some (.int 4294967296 tk)):ba P w K mg base cU 1 f fd ["number"] (eZ J5):=by
 refine F.sS AZ (by nofun) fun bz A outer s H E hr=>?_;refine⟨_,(ai (ax (aY gd (ah 0) (Jg oI)))),?_⟩;symm;refine fun O X=>⟨_,inferInstance,?_⟩;rintro ds R ⟨i,rfl,q⟩
 rfl'
 exact q
theorem A1{tk:Tok}(F:cM K "cell_at" "cell_at" rR f fd)(rX:mg "CELLS"=some (.int 16 tk)):ba P w K mg base cU 1 f fd ["worth", "n"] (eZ rV):=by
 refine F.sS DX (by nofun) fun bz A outer s H E hr=>?_;refine⟨_,(ai (ax (aY gd (aY bb (ah 0) (ah 1)) (Jg rX)))),?_⟩;symm;refine fun O X=>⟨_,inferInstance,?_⟩;rintro ds R ⟨a,n,rfl,q⟩
 rfl'
 exact q
theorem HJ{aP:Addr}(F:cM K "spot_written" "spot_written" DQ f fd)(jK:mg "PARTS"=some (.ref aP))(hP:ModT K w aP lM)(qj:mg "zip"=none):ba P w K mg base cU 1 f fd ["row"] (eZ zw):=by
 exact_mod_cast F.sS xw (by nofun);refine⟨_,(af (kD (Jf .T .T qj (aa (Rm jK hP (ao (ah 0) ae)) (aa (j3 nR (ah 0) (eM ae) fe) ag))) (jl (n:=2) (bU (bf 1 xw.nd) (bU (bf 2 xw.nd) jd))) (ai (aO (ay (aG hu) (ah 1) aj) (ai (ax (ah 2))) av)))
  (ai (ax cS))),?_⟩
 push_cast;rintro ds R ⟨x,ps,ns,rfl,hx,q⟩;refine cj [_,none,none] rfl ?_;refine ar ?_
 rfl'
 refine bC (D:=.str x) (bY (j:=0) rfl) ?_;refine⟨x,_,rfl,by unfold lM;rw[hx];rfl,?_⟩
 rfl'
 refine Eh ?_
 rfl'
 have fl:(ps.map V.str).all eE=true:=by rw[List.all_map];exact abm.mpr fun _ _=>rfl
 refine JN (ds:=ps.map .str) (es:=ns.map .int) (by show kG (.cst _)=_;simp only[kG,fl,acu,acG];rfl) rfl ?_;refine y9 (fun i ρ W=>∃ u v,ρ=[some (.im (.tuple (.str x::ns.map .int))),u,v]/\((ps.zip ns).take i).find? (fun p=>decide (p.1=("d":Str)))=none) ⟨_,_,rfl,rfl⟩ (fun _ _ _ _=>⟨trivial,trivial⟩) ?_ ?_
 ·rintro i a d ρ W ha hd ⟨u,v,rfl,h4⟩;rw[aap]at ha hd;obtain⟨pz,RF,rfl⟩:=aaw.mp ha;obtain⟨nz,Tb,rfl⟩:=aaw.mp hd;have hz:(ps.zip ns)[i]?=some (pz,nz):=abi.mpr ⟨RF,Tb⟩
  rfl'
  refine dA (fun c1=>?_) (fun c1=>?_)
  ·rfl'
   have e:c8 ps ns=some nz:=by
    unfold c8;have h5:((ps.zip ns).take (i+1)).find? (fun p=>decide (p.1=("d":Str)))=some (pz,nz):=by
     rw[aaM,hz,ac6,h4,Option.none_or];show(List.find? _ [(pz,nz)])=_;rw[abp,show decide (((pz,nz):Str×Int).1=("d":Str))=true from aa6 c1]
    rw[<- List.take_append_drop (i+1) (ps.zip ns),ac6,h5]
    rfl
   rw[e]at q;exact q
  ·rfl'
   refine⟨_,_,rfl,?_⟩;rw[aaM,hz,ac6,h4,Option.none_or];show(List.find? _ [(pz,nz)])=_;rw[abp,show decide (((pz,nz):Str×Int).1=("d":Str))=false from aat c1]
   rfl
 ·rintro ρ W ⟨u,v,rfl,h4⟩
  rfl'
  have e:c8 ps ns=none:=by
   unfold c8;rw[abL (by rw[adp,aak,aak];exact aao _)]at h4;rw[h4]
   rfl
  rw[e]at q;exact q
theorem NI{fW fC:Addr}{VI:wT}(F:cM K "worth_got" "worth_got" NC f fd)(uQ:Dn P w K mg base 1 "wrapped" fW RG ["number"] (eZ J5))(oJ:Dn P w K mg base 1 "cell_at" fC VI ["worth", "n"] (eZ rV)):ba P w K mg base cU 2 f fd ["row", "spots", "cells"] (eZ RE):=by
 exact_mod_cast F.sS zr (by nofun);refine⟨_,(af (aF 3 zr.nd (ao (ah 0) ae))
  (af (aO (ay (aG hu) (ah 3) aj) (ai (ax (ao (ah 0) ae))) av)
  (af (aF 4 zr.nd (ao (ah 1) (ao (ah 0) ae)))
  (af (aO (ay (aG hu) (ah 3) aj) (ai (ax (ao (ah 2) (aq oJ hr (aa (ah 4) (aa (ao (ah 0) ae) ag)))))) av)
  (af (aF 5 zr.nd (ao (ah 1) (ao (ah 0) ae)))
  (af (aO (ay (aG hu) (ah 3) aj) (ai (ax (aq uQ hr (aa (aY bb (ah 4) (ah 5)) ag)))) av)
  (af (aO (ay (aG hu) (ah 3) aj) (ai (ax (aq uQ hr (aa (aY iK (ah 4) (ah 5)) ag)))) av)
  (ai (ax (qW (ay gz (ah 4) (ah 5)) ae ae)))))))))),?_⟩
 push_cast;rintro ds R ⟨r,m,sp,ce,rfl,ok,l8,FQ,sw,hd,q⟩;refine cj [_,_,_,none,none,none] rfl ?_;cases r with
 | put d v =>
  dsimp only[c7];array_get_dec;refine ar ?_;array_get_dec;exact q
 | op x d a b =>
  obtain⟨hx,o1,o2,o3⟩:=ok;dsimp only[c7];array_get_dec;refine ar ?_;have ra:=zv sw a;have ra0:=ra.1;have ra1:=ra.2;rcases hx with rfl | rfl | rfl
  ·array_get_dec;refine iX o2.1 (by have:=o2.2;omega) ?_;array_get_dec;refine ar ?_;array_get_dec;refine iX o3.1 (by have:=o3.2;omega) ?_;array_get_dec;refine ar ?_;array_get_dec;exact bh (ds:=[.int _]) ⟨_,rfl,q⟩
  ·array_get_dec;refine iX o2.1 (by have:=o2.2;omega) ?_;array_get_dec;refine ar ?_;array_get_dec;refine iX o3.1 (by have:=o3.2;omega) ?_;array_get_dec;refine ar ?_;array_get_dec;refine ar ?_;array_get_dec;exact bh (ds:=[.int _]) ⟨_,rfl,q⟩
  ·array_get_dec;refine iX o2.1 (by have:=o2.2;omega) ?_;array_get_dec;refine ar ?_;array_get_dec;refine iX o3.1 (by have:=o3.2;omega) ?_;array_get_dec;refine ar ?_;array_get_dec;refine ar ?_;array_get_dec;have q':R (.im (.int (if gI sp a < gI sp b then 1 else 0))):=q;refine dA (fun h=>?_) (fun h=>?_)
   ·rw[aaE h]at q';array_get_dec;exact q'
   ·rw[aaA h]at q';array_get_dec;exact q'
 | mv x d a n =>
  obtain⟨hx,o1,o2,o3⟩:=ok;have hx':x = "take":=by
   rcases hx with h | h
   ·exact h
   ·subst h;cases hd
  subst hx';dsimp only[c7];array_get_dec;refine ar ?_;array_get_dec;refine iX o2.1 (by have:=o2.2;omega) ?_;array_get_dec;refine ar ?_;array_get_dec;refine bh (ds:=[.int _,.int _]) ⟨_,_,rfl,?_⟩;array_get_dec;refine iX (abJ _ (by decide)) (by rw[FQ];exact abt _ (by decide)) ?_;exact q
 | go a p=>cases hd
 | one x=>cases hd
theorem HK{fC fS fG:Addr}{VI VJ fdG:wT}(F:cM K "what_it_writes" "what_it_writes" DS f fd)(oJ:Dn P w K mg base 1 "cell_at" fC VI ["worth", "n"] (eZ rV))(ip:Dn P w K mg base 1 "spot_written" fS VJ ["row"] (eZ zw))(xy:Dn P w K mg base 2 "worth_got" fG fdG ["row", "spots", "cells"] (eZ RE)):ba P w K mg base cU 3 f fd ["row", "spots", "cells"] (eZ J6):=by
 exact_mod_cast F.sS DY (by nofun);refine⟨_,(af (aO (ay (aG hu) (ao (ah 0) ae) aj) (ai (ax (aX (aa aj (aa (aq oJ hr (aa (ao (ah 1) (ao (ah 0) ae)) (aa (ao (ah 0) ae) ag))) (aa (ao (ah 1) (ao (ah 0) ae)) ag)))))) av)
  (af (aF 3 DY.nd (aq ip hr (aa (ah 0) ag)))
  (af (aO (fV (ah 3)) (ai (ax cS)) av)
  (ai (ax (aX (aa aj (aa (ah 3) (aa (aq xy hr (aa (ah 0) (aa (ah 1) (aa (ah 2) ag)))) ag))))))))),?_⟩
 push_cast;rintro ds R ⟨r,m,sp,ce,rfl,ok,l8,FQ,sw,q⟩;refine cj [_,_,_,none] rfl ?_;have hg:=ok;cases r with
 | put d v =>
  refine ar ?_;dsimp only[c7];array_get_dec;refine bh (ds:=[.tuple [.str "put",.int d,.int v]]) ⟨"put",["d", "worth"],[d,v],rfl,rfl,?_⟩;show j8 _ _ (.im (.int d));array_get_dec;refine ar ?_;array_get_dec;refine wG ?_;array_get_dec;refine bh (ds:=[c7 (.put d v),cu sp,cu ce]) ⟨.put d v,m,sp,ce,rfl,hg,l8,FQ,sw,rfl,?_⟩;array_get_dec;exact aA (ds:=[.str "spot",.int d,.int _]) (by show 3<=sizeLine;decide) q
 | op x d a b =>
  refine ar ?_;dsimp only[c7];have hw:∃ ps,cf.lookup x=some ps/\c8 ps [d,a,b]=some d:=by
   rcases hg.1 with rfl | rfl | rfl
   ·exact⟨_,rfl,rfl⟩
   ·exact⟨_,rfl,rfl⟩
   ·exact⟨_,rfl,rfl⟩
  obtain⟨ps,RH,Ss⟩:=hw;have nl:¬ (x = "lay"):=by rcases hg.1 with rfl | rfl | rfl<;>decide +kernel
  array_get_dec;refine bh (ds:=[.tuple [.str x,.int d,.int a,.int b]]) ⟨x,ps,[d,a,b],rfl,RH,?_⟩;rw[Ss];show j8 _ _ (.im (.int d));array_get_dec;refine ar ?_;array_get_dec;refine wG ?_;array_get_dec;refine bh (ds:=[c7 (.op x d a b),cu sp,cu ce]) ⟨.op x d a b,m,sp,ce,rfl,hg,l8,FQ,sw,rfl,?_⟩;array_get_dec;exact aA (ds:=[.str "spot",.int d,.int _]) (by show 3<=sizeLine;decide) q
 | mv x d a n =>
  obtain⟨hx,o1,o2,o3⟩:=ok;refine ar ?_;dsimp only[c7];rcases hx with rfl | rfl
  ·array_get_dec;refine bh (ds:=[.tuple [.str "take",.int d,.int a,.int n]]) ⟨"take",_,[d,a,n],rfl,rfl,?_⟩;show j8 _ _ (.im (.int d));array_get_dec;refine ar ?_;array_get_dec;refine wG ?_;array_get_dec;refine bh (ds:=[c7 (.mv "take" d a n),cu sp,cu ce]) ⟨.mv "take" d a n,m,sp,ce,rfl,hg,l8,FQ,sw,rfl,?_⟩;array_get_dec;exact aA (ds:=[.str "spot",.int d,.int _]) (by show 3<=sizeLine;decide) q
  ·array_get_dec;refine iX o2.1 (by have:=o2.2;omega) ?_;array_get_dec;refine bh (ds:=[.int _,.int _]) ⟨_,_,rfl,?_⟩;array_get_dec;refine iX o1.1 (by have:=o1.2;omega) ?_;array_get_dec;exact aA (ds:=[.str "cell",.int _,.int _]) (by show 3<=sizeLine;decide) q
 | go a p =>
  refine ar ?_;dsimp only[c7];array_get_dec;refine bh (ds:=[.tuple [.str "go",.int a,.int p]]) ⟨"go",_,[a,p],rfl,rfl,?_⟩;show j8 _ _ (.im .none);array_get_dec;refine ar ?_;array_get_dec;refine CM ?_;array_get_dec;exact q
 | one x =>
  refine ar ?_;dsimp only[c7];rcases (show x = "shut"\/x = "open"\/x = "home" from ok)with rfl | rfl | rfl
  all_goals
   array_get_dec
   refine bh (ds:=[.tuple [.str _]]) ⟨_,_,[],rfl,rfl,?_⟩
   show j8 _ _ (.im .none)
   array_get_dec
   refine ar ?_
   array_get_dec
   refine CM ?_
   array_get_dec
   exact q
theorem Ej(F:cM K "place_behind" "place_behind" rS f fd):ba P w K mg base cU 1 f fd ["row", "place", "spots", "kept"] (eZ zx):=by
 exact_mod_cast F.sS DZ (by nofun);refine⟨_,(af (aO (gN (w_and (ay (aG hu) (ao (ah 0) ae) aj) (bx (ay (bD hu) (ao (ah 2) (ao (ah 0) ae)) ae)))) (ai (ax (ao (ah 0) ae))) av)
  (af (aO (gN (w_and (ay (aG hu) (ao (ah 0) ae) aj) (bx (fc (ah 3))))) (ai (ax (ah 3))) av)
  (ai (ax (aY bb (ah 1) ae))))),?_⟩
 push_cast;rintro ds R ⟨r,m,place,sp,kept,rfl,ok,l8,q⟩;refine ar ?_;cases r with
 | put d v =>
  dsimp only[c7];array_get_dec;refine ar ?_;array_get_dec;exact q
 | op x d a b =>
  dsimp only[c7];rcases ok.1 with rfl | rfl | rfl
  all_goals
   array_get_dec
   refine ar ?_
   array_get_dec
   exact q
 | mv x d a n =>
  dsimp only[c7];rcases ok.1 with rfl | rfl
  all_goals
   array_get_dec
   refine ar ?_
   array_get_dec
   exact q
 | go a p =>
  obtain⟨o1,o2⟩:=ok;dsimp only[c7];array_get_dec;refine iX o1.1 (by have:=o1.2;omega) ?_;have q':R (.im (.int (if gI sp a=0 then place+1 else p))):=q;array_get_dec;refine og (fun h=>?_) (fun h=>?_)
  ·rw[aaA h]at q';array_get_dec;exact q'
  ·rw[aaE h]at q';array_get_dec;refine ar ?_;array_get_dec;exact q'
 | one x =>
  dsimp only[c7];rcases (show x = "shut"\/x = "open"\/x = "home" from ok)with rfl | rfl | rfl
  ·array_get_dec;refine ar ?_;array_get_dec;exact q
  ·array_get_dec;refine ar ?_;array_get_dec;exact q
  ·cases kept with
   | none =>
    array_get_dec;refine ar ?_;array_get_dec;refine wG ?_;array_get_dec;exact q
   | some k =>
    array_get_dec;refine ar ?_;array_get_dec;refine CM ?_;array_get_dec;exact q
theorem Ek(F:cM K "is_shut_behind" "is_shut_behind" xr f fd):ba P w K mg base cU 1 f fd ["row", "shut"] (eZ Ee):=by
 exact_mod_cast F.sS HC (by nofun);refine⟨_,(af (aO (ay (aG hu) (ao (ah 0) ae) aj) (ai (ax Aw)) av)
  (af (aO (pf (iQ hu) (ao (ah 0) ae) (aX (bV rfl))) (ai (ax Aw)) av)
  (ai (ax (ah 1))))),?_⟩
 push_cast;rintro ds R ⟨r,m,cK,rfl,ok,q⟩;have two:∀{W:Wd} {Q:DK} {x:Str},Q (.im (.bool (decide (x = "open")||decide (x = "home")))) W->ug false (.im (.str x)) (.im (.tuple [.str "open",.str "home"])) W Q:=fun{W Q x} h=>by
  refine⟨.str x,[.str "open",.str "home"],rfl,rfl,.inl ⟨rfl,rfl⟩,?_⟩;have e:(List.any [PyData.str "open",.str "home"] fun d=>PyData.eqv d (.str x))=(decide (x = "open")||decide (x = "home")):=by
   show(PyData.eqv (.str "open") (.str x)||(PyData.eqv (.str "home") (.str x)||false))=_;rw[kI,kI,Bool.or_false,uP,uP (b:=x)]
  rw[aaA (by decide),e];exact h
 refine ar ?_;cases r with
 | put d v =>
  dsimp only[c7];array_get_dec;refine ar ?_;array_get_dec;refine aA (ds:=[.str "open",.str "home"]) (by show 2<=sizeLine;decide) (two ?_)
  rfl'
  refine wG ?_;array_get_dec;exact q
 | op x d a b =>
  dsimp only[c7];rcases ok.1 with rfl | rfl | rfl
  all_goals
   array_get_dec
   refine ar ?_
   array_get_dec
   refine aA (ds:=[.str "open",.str "home"]) (by show 2<=sizeLine;decide) (two ?_)
   rfl'
   refine wG ?_
   array_get_dec
   exact q
 | mv x d a n =>
  dsimp only[c7];rcases ok.1 with rfl | rfl
  all_goals
   array_get_dec
   refine ar ?_
   array_get_dec
   refine aA (ds:=[.str "open",.str "home"]) (by show 2<=sizeLine;decide) (two ?_)
   rfl'
   refine wG ?_
   array_get_dec
   exact q
 | go a p =>
  dsimp only[c7];array_get_dec;refine ar ?_;array_get_dec;refine aA (ds:=[.str "open",.str "home"]) (by show 2<=sizeLine;decide) (two ?_)
  rfl'
  refine wG ?_;array_get_dec;exact q
 | one x =>
  dsimp only[c7];rcases (show x = "shut"\/x = "open"\/x = "home" from ok)with rfl | rfl | rfl
  ·array_get_dec;exact q
  all_goals
   array_get_dec
   refine ar ?_
   array_get_dec
   refine aA (ds:=[.str "open",.str "home"]) (by show 2<=sizeLine;decide) (two ?_)
   rfl'
   refine CM ?_
   array_get_dec
   exact q
theorem El(F:cM K "kept_behind" "kept_behind" xt f fd):ba P w K mg base cU 1 f fd ["row", "kept"] (eZ Ef):=by
 exact_mod_cast F.sS HE (by nofun);refine⟨_,(ai (ax (qW (ay (aG hu) (ao (ah 0) ae) aj) cS (ah 1)))),?_⟩;push_cast;rintro ds R ⟨r,m,kept,rfl,ok,q⟩;cases r with
 | put d v =>
  dsimp only[c7];array_get_dec;exact q
 | op x d a b =>
  dsimp only[c7];rcases ok.1 with rfl | rfl | rfl
  all_goals
   array_get_dec
   exact q
 | mv x d a n =>
  dsimp only[c7];rcases ok.1 with rfl | rfl
  all_goals
   array_get_dec
   exact q
 | go a p =>
  dsimp only[c7];array_get_dec;exact q
 | one x =>
  dsimp only[c7];rcases (show x = "shut"\/x = "open"\/x = "home" from ok)with rfl | rfl | rfl
  all_goals
   array_get_dec
   exact q
theorem A2(F:cM K "is_bell" "is_bell" rT f fd)(bj:mg "len"=none):ba P w K mg base cU 1 f fd ["mill", "k"] (eZ zz):=by
 exact_mod_cast F.sS D0 (by nofun);refine⟨_,(ai (ax (GN BY gz ae (ah 1) (bJ bq bj aaU (aa (ao (ah 0) ae) ag))))),?_⟩;push_cast;rintro ds R ⟨rs,bs,k,rfl,q⟩
 rfl'
 by_cases h:(0:Int)<=k
 ·rw[aa6 h]at q ⊢;refine CM ?_
  rfl'
  refine bC (D:=.tuple (bs.map .int)) rfl ?_
  rfl'
  rw[aak];exact q
 ·rw[aat h]at q ⊢;refine wG ?_;exact q
theorem Em(F:cM K "rests" "rests" xu f fd)(bj:mg "len"=none):ba P w K mg base cU 1 f fd ["mill", "state"] (eZ rW):=by
 exact_mod_cast F.sS HF (by nofun);refine⟨_,(ai (ax (gA (aG hu) (ao (ah 1) ae) (bJ bq bj aaU (aa (ao (ah 0) ae) ag))))),?_⟩;push_cast;rintro ds R ⟨rs,bs,pl,r,rfl,q⟩
 rfl'
 refine bC (D:=.int pl) (MS (k:=0) (by decide) (by simp)) ?_
 rfl'
 refine bC (D:=.tuple (rs.map c7)) rfl ?_
 rfl'
 rw[aak];exact q
theorem HL(F:cM K "with_written" "with_written" DT f fd):ba P w K mg base cU 1 f fd ["worths", "kind", "wrote"] (eZ J7):=by
 exact_mod_cast F.sS Ea (by nofun);refine⟨_,(af (aO (gN (w_or (fV (ah 2)) (jW (ay (bD hu) (ao (ah 2) ae) (ah 1))))) (ai (ax (ah 0))) av)
  (af (aF 3 Ea.nd (ao (ah 2) ae))
  (ai (ax (aY ff (aY ff (j3 nR (ah 0) fe (eM (ah 3))) (aX (aa (ao (ah 2) ae) ag))) (j3 nR (ah 0) (eM (aY bb (ah 3) ae)) fe)))))),?_⟩
 push_cast;rintro ds R ⟨ws,kind,wr,rfl,l2,FQ,hat,q⟩;refine cj [_,_,_,none] rfl ?_;refine ar ?_;cases wr with
 | none =>
  rfl'
  refine CM ?_
  rfl'
  exact q
 | some t =>
  obtain⟨k,a,x⟩:=t;dsimp only[fk]
  rfl'
  refine wG ?_
  rfl'
  refine bC (D:=.str k) rfl ?_
  rfl'
  have q':R (.im (cu (if k=kind then ws.set a.toNat x else ws))):=q;refine og (fun h=>?_) (fun h=>?_)
  ·rfl'
   rw[aaA h]at q';exact q'
  ·subst h;rw[aaE rfl]at q';obtain⟨a0,a1⟩:=hat a x rfl
   rfl'
   refine bC (D:=.int a) rfl ?_
   rfl'
   refine NH a0 a1 ?_
   rfl'
   refine bC (D:=.int x) rfl ?_
   rfl'
   refine aA (ds:=[.int x]) (by show 1<=sizeLine;decide) ?_;refine⟨_,_,rfl,rfl,aaH (dR (by simp only[aak,abk,aaR,ab1];omega)),?_⟩
   rfl'
   refine Ei (by omega) (by omega) ?_;refine⟨_,_,rfl,rfl,aaH (dR (by simp only[aaQ,aak,abk,abE,aaR,ab1];omega)),?_⟩;have e:(ws.take a.toNat).map PyData.int++[PyData.int x]++(ws.drop (a+1).toNat).map PyData.int=(ws.set a.toNat x).map .int:=by
    rw[<- HI (ws:=ws) (k:=a.toNat) (x:=x) (by omega),show(a+1).toNat=a.toNat+1 by omega];simp only[ab3,aaz,acn]
   rw[e];exact q'
theorem HN(A3:rh K aR)(lN:mg "Resting"=some (.ref aR)){fR fH fP fW fS fK:Addr}{VL fdH fdP VJ fdK:wT}(F:cM K "step" "step" DU f fd)(xA:Dn P w K mg base 1 "rests" fR VL ["mill", "state"] (eZ rW))(mF:Dn P w K mg base 3 "what_it_writes" fH fdH ["row", "spots", "cells"] (eZ J6))(pv:Dn P w K mg base 1 "place_behind" fP fdP ["row", "place", "spots", "kept"] (eZ zx))(jZ:Dn P w K mg base 1 "with_written" fW RG ["worths", "kind", "wrote"] (eZ J7))(mG:Dn P w K mg base 1 "is_shut_behind" fS VJ ["row", "shut"] (eZ Ee))(rY:Dn P w K mg base 1 "kept_behind" fK fdK ["row", "kept"] (eZ Ef)) :
  ba P w K mg base (vC P w) 4 f fd ["mill", "state"] (eZ (SStep aR)):=by
 exact_mod_cast F.QF jr (by nofun);refine⟨_,(af (aO (nW (aq xA hr (aa (ah 0) (aa (ah 1) ag)))) (ai (rj A3 lN (aa aj ag))) av)
  (af (aF 2 jr.nd (ao (ah 1) ae))
  (af (aF 3 jr.nd (ao (ah 1) ae))
  (af (aF 4 jr.nd (ao (ah 1) ae))
  (af (aF 5 jr.nd (ao (ah 1) ae))
  (af (aF 6 jr.nd (ao (ao (ah 0) ae) (ah 2)))
  (af (aF 7 jr.nd (aq mF hr (aa (ah 6) (aa (ah 3) (aa (ah 4) ag)))))
  (af (aF 8 jr.nd (aX (aa (aq pv hr (aa (ah 6) (aa (ah 2) (aa (ah 3) (aa (ah 5) ag))))) (aa (aq jZ hr (aa (ah 3) (aa aj (aa (ah 7) ag)))) (aa (aq jZ hr (aa (ah 4) (aa aj (aa (ah 7) ag)))) (aa (aq mG hr (aa (ah 6) (aa (ao (ah 1) ae) ag))) (aa (aq rY hr (aa (ah 6) (aa (ah 5) ag))) ag)))))))
  (ai (ax (aX (aa (ah 8) (aa (aX (aa (ah 2) (aa (ah 7) ag))) ag))))))))))))),?_⟩
 push_cast;rintro ds R ⟨rs,bs,st,rfl,RI,uR,q,qX⟩;refine cj [_,_,none,none,none,none,none,none,none] rfl ?_;refine ar ?_
 rfl'
 refine bh (ds:=[bO rs bs,i6 st]) ⟨rs,bs,st.place,_,rfl,?_⟩
 rfl'
 refine dA (fun h=>?_) (fun h=>?_)
 ·rfl'
  exact⟨by show 1<=sizeLine;decide,qX h⟩
 have hp:st.place < rs.length:=by have:=uR.p1;omega
 replace q:=q hp;obtain⟨er,ki⟩:=dQ RI uR.p0 hp;generalize rowOf rs st.place=r at er ki q;have NG:=fZ ki uR.sw uR.cw
 rfl'
 refine bC (D:=.int st.place) rfl ?_
 rfl'
 refine bC (D:=cu st.aQ) rfl ?_
 rfl'
 refine bC (D:=cu st.cells) rfl ?_
 rfl'
 refine bC (D:=mE st.kept) rfl ?_
 rfl'
 refine bC (D:=.tuple (rs.map c7)) rfl ?_
 rfl'
 refine bC er ?_
 rfl'
 refine bh (ds:=[c7 r,cu st.aQ,cu st.cells]) ⟨r,rs.length,st.aQ,st.cells,rfl,ki,uR.s8,uR.Hz,uR.sw,?_⟩
 rfl'
 refine bh (ds:=[c7 r,.int st.place,cu st.aQ,mE st.kept]) ⟨r,rs.length,st.place,st.aQ,st.kept,rfl,ki,uR.s8,?_⟩
 rfl'
 refine bh (ds:=[cu st.aQ,.str "spot",fk (r.wrote st.aQ st.cells)]) ⟨st.aQ, "spot",_,rfl,by rw[uR.s8];decide,by rw[uR.s8];decide,fun a w e=>?_,?_⟩
 ·rw[e]at NG;rcases NG.1 with⟨_,z⟩ | ⟨z,_⟩
  ·rw[uR.s8];exact z
  ·exact absurd z (by decide +kernel)
 rfl'
 refine bh (ds:=[cu st.cells,.str "cell",fk (r.wrote st.aQ st.cells)]) ⟨st.cells, "cell",_,rfl,by rw[uR.Hz];decide,by rw[uR.Hz];decide,fun a w e=>?_,?_⟩
 ·rw[e]at NG;rcases NG.1 with⟨z,_⟩ | ⟨_,z⟩
  ·exact absurd z (by decide +kernel)
  ·rw[uR.Hz];exact z
 rfl'
 refine bC (D:=.bool st.cK) rfl ?_
 rfl'
 refine bh (ds:=[c7 r,.bool st.cK]) ⟨r,rs.length,st.cK,rfl,ki,?_⟩
 rfl'
 refine bh (ds:=[c7 r,mE st.kept]) ⟨r,rs.length,st.kept,rfl,ki,?_⟩
 rfl'
 refine aA (ds:=[.int (dq st.aQ st.place st.kept r),cu (jt "spot" st.aQ (r.wrote st.aQ st.cells)),cu (jt "cell" st.cells (r.wrote st.aQ st.cells)),.bool (kR st.cK r),mE (js st.kept r)]) (by show 5<=sizeLine;decide) ?_
 rfl'
 refine aA (ds:=[.int st.place,fk (r.wrote st.aQ st.cells)]) (by show 2<=sizeLine;decide) ?_
 rfl'
 exact aA (ds:=[i6 (eG r st),NF (st.place,r.wrote st.aQ st.cells)]) (by show 2<=sizeLine;decide) q
theorem HP{aN:Addr}(En:rh K aN)(oK:mg "NoBell"=some (.ref aN))(NJ:rh K aS)(xB:mg "Shut"=some (.ref aS)){fI:Addr}{fdI:wT}(F:cM K "bell" "bell" DW f fd)(Eo:Dn P w K mg base 1 "is_bell" fI fdI ["mill", "k"] (eZ zz)) :
  ba P w K mg base (vC P w) 2 f fd ["mill", "state", "k"] (eZ (Eg aN aS)):=by
 exact_mod_cast F.QF ND (by nofun);refine⟨_,(af (aO (jX (nW (aq Eo hr (aa (ah 0) (aa (ah 2) ag))))) (ai (rj En oK (aa aj ag))) av)
  (af (aO (nW (ao (ah 1) ae)) (ai (rj NJ xB (aa aj ag))) av)
  (ai (ax (aX (aa (ao (ao (ah 0) ae) (ah 2)) (aa (ao (ah 1) ae) (aa (ao (ah 1) ae) (aa Aw (aa (ao (ah 1) ae) ag)))))))))),?_⟩
 push_cast;rintro ds R ⟨rs,bs,st,k,rfl,q,qN,qS⟩;refine ar ?_
 rfl'
 refine bh (ds:=[bO rs bs,.int k]) ⟨rs,bs,k,rfl,?_⟩
 rfl'
 by_cases hk:0<=k/\k < bs.length
 ·rw[show(decide (0<=k)&&decide (k < (bs.length:Int)))=true by simp[hk.1,hk.2]]
  rfl'
  refine ar ?_
  rfl'
  refine bC (D:=.bool st.cK) rfl ?_
  rfl'
  cases e:st.cK with
  | true =>
   rfl'
   exact⟨by show 1<=sizeLine;decide,qS hk e⟩
  | false =>
   rfl'
   refine bC (D:=cu bs) rfl ?_
   rfl'
   refine iX hk.1 hk.2 ?_
   rfl'
   refine bC (D:=cu st.aQ) rfl ?_
   rfl'
   refine bC (D:=cu st.cells) rfl ?_
   rfl'
   refine bC (D:=.int st.place) rfl ?_
   rfl'
   exact aA (ds:=[.int (gI bs k),cu st.aQ,cu st.cells,.bool true,.int st.place]) (by show 5<=sizeLine;decide) (q hk e)
 ·rw[show(decide (0<=k)&&decide (k < (bs.length:Int)))=false by
   by_cases h:0<=k
   ·rw[aa6 h,aat (fun z=>hk ⟨h,z⟩)];rfl
   ·rw[aat h];rfl]
  rfl'
  exact⟨by show 1<=sizeLine;decide,qN hk⟩
end
def bZ(ps:wv)(ns:wn):List Int:=(ps.zip ns).foldl (fun acc p=>if(p.1=("a":Str)\/p.1=("b":Str))/\p.2 ∉ acc then acc++[p.2]else acc) []
noncomputable def xC:ll:=fun ds R _=>∃(x:Str) (ps:wv) (ns:wn),ds=[.tuple (.str x::ns.map .int)]/\cf.lookup x=some ps/\R (.nw ((bZ ps ns).map .int))
theorem rZ{ps:wv}{i:Nat}{p:Str}{n:Int}(hp:ps[i]?=some p)(hn:ns[i]?=some n):bZ (ps.take (i+1)) (ns.take (i+1))=if(p=("a":Str)\/p=("b":Str))/\n ∉ bZ (ps.take i) (ns.take i)then bZ (ps.take i) (ns.take i)++[n]else bZ (ps.take i) (ns.take i):=by
 have e:(ps.take (i+1)).zip (ns.take (i+1))=(ps.take i).zip (ns.take i)++[(p,n)]:=by
  have h1:i < ps.length:=(aas.mp hp).1;have h2:i < ns.length:=(aas.mp hn).1;rw[aaM,hp,aaM,hn];exact List.zip_append (by rw[abk,abk];omega)
 unfold bZ;rw[e,List.foldl_append]
 rfl
theorem uS{ps:wv}:bZ (ps.take (min ps.length ns.length)) (ns.take (min ps.length ns.length))=bZ ps ns:=by
 unfold bZ;rw[<- List.zip_eq_zip_take_min]
def eY(rs:ut)(aD:Int):List Int:=(rs.filter fun r=>decide (r.1<=aD)).map (·.2)
def zA(rs:ut)(tk:wn)(aD:Int):List Int:=(eY rs aD).filter fun k=>decide (tk.count k < (eY rs aD).count k)
def J8:ll:=fun ds R _=>∃(rs:ut) (aD:Int),ds=[.list (rs.map pairD),.int aD]/\rs.length<=60/\R (.nw ((eY rs aD).map .int))
def Ep:ll:=fun ds R _=>∃(rs:ut) (tk:wn) (aD:Int),ds=[.list (rs.map pairD),.list (tk.map .int),.int aD]/\rs.length<=60/\∀ ns:List Int,ns.Pairwise (· < ·)->(∀ k,k∈ns↔k∈zA rs tk aD)->R (.nw (ns.map .int))
theorem A4(rs:ut)(aD:Int):(eY rs aD).length<=rs.length:=by unfold eY;rw[aak];exact acd ..
theorem qk{α:Type}[BEq α][LawfulBEq α]:∀{l l':List α},l.Nodup->(∀ x∈l,x∈l')->l.length<=l'.length
 | [],_,_,_=>aaK _
 | x::r,l',nd,h=>by
  have hx:=h x (aaF ..);have⟨n1,n2⟩:=aca.mp nd;have:=qk (l:=r) (l':=l'.erase x) n2 fun y hy=>(List.mem_erase_of_ne (show y≠x from fun z=>n1 (z▸hy))).mpr (h y (aax _ hy));rw[List.length_erase_of_mem hx]at this;have hp:0 < l'.length:=List.length_pos_of_mem hx;rw[aaR];omega
theorem ty_list:wQ "list" (.im (.list ds)) W:=.inl ⟨rfl,_,rfl⟩
theorem r6:dS W (.im (.list (ns.map .int)))=some (ns.map fun i=>.im (.int i)):=by show some _=_;rw[acG];rfl
theorem oM:∀ ns:List Int,kF (ns.map PyData.int)=true
 | []=>rfl
 | n::r=>by rw[aaz];unfold kF;rw[oM r];rfl
theorem xD{f:DV->Option PyData}{x:DV}{d:PyData}{r:List DV}(h:f x=some d)(hr:fX f r=some ds):fX f (x::r)=some (d::ds):=by unfold fX;rw[h,hr];rfl
theorem cm(h:n<=100000):n < sizeLine:=acv h (by decide)
abbrev kS:=Option (Str×Int×v0)
noncomputable def cP:kS->PyData
 | none=>.none
 | some (k,x,v)=>.tuple [.str k,.int x,mE v]
inductive Ev where
 | fin (b pl:Int) (t:kS) | gL (b n v:Int) | down (b n c v:Int) | gx (b k:Int)
noncomputable def fm:Ev->PyData
 | .fin b pl t=>.tuple [.str "end",.int b,.int pl,cP t]
 | .gL b n v=>.tuple [.str "late",.int b,.int n,.int v]
 | .down b n c v=>.tuple [.str "down",.int b,.int n,.int c,.int v]
 | .gx b k=>.tuple [.str "bell",.int b,.int k]
def Ev.aD:Ev->Int
 | .fin b _ _=>b
 | .gL b _ _=>b
 | .down b _ _ _=>b
 | .gx b _=>b
noncomputable def uT:Option (Str×Int)->PyData
 | none=>.none
 | some (k,n)=>.tuple [.str k,.int n]
noncomputable abbrev kS.jS(t:kS):Option (Str×Int):=t.map fun x=>(x.1,x.2.1)
noncomputable abbrev vH.told(t:vH):kS:=t.map fun x=>(x.1,x.2.1,some x.2.2)
theorem xE(t:vH):fk t=cP t.told:=by cases t<;>rfl
noncomputable def uU:Rw->Bool
 | .op x _ _ _=>decide (x = "mul")
 | .mv x _ _ _=>decide (x = "take")
 | _=>false
noncomputable def Er:ll:=fun ds R _=>∃(r:Rw) (n:Int),ds=[c7 r]/\iG n r/\R (.im (.bool (uU r)))
noncomputable def xF:ll:=fun ds R _=>∃ t:kS,ds=[cP t]/\R (.im (uT t.jS))
structure HM where
 rows:List Rw
 bQ:List Int
 rings:List (Int×Int)
 (width room queue eS longest:Int)
 st:A0
 (aD events ends gm aW:Int)
 taken:List Int
 bp:List (Int×Int×Int×Int)
 laid:List (Int×Int×Int)
 cause:Option Str
variable {h:HM}
structure Es where
 (p d tk ow la:Addr)
noncomputable def cR(x:Int×Int×Int×Int):PyData:=.tuple [.int x.1,.int x.2.1,.int x.2.2.1,.int x.2.2.2]
noncomputable def eI(x:Int×Int×Int):PyData:=.tuple [.int x.1,.int x.2.1,.int x.2.2]
noncomputable def mH:Option Str->PyData
 | none=>.none
 | some x=>.str x
noncomputable def bL:List Str:=["mill", "state", "rings", "terms", "width", "room", "queue", "patience", "longest", "beat", "events", "ends", "ends_of_beat", "pressed", "taken", "owed", "laid", "cause"]
noncomputable def sW(a:Es)(h:HM):List (Str×DV):=[("mill",.im (bO h.rows h.bQ)),("state",.im (i6 h.st)),("rings",.im (.list (h.rings.map pairD))),("terms",.im (.tuple [.int h.width,.int h.room,.int h.queue,.int h.eS,.int h.longest])),("width",.im (.int h.width)),("room",.im (.int h.room)),("queue",.im (.int h.queue)),("patience",.im (.int h.eS)),("longest",.im (.int h.longest)),("beat",.im (.int h.aD)),("events",.im (.int h.events)),("ends",.im (.int h.ends)),("ends_of_beat",.im (.int h.gm)),("pressed",.im (.int h.aW)),("taken",.pt a.tk),("owed",.pt a.ow),("laid",.pt a.la),("cause",.im (mH h.cause))]
def mq(ds:wE):Cell:=.lst (ds.map .im)
noncomputable def eR(kH:Addr)(a:Es)(h:HM):Ws:=[(a.p,.ob kH a.d (sW a h)),(a.tk,mq (h.taken.map .int)),(a.ow,mq (h.bp.map cR)),(a.la,mq (h.laid.map eI))]
theorem aU{a:Es}:PlainL (eR kH a h)=true:=rfl
def Es.on(a' a:Es):Prop:=a'.p=a.p/\a'.d=a.d
section
variable {K:zn}{a:Es}{f:Str}{v:DV}{Pr:Wd->Prop}
theorem J9(h':HM)(hA:At W (eR kH a h))(c:gk K kH bL)(q:∀ W1,At W1 (eR kH a h')->Pr W1)(n:autoParam (f∈bL) ra10)(e:autoParam (putD f v (sW a h)=sW a h') ra2)(ht:autoParam ((eR kH a h').tail=(eR kH a h).tail) ra0):∃ p' k d fs,DV.pt a.p=.pt p'/\W p'=some (.ob k d fs)/\my K k/\cI K k f/\fs.length < 1000/\Pr (aH W p' (.ob k d (putD f v fs))) :=
 rN hA c 0 rfl n (by show 18 < 1000;decide) fun W1 h1 f1=>q W1 (by rw[e]at h1;show At W1 ((a.p,.ob kH a.d (sW a h'))::(eR kH a h').tail);rw[ht];exact h1)
theorem VM(h':HM)(hA:At W (eR kH a h))(q:∀ W1,At W1 (eR kH a h')->Pr W1)(e:autoParam (putD f v (sW a h)=sW a h') ra2)(ht:autoParam ((eR kH a h').tail=(eR kH a h).tail) ra0):∃ d fs,W a.p=some (.ob kH d fs)/\fs.length < 1000/\Pr (aH W a.p (.ob kH d (putD f v fs))) :=
 ⟨_,_,hA.get 0 rfl,(by show 18 < 1000;decide),q _ (by rw[e];show At _ ((a.p,.ob kH a.d (sW a h'))::(eR kH a h').tail);rw[ht];exact hA.set 0 rfl)⟩
theorem Yn{q:Addr}{W0:Wd}{c':Cell}(i:Nat)(a':Es)(h':HM)(hA:At W0 (eR kH a h))(c:gk K kH bL)(hq:W0 q=none)(fq:Fr q W0 W)(wq:W q=some c')(k:∀ W1,At W1 (eR kH a' h')->Pr W1)(e:((eR kH a h).set i (q,c')).set 0 (a.p,.ob kH a.d (putD f v (sW a h)))=eR kH a' h')(h0:autoParam (((eR kH a h).set i (q,c'))[0]?=some (a.p,.ob kH a.d (sW a h))) ra0)(n:autoParam (f∈bL) ra10):∃ p' k d fs,DV.pt a.p=.pt p'/\W p'=some (.ob k d fs)/\my K k/\cI K k f/\fs.length < 1000/\Pr (aH W p' (.ob k d (putD f v fs))) :=
 rN (hA.swap i hq fq wq) c 0 h0 n (by show 18 < 1000;decide) fun W1 h1 _=>k W1 (by rw[e]at h1;exact h1)
theorem VN(hA:At W (eR kH a h))(f:Fr a.tk W W')(w:W' a.tk=some (.lst ((xs.map PyData.int).map .im))):At W' (eR kH a { h with taken:=xs }):=hA.gR 1 rfl f w
theorem VO{xs:List (Int×Int×Int×Int)}(hA:At W (eR kH a h))(f:Fr a.ow W W')(w:W' a.ow=some (.lst ((xs.map cR).map .im))):At W' (eR kH a { h with bp:=xs }):=hA.gR 2 rfl f w
theorem VP{xs:List (Int×Int×Int)}(hA:At W (eR kH a h))(f:Fr a.la W W')(w:W' a.la=some (.lst ((xs.map eI).map .im))):At W' (eR kH a { h with laid:=xs }):=hA.gR 3 rfl f w
theorem NK(hA:At W (eR kH a h)):W a.tk=some (.lst ((h.taken.map PyData.int).map .im)):=hA.get 1 rfl
theorem px(hA:At W (eR kH a h)):W a.ow=some (.lst ((h.bp.map cR).map .im)):=hA.get 2 rfl
theorem HQ(hA:At W (eR kH a h)):W a.la=some (.lst ((h.laid.map eI).map .im)):=hA.get 3 rfl
end
noncomputable def r8(rs:ut)(tk:wn)(aD:Int):List Int:=([0,1,2,3]:wn).filter fun k=>decide (tk.count k < (eY rs aD).count k)
noncomputable def HM.df(h:HM)(aD:Int):List Int:=r8 h.rings h.taken aD
noncomputable def HM.aZ(h:HM)(aD:Int):Bool:=!h.st.cK&&decide (0 < (h.df aD).length)
def HM.endsAt(h:HM)(aD:Int):Int:=if aD=h.aD then h.gm else 0
abbrev HM.row(h:HM):Rw:=rowOf h.rows h.st.place
noncomputable def kT:Rw->List Int
 | .put d v=>[d,v]
 | .op _ d a b=>[d,a,b]
 | .mv _ d a n=>[d,a,n]
 | .go a p=>[a,p]
 | .one _=>[]
def HR:Rw->Str
 | .put _ _ => "put"
 | .op x _ _ _=>x
 | .mv x _ _ _=>x
 | .go _ _ => "go"
 | .one x=>x
noncomputable def pA(r:Rw):List Str:=(cf.lookup (HR r)).getD []
theorem kU{r:Rw}(ok:iG m r):c7 r=.tuple (.str (HR r)::(kT r).map .int)/\cf.lookup (HR r)=some (pA r):=by
 have k:∀ x∈cf.map (·.1),cf.lookup x=some ((cf.lookup x).getD []):=by decide +kernel
 have m1:("put":Str)∈cf.map (·.1)/\("go":Str)∈cf.map (·.1)/\("sum":Str)∈cf.map (·.1)/\("mul":Str)∈cf.map (·.1)/\("less":Str)∈cf.map (·.1)/\("take":Str)∈cf.map (·.1)/\("lay":Str)∈cf.map (·.1)/\("shut":Str)∈cf.map (·.1)/\("open":Str)∈cf.map (·.1)/\("home":Str)∈cf.map (·.1):=by decide +kernel
 obtain⟨h1,h2,h3,h4,h5,h6,h7,h8,h9,h0⟩:=m1;cases r with
 | put d v=>exact⟨rfl,k _ h1⟩
 | op x d a b=>exact⟨rfl,by rcases ok.1 with rfl | rfl | rfl;exact k _ h3;exact k _ h4;exact k _ h5⟩
 | mv x d a n=>exact⟨rfl,by rcases ok.1 with rfl | rfl;exact k _ h6;exact k _ h7⟩
 | go a p=>exact⟨rfl,k _ h2⟩
 | one x=>exact⟨rfl,by rcases ok with rfl | rfl | rfl;exact k _ h8;exact k _ h9;exact k _ h0⟩
noncomputable def fM(r:Rw)(RJ:Int):Bool:=decide (RJ∈bZ (pA r) (kT r))||decide (some RJ=c8 (pA r) (kT r))
noncomputable def HM.jL(h:HM)(r:Rw)(t:kS):Option Str :=
 if t.jS≠kS.jS (r.wrote h.st.aQ h.st.cells).told then some "thing" else
 match t with
 | none=>none
 | some (k,_,none)=>if uU r=false then some "owed" else if h.room<=h.bp.length then some "room" else if k = "cell"/\h.queue<=h.laid.length then some "room" else none
 | some (k,_,some v)=>if(r.wrote h.st.aQ h.st.cells).map (·.2.2)≠some v then some "worth" else if k = "cell"/\h.queue<=h.laid.length then some "room" else none
noncomputable def HM.j1(h:HM)(b pl:Int)(t:kS):Option Str :=
 if h.st.place=h.rows.length then some "rest" else if pl≠h.st.place then some "place" else if h.width<=h.endsAt b then some "crowd" else if h.aZ b=true/\h.eS<=h.aW then some "bell"
 else if h.bp.any (fun o=>fM h.row o.2.1)=true then some "ahead" else h.jL h.row t
noncomputable def HM.lO(h:HM)(n v:Int):Option Str:=match h.bp.filter fun o=>decide (o.1=n) with
 | []=>some "stray"
 | o::_=>if o.2.2.1=v then none else some "worth"
noncomputable def HM.lQ(h:HM)(n c v:Int):Option Str:=match h.laid with
 | []=>some "stray"
 | l::_=>if l.1≠n then some "stray" else if l.2.1≠c then some "thing" else if l.2.2=v then none else some "worth"
noncomputable def HM.iS(h:HM)(b k:Int):Option Str:=if k ∉ h.df b then some "stray" else if h.st.cK=true then some "shut" else if(h.df b).head?=some k then none else some "order"
noncomputable def HM.bB(h:HM)(e:Ev):Option Str :=
 if e.aD < h.aD then some "beat" else if h.bp.any (fun o=>decide (o.2.2.2+h.longest < e.aD))=true then some "overdue" else
 match e with
 | .fin b pl t=>h.j1 b pl t
 | .gL _ n v=>h.lO n v
 | .down _ n c v=>h.lQ n c v
 | .gx b k=>h.iS b k
noncomputable def HM.eV(h:HM)(b:Int)(t:kS)(w:vH):HM:=match t,w with
 | some (_,_,none),some (_,x,v)=>{ h with bp:=h.bp++[(h.ends,x,v,b)] }
 | some (k,_,some _),some (_,x,v)=>if k = "cell" then{ h with laid:=h.laid++[(h.ends,x,v)] }else h
 | _,_=>h
noncomputable def HM.iY(h:HM)(b:Int)(t:kS):HM :=
 let h2:HM:=({ h with aW:=if h.aZ b=true then h.aW+1 else 0 }:HM).eV b t (h.row.wrote h.st.aQ h.st.cells)
 { h2 with st:=eG h.row h.st,ends:=h2.ends+1,gm:=h2.gm+1 }
noncomputable def HM.xG(h:HM)(k:Int):HM:={ h with st:=zt h.bQ k h.st,taken:=h.taken++[k],aW:=0 }
noncomputable def HM.cB(h:HM)(e:Ev):HM :=
 let h1:HM:={ h with gm:=h.endsAt e.aD }
 let h2:HM:=match e with
  | .fin b _ t=>h1.iY b t
  | .gL _ n _=>{ h1 with bp:=h1.bp.filter fun o=>decide (o.1≠n) }
  | .down _ _ _ _=>{ h1 with laid:=h1.laid.drop 1 }
  | .gx _ k=>h1.xG k
 { h2 with aD:=e.aD,events:=h2.events+1 }
noncomputable def HM.tell(h:HM)(e:Ev):HM:=match h.bB e with
 | some x=>{ h with cause:=some x }
 | none=>h.cB e
abbrev Et:Stmt:=top 15
abbrev xH:Stmt:=top 13
abbrev Eu:Stmt:=top 23
abbrev Ew:Stmt:=top 24
abbrev xI:Stmt:=top 31
theorem NL:aB ["row"] ["row"] (defScope Et):=by ac_rfl
theorem nq:aB ["row", "spots", "part", "number"] ["row"] (defScope xH):=by ac_rfl
theorem NM:aB ["rings", "beat"] ["rings", "beat"] (defScope Eu):=by ac_rfl
theorem Ex:aB ["rings", "taken", "beat", "rung"] ["rings", "taken", "beat"] (defScope Ew):=by ac_rfl
theorem HS:aB ["wrote"] ["wrote"] (defScope xI):=by ac_rfl
section
variable {K:zn}
theorem HU(F:cM K "is_slow" "is_slow" Et f fd)(iT:mg "SLOW_WORDS"=some (.ref aS))(r9:∀ H,fN K H aS [.str "mul",.str "take"]):ba P w K mg base cU 1 f fd ["row"] (eZ Er):=by
 exact_mod_cast F.sS NL (by nofun);refine⟨_,(ai (ax (P6 (iQ hu) (ao (ah 0) ae) (Q3 iT r9)))),?_⟩;push_cast;rintro ds R ⟨r,n,rfl,ok,q⟩;have two:∀{W:Wd} {Q:DK} {x:Str},Q (.im (.bool (decide (x∈[("mul":Str), "take"])))) W->ug false (.im (.str x)) (.cst [V.str "mul",V.str "take"]) W Q:=fun{W Q x} h=>kQ (neg:=false) (xs:=["mul", "take"]) rfl h;cases r with
 | put d v =>
  dsimp only[c7];array_get_dec;exact two q
 | op x d a b =>
  dsimp only[c7];rcases ok.1 with rfl | rfl | rfl
  all_goals
   array_get_dec
   exact two q
 | mv x d a n =>
  dsimp only[c7];rcases ok.1 with rfl | rfl
  all_goals
   array_get_dec
   exact two q
 | go b p =>
  dsimp only[c7];array_get_dec;exact two q
 | one x =>
  dsimp only[c7];rcases ok with rfl | rfl | rfl
  all_goals
   array_get_dec
   exact two q
theorem Ey{aP:Addr}(F:cM K "spots_read" "spots_read" xH f fd)(jK:mg "PARTS"=some (.ref aP))(hP:ModT K w aP lM)(qj:mg "zip"=none):ba P w K mg base cU 1 f fd ["row"] (eZ xC):=by
 exact_mod_cast F.sS nq (by nofun);refine⟨_,(af (aF 1 nq.nd (bo ag))
  (af (kD (Jf .T .T qj (aa (Rm jK hP (ao (ah 0) ae)) (aa (j3 nR (ah 0) (eM ae) fe) ag))) (jl (n:=2) (bU (bf 2 nq.nd) (bU (bf 3 nq.nd) jd))) (ai (aO (gN (w_and (pf (iQ hu) (ah 2) (aX (bV rfl))) (bx (pf (lG hu) (ah 3) (ah 1))))) (ai (dO (jN aaJ aaS aaT cY (ah 1) (aa (ah 3) ag)))) av)))
  (ai (ax (ah 1))))),?_⟩
 push_cast;rintro ds R ⟨x,ps,ns,rfl,hx,q⟩;refine cj [_,none,none,none] rfl ?_;have Dy:ps.length<=3:=(show ∀ y∈cf,y.2.length<=3 by decide +kernel) _ (lookup_mem hx)
 rfl'
 refine gH (aaK _) fun l W0 hl wl fl=>?_
 rfl'
 refine ar ?_
 rfl'
 refine bC (D:=.str x) (bY (j:=0) rfl) ?_;refine⟨x,_,rfl,by unfold lM;rw[hx];rfl,?_⟩
 rfl'
 refine Eh ?_
 rfl'
 have fl:(ps.map V.str).all eE=true:=by rw[List.all_map];exact abm.mpr fun _ _=>rfl
 refine JN (ds:=ps.map .str) (es:=ns.map .int) (by show kG (.cst _)=_;simp only[kG,fl,acu,acG];rfl) rfl ?_;refine y9 (fun i ρ W=>∃ u v,ρ=[some (.im (.tuple (.str x::ns.map .int))),some (.pt l),u,v]/\W l=some (.lst (((bZ (ps.take i) (ns.take i)).map PyData.int).map .im))/\(bZ (ps.take i) (ns.take i)).length<=i) ⟨_,_,rfl,wl,aao _⟩ (fun _ _ _ _=>⟨trivial,trivial⟩) ?_ ?_
 ·rintro i a d ρ W ha hd ⟨u,v,rfl,wl,RA⟩;rw[aap]at ha hd;obtain⟨pz,RF,rfl⟩:=aaw.mp ha;obtain⟨nz,Tb,rfl⟩:=aaw.mp hd;have hz:(ps.zip ns)[i]?=some (pz,nz):=abi.mpr ⟨RF,Tb⟩;have es:=rZ RF Tb
  rfl'
  refine aA (ds:=[.str "a",.str "b"]) (by show 2<=sizeLine;decide) (kQ (neg:=false) (xs:=["a", "b"]) rfl ?_)
  rfl'
  by_cases FO:pz∈[("a":Str), "b"]
  ·have NN:pz=("a":Str)\/pz=("b":Str):=by simpa using FO
   refine ph FO ?_
   rfl'
   refine jq (neg:=true) (RB wl) ?_
   rfl'
   by_cases wL:nz∈bZ (ps.take i) (ns.take i)
   ·rw[aaA (fun z=>z.2 wL)]at es;rw[aaE rfl,aa6 wL]
    rfl'
    exact⟨_,_,rfl,by rw[es];exact wl,by rw[es];omega⟩
   ·rw[aaE ⟨NN,wL⟩]at es;rw[aaE rfl,aat wL]
    rfl'
    have Vl:=(aas.mp RF).1;refine dD wl (by rw[aak,aak];exact cm (by omega)) fun W3 w3 f3=>?_;exact⟨_,_,rfl,by rw[es,w3];simp,by rw[es,aaQ];simp;omega⟩
  ·have NN:¬ (pz=("a":Str)\/pz=("b":Str)):=by simpa using FO
   rw[aaA (fun z=>NN z.1)]at es;refine j5 FO ?_
   rfl'
   exact⟨_,_,rfl,by rw[es];exact wl,by rw[es];omega⟩
 ·rintro ρ W ⟨u,v,rfl,wl,_⟩
  rfl'
  rw[aak,aak,uS]at wl;exact oo wl q
theorem HV(F:cM K "bells_rung" "bells_rung" Eu f fd):ba P w K mg base cU 1 f fd ["rings", "beat"] (eZ J8):=by
 exact_mod_cast F.sS NM (by nofun);refine⟨_,(ai (ax (eU (N':=["rung", "k", "beat"]) (ix:=[none,none,some 1]) ⟨rfl,rfl,rfl,rfl,rfl,rfl⟩ (eJ (ah 0)) (fun _ _ _ _=>(jl (n:=2) (bU (bf 0 (show List.Nodup (["rung", "k", "beat"]:wv) by decide +kernel)) (bU (bf 1 (show List.Nodup (["rung", "k", "beat"]:wv) by decide +kernel)) jd)))) (fun _ _ _ _=>(gB (ay BY (ah 0) (ah 2)))) (fun _ _ _ _=>(ah 1))))),?_⟩;push_cast;rintro ds R ⟨rs,aD,rfl,hl,q⟩
 rfl'
 refine rG (fun i ys W=>ys=((eY (rs.take i) aD).map PyData.int).map .im) (by rw[aak];exact aaH (cm (by omega))) rfl ?_ ?_
 ·rintro i d ys W hd _ rfl;rw[aap]at hd;obtain⟨r,hr,rfl⟩:=aaw.mp hd;have et:rs.take (i+1)=rs.take i++[r]:=by rw[aaM,hr];rfl
  unfold pairD
  rfl'
  rw[et];unfold eY;rw[aa4];refine dA (fun h=>?_) (fun h=>?_)
  ·rfl'
   simp[show r.1<=aD from h]
  ·rfl'
   simp[show ¬ r.1<=aD from h]
 ·rintro ys W rfl;rw[aak,aa2];refine kK fun p W1 hp wp fp=>?_;exact oo wp q
theorem HW{fR:Addr}{VL:wT}(F:cM K "bells_waiting" "bells_waiting" Ew f fd)(uV:Dn P w K mg base 1 "bells_rung" fR VL ["rings", "beat"] (eZ J8))(oN:mg "sorted"=none)(Ez:mg "set"=none):ba P w K mg base cU 2 f fd ["rings", "taken", "beat"] (eZ Ep):=by
 exact_mod_cast F.sS Ex (by nofun);refine⟨_,(af (aF 3 Ex.nd (aq uV hr (aa (ah 0) (aa (ah 2) ag))))
  (ai (ax (eU (N':=["k", "rung", "taken"]) (ix:=[none,some 3,some 1]) ⟨rfl,rfl,rfl,rfl,rfl,rfl⟩ (eJ (AY rfl oN Ez (ah 3))) (fun _ _ _ _=>(bf 0 (show List.Nodup (["k", "rung", "taken"]:wv) by decide +kernel))) (fun _ _ _ _=>(gB (ay yq (jN aaJ PySem.F.slot_list_count PySem.F.type_list_count uI (ah 1) (aa (ah 0) ag)) (jN aaJ PySem.F.slot_list_count PySem.F.type_list_count uI (ah 2) (aa (ah 0) ag))))) (fun _ _ _ _=>(ah 0)))))),?_⟩
 push_cast;rintro ds R ⟨rs,tk,aD,rfl,hl,q⟩;refine cj [_,_,_,none] rfl ?_;have VQ:=A4 rs aD
 rfl'
 refine bh (ds:=[.list (rs.map pairD),.int aD]) ⟨rs,aD,rfl,hl,za ?_⟩
 rfl'
 refine⟨eY rs aD,r6,by omega,fun ns hp hm=>?_⟩;rw[show(ns.map fun i=>DV.im (.int i))=(ns.map PyData.int).map .im by rw[acG];rfl];refine dB ?_
 rfl'
 have hnl:ns.length<=rs.length:=by
  exact aaq (qk (hp.imp fun h=>Int.ne_of_lt h) fun k hk=>(hm k).mp hk) VQ
 refine rG (fun i ys W=>ys=((((ns.take i).filter fun k=>decide (tk.count k < (eY rs aD).count k))).map PyData.int).map .im) (by rw[aak];exact aaH (cm (by omega))) rfl ?_ ?_
 ·rintro i d ys W hd _ rfl;rw[aap]at hd;obtain⟨k,hk,rfl⟩:=aaw.mp hd;have et:ns.take (i+1)=ns.take i++[k]:=by rw[aaM,hk];rfl
  rfl'
  refine⟨ty_list,?_⟩
  rfl'
  refine⟨_,k,rfl,r6,?_⟩
  rfl'
  refine⟨ty_list,?_⟩
  rfl'
  refine⟨_,k,rfl,r6,?_⟩
  rfl'
  rw[et,aa4];refine dA (fun h=>?_) (fun h=>?_)
  ·rfl'
   have h':tk.count k < (eY rs aD).count k:=by omega
   simp[h']
  ·rfl'
   have h':¬ tk.count k < (eY rs aD).count k:=by omega
   simp[h']
 ·rintro ys W rfl;rw[aak,aa2];refine kK fun p W1 RH wp fp=>?_;refine oo wp (q _ (hp.sublist (acS ..)) fun k=>?_);unfold zA;rw[abg,abg,hm]
theorem EA(F:cM K "thing_of" "thing_of" xI f fd):ba P w K mg base cU 1 f fd ["wrote"] (eZ xF):=by
 exact_mod_cast F.sS HS (by nofun);refine⟨_,(ai (ax (qW (fV (ah 0)) cS (aX (aa (ao (ah 0) ae) (aa (ao (ah 0) ae) ag)))))),?_⟩;push_cast;rintro ds R ⟨t,rfl,q⟩;rcases t with _ | ⟨k,x,v⟩<;>dsimp only[cP]
 ·sizeOf_list_dec
  exact q
 ·sizeOf_list_dec
  exact aA (ds:=[.str k,.int x]) (by show 2<=sizeLine;decide) q
end
structure eC(h:HM):Prop where
 iU:rQ h.rows h.bQ
 st:jY h.rows.length h.st
 rl:h.rings.length<=60
 rb:∀ r∈h.rings,0<=r.2/\r.2 < h.bQ.length
 tk:h.taken.length<=5000
 ow:h.bp.length<=5000
 la:h.laid.length<=5000
theorem zB:∀{l m:wn},l.Pairwise (· < ·)->m.Pairwise (· < ·)->(∀ k,k∈l↔k∈m)->l=m
 | [],[],_,_,_=>rfl
 | [],y::m,_,_,h=>by have:=(h y).mpr (aaF ..);cases this
 | x::l,[],_,_,h=>by have:=(h x).mp (aaF ..);cases this
 | x::l,y::m,hl,hm,h=>by
  obtain⟨l1,l2⟩:=acy.mp hl;obtain⟨m1,m2⟩:=acy.mp hm;have e:x=y:=by
   rcases aan.mp ((h x).mp (aaF ..))with e | e
   ·exact e
   rcases aan.mp ((h y).mpr (aaF ..))with e' | e'
   ·exact e'.symm
   have a1:=m1 x e;have a2:=l1 y e';omega
  subst e;rw[zB l2 m2 fun k=>⟨fun hk=>(aan.mp ((h k).mp (aax _ hk))).resolve_left fun z=>by have:=l1 k hk;omega,fun hk=>(aan.mp ((h k).mpr (aax _ hk))).resolve_left fun z=>by have:=m1 k hk;omega⟩]
theorem EB{rs:ut}{tk:wn}{aD:Int}(rb:∀ r∈rs,0<=r.2/\r.2 < 4)(hp:ns.Pairwise (· < ·))(hm:∀ k,k∈ns↔k∈zA rs tk aD):ns=r8 rs tk aD:=by
 refine zB hp (List.Pairwise.sublist (acS ..) (by decide)) fun k=>?_;rw[hm];unfold zA r8;rw[abg,abg];refine⟨fun⟨h1,h2⟩=>⟨?_,h2⟩,fun⟨_,h2⟩=>⟨?_,h2⟩⟩
 ·unfold eY at h1;obtain⟨r,hr,rfl⟩:=aa8.mp h1;have:=rb r (abg.mp hr).1;have:r.2=0\/r.2=1\/r.2=2\/r.2=3:=by omega
  simpa using this
 ·have h3:=of_decide_eq_true h2;exact List.count_pos_iff.mp (by omega)
noncomputable def EC(kH:Addr):kN:=fun aK W R _=>∃ a h,aK=[.pt a.p]/\At W (eR kH a h)/\eC h/\h.st.place < h.rows.length/\∀ W',At W' (eR kH a h)->R (.im (c7 h.row)) W'
noncomputable def nr(kH:Addr):kN:=fun aK W R _=>∃ a h aD,aK=[.pt a.p,.im (.int aD)]/\At W (eR kH a h)/\eC h/\∀ W',At W' (eR kH a h)->R (.im (.list ((h.df aD).map .int))) W'
noncomputable def kW(kH:Addr):kN:=fun aK W R _=>∃ a h aD,aK=[.pt a.p,.im (.int aD)]/\At W (eR kH a h)/\eC h/\∀ W',At W' (eR kH a h)->R (.im (.bool (h.aZ aD))) W'
noncomputable def nu(kH:Addr):kN:=fun aK W R _=>∃ a h aD,aK=[.pt a.p,.im (.int aD)]/\At W (eR kH a h)/\∀ W',At W' (eR kH a h)->R (.im (.int (h.endsAt aD))) W'
noncomputable def sd(kH:Addr):kN:=fun aK W R _=>∃ a h,aK=[.pt a.p]/\At W (eR kH a h)/\∀ W',At W' (eR kH a h)->R (.im (uM (h.cause.map fun x=>(h.events,x)))) W'
abbrev ED:Stmt:=(met 33 8)
abbrev se:Stmt:=(met 33 9)
abbrev oO:Stmt:=(met 33 10)
abbrev sf:Stmt:=(met 33 11)
abbrev sg:Stmt:=(met 33 20)
theorem NO:aB ["self"] ["self"] (defScope ED):=by ac_rfl
theorem EE:aB ["self", "beat"] ["self", "beat"] (defScope se):=by ac_rfl
theorem A5:aB ["self", "beat"] ["self", "beat"] (defScope oO):=by ac_rfl
theorem EF:aB ["self", "beat"] ["self", "beat"] (defScope sf):=by ac_rfl
theorem EG:aB ["self"] ["self"] (defScope sg):=by ac_rfl
section
variable {K:zn}
theorem HX(F:cM K "row_now" "Holder.row_now" ED f fd)(cN:gk K kH bL):ba P w K mg base cU 1 f fd ["self"] (fv K (EC kH)):=by
 exact_mod_cast F.vG NO (fun aK W R X zz=>by obtain⟨a,b,e,_⟩:=zz; rw[e];rfl);refine⟨_,(ai (ax (ao (ao (bA (ah 0)) ae) (ao (bA (ah 0)) ae)))),?_⟩;norm_cast;rintro aK R ⟨a,h,rfl,hA,ok,hp,qq⟩
 sizeOf_list_dec
 exact bC (dQ ok.iU ok.st.p0 hp).1 (qq W hA)
theorem A6{fB:Addr}{fdB:wT}(F:cM K "waiting_by" "Holder.waiting_by" se f fd)(cN:gk K kH bL)(oP:Dn P w K mg base 2 "bells_waiting" fB fdB ["rings", "taken", "beat"] (eZ Ep)):ba P w K mg base cU 3 f fd ["self", "beat"] (fv K (nr kH)):=by
 exact_mod_cast F.vG EE (fun aK W R X zz=>by obtain⟨a,b,c,e,_⟩:=zz; rw[e];rfl);refine⟨_,(ai (ax (aq oP hr (aa (bA (ah 0)) (aa (bA (ah 0)) (aa (ah 1) ag)))))),?_⟩;norm_cast;rintro aK R ⟨a,h,aD,rfl,hA,ok,qq⟩
 sizeOf_list_dec
 refine Hi (ds:=[.list (h.rings.map pairD),.list (h.taken.map .int),.int aD]) (xD dE (xD (ij (NK hA)) (xD dE rfl))) ⟨h.rings,h.taken,aD,rfl,ok.rl,fun ns hp hm=>⟨oM ns,za ?_⟩⟩;rw[EB (fun r hr=>⟨(ok.rb r hr).1,by have:=(ok.rb r hr).2;have:=ok.iU.b1;omega⟩) hp hm];exact qq W hA
theorem xJ{fW:Addr}(F:cM K "is_pressed" "Holder.is_pressed" oO f fd)(cN:gk K kH bL)(ju:jm P w K mg base 3 kH "waiting_by" fW RG ["self", "beat"] (fv K (nr kH)))(bj:mg "len"=none):ba P w K mg base cU 4 f fd ["self", "beat"] (fv K (kW kH)):=by
 exact_mod_cast F.vG A5 (fun aK W R X zz=>by obtain⟨a,b,c,e,_⟩:=zz; rw[e];rfl);refine⟨_,(ai (ax (tZ (Jh (ao (bA (ah 0)) ae)) (tY (gA yq (bJ bq bj aaU (aa (eO ju hr (ah 0) (aa (ah 1) ag)) ag)) ae))))),?_⟩;norm_cast;rintro aK R ⟨a,h,aD,rfl,hA,ok,qq⟩;unfold HM.aZ at qq
 sizeOf_list_dec
 cases e:h.st.cK with
 | true =>
  rw[e]at qq;exact qq W hA
 | false =>
  rw[e]at qq
  sizeOf_list_dec
  refine cA hA aU fun W1 R' h1 g=>⟨a,h,aD,rfl,h1,ok,fun W' h'=>g _ _ fun W2 t fr=>?_⟩;have fw:=t _ h' aU
  sizeOf_list_dec
  have q:=qq W2 fw;simp only[Bool.not_false,Bool.true_and]at q;rw[aak,show decide ((0:Int) < ((h.df aD).length:Int))=decide (0 < (h.df aD).length) by simp only[Int.natCast_pos]];exact q
theorem A7(F:cM K "ends_at" "Holder.ends_at" sf f fd)(cN:gk K kH bL):ba P w K mg base cU 1 f fd ["self", "beat"] (fv K (nu kH)):=by
 exact_mod_cast F.vG EF (fun aK W R X zz=>by obtain⟨a,b,c,e,_⟩:=zz; rw[e];rfl);refine⟨_,(ai (ax (qW (ay (aG hu) (ah 1) (bA (ah 0))) (bA (ah 0)) ae))),?_⟩;norm_cast;rintro aK R ⟨a,h,aD,rfl,hA,qq⟩;have q:=qq W hA;unfold HM.endsAt at q
 sizeOf_list_dec
 refine dA (fun e=>?_) (fun e=>?_)
 ·rw[aaE e]at q
  sizeOf_list_dec
  exact q
 ·rw[aaA e]at q
  sizeOf_list_dec
  exact q
theorem A8(F:cM K "parted" "Holder.parted" sg f fd)(cN:gk K kH bL):ba P w K mg base cU 1 f fd ["self"] (fv K (sd kH)):=by
 exact_mod_cast F.vG EG (fun aK W R X zz=>by obtain⟨a,b,e,_⟩:=zz; rw[e];rfl);refine⟨_,(ai (ax (qW (fV (bA (ah 0))) cS (aX (aa (bA (ah 0)) (aa (bA (ah 0)) ag)))))),?_⟩;norm_cast;rintro aK R ⟨a,h,rfl,hA,qq⟩;have q:=qq W hA
 sizeOf_list_dec
 cases e:h.cause with
 | none =>
  rw[e]at q
  sizeOf_list_dec
  exact q
 | some x =>
  rw[e]at q
  sizeOf_list_dec
  rw[e];exact aA (ds:=[.int h.events,.str x]) (by show 2<=sizeLine;decide) q
end
def jv(a:Option (Str×Int)):Prop:=∀ k x,a=some (k,x)->k = "spot"\/k = "cell"
noncomputable def oQ(kH:Addr):kN:=fun aK W R _=>∃ a h t,aK=[.pt a.p,.im (c7 h.row),.im (cP t)]/\At W (eR kH a h)/\eC h/\h.st.place < h.rows.length/\jv t.jS/\∀ W',At W' (eR kH a h)->R (.im (mH (h.jL h.row t))) W'
noncomputable def si(kH:Addr):kN:=fun aK W R _=>∃ a h b n v,aK=[.pt a.p,.im (fm (.gL b n v))]/\At W (eR kH a h)/\eC h/\∀ W',At W' (eR kH a h)->R (.im (mH (h.lO n v))) W'
noncomputable def sj(kH:Addr):kN:=fun aK W R _=>∃ a h b n c v,aK=[.pt a.p,.im (fm (.down b n c v))]/\At W (eR kH a h)/\eC h/\∀ W',At W' (eR kH a h)->R (.im (mH (h.lQ n c v))) W'
noncomputable def sk(kH:Addr):kN:=fun aK W R _=>∃ a h b k,aK=[.pt a.p,.im (fm (.gx b k))]/\At W (eR kH a h)/\eC h/\∀ W',At W' (eR kH a h)->R (.im (mH (h.iS b k))) W'
abbrev oR:Stmt:=(met 33 4)
abbrev sq:Stmt:=(met 33 5)
abbrev sr:Stmt:=(met 33 6)
abbrev su:Stmt:=(met 33 7)
theorem lR:aB ["self", "row", "wrote", "right", "is_owed"] ["self", "row", "wrote"] (defScope oR):=by ac_rfl
theorem uW:aB ["self", "event", "found"] ["self", "event"] (defScope sq):=by ac_rfl
theorem EH:aB ["self", "event"] ["self", "event"] (defScope sr):=by ac_rfl
theorem uX:aB ["self", "event", "waiting"] ["self", "event"] (defScope su):=by ac_rfl
section
variable {K:zn}
theorem sv:gF W (.im (.list ds))=some ds:=jF (fun _=>by rfl) ds
theorem HY:∀ a b:Option (Str×Int),PyData.eqv (uT a) (uT b)=decide (a=b)
 | none,none=>rfl
 | none,some _=>rfl
 | some _,none=>rfl
 | some (k,n),some (k',n')=>by
  show(PyData.eqv (.str k) (.str k')&&(PyData.eqv (.int n) (.int n')&&true))=_;rw[kI,rE]
  by_cases h1:k=k'<;>by_cases h2:n=n'<;>simp[h1,h2]
theorem zC{a:Option (Str×Int)}(h:jv a):(uT a).canLay0=true:=by
 rcases a with _ | ⟨k,x⟩
 ·rfl
 ·rcases h k x rfl with rfl | rfl<;>(simp only[uT,PyData.canLay0,PyData.canLayAll0,Bool.and_true];decide +kernel)
theorem Ka{a b:Option (Str×Int)}(ha:jv a)(hb:jv b)(h:Q (.im (.bool (!decide (a=b)))) W):AF (.im (uT a)) (.im (uT b)) W Q :=
 JL dE dE (.inr ⟨zC ha,zC hb,aaq (Nat.min_le_left ..) (by rcases a with _ | ⟨x,y⟩<;>simp[uT,PyData.depth,PyData.depthAll])⟩) (by rw[HY];exact h)
theorem sx{t:vH}(h:zu t):jv t.told.jS:=by
 rintro k x e;rcases t with _ | ⟨k',x',v⟩
 ·cases e
 ·cases e;rcases h.1 with⟨z,_⟩ | ⟨z,_⟩
  ·exact .inl z
  ·exact .inr z
theorem xK(F:cM K "broken_by_wrote" "Holder.broken_by_wrote" oR f fd)(cN:gk K kH bL)(EI:Dn P w K mg base 4 "step" f1 d1 ["mill", "state"] (j9 (eZ (SStep aR))))(ql:Dn P w K mg base 1 "thing_of" f2 d2 ["wrote"] (eZ xF))(EJ:Dn P w K mg base 1 "is_slow" f3 d3 ["row"] (eZ Er))(bj:mg "len"=none):ba P w K mg base cU 5 f fd ["self", "row", "wrote"] (fv K (oQ kH)):=by
 exact_mod_cast F.vG lR (fun aK W R X zz=>by obtain⟨a,b,c,e,_⟩:=zz; rw[e];rfl);refine⟨_,(af (aF 3 lR.nd (ao (ao (aq EI hr (aa (bA (ah 0)) (aa (bA (ah 0)) ag))) ae) ae))
  (af (aO (ay (bD hu) (aq ql hr (aa (ah 2) ag)) (aq ql hr (aa (ah 3) ag))) (ai (ax aj)) av)
  (af (aO (fV (ah 2)) (ai (ax cS)) av)
  (af (aF 4 lR.nd (yI (ao (ah 2) ae)))
  (af (aO (gN (w_and (nW (ah 4)) (bx (jX (nW (aq EJ hr (aa (ah 1) ag))))))) (ai (ax aj)) av)
  (af (aO (gN (w_and (jX (nW (ah 4))) (bx (ay (bD hu) (ao (ah 2) ae) (ao (ah 3) ae))))) (ai (ax aj)) av)
  (af (aO (gN (w_and (nW (ah 4)) (bx (ay i9 (bJ bq bj aaU (aa (bA (ah 0)) ag)) (bA (ah 0)))))) (ai (ax aj)) av)
  (af (aO (gN (w_and (ay (aG hu) (ao (ah 2) ae) aj) (bx (ay i9 (bJ bq bj aaU (aa (bA (ah 0)) ag)) (bA (ah 0)))))) (ai (ax aj)) av)
  (ai (ax cS)))))))))),?_⟩
 norm_cast;rintro aK R ⟨a,h,t,rfl,hA,ok,hp,hT,qq⟩;have q:=qq W hA;have wo:=px hA;have wl:=HQ hA;have ro:=(dQ ok.iU ok.st.p0 hp).2;unfold HM.jL at q
 sizeOf_list_dec
 refine bh (ds:=[bO h.rows h.bQ,i6 h.st]) ⟨h.rows,h.bQ,h.st,rfl,ok.iU,ok.st,fun _=>cG ?_,fun z=>by omega⟩
 sizeOf_list_dec
 refine ar ?_
 sizeOf_list_dec
 refine bh (ds:=[cP t]) ⟨t,rfl,cG ?_⟩
 sizeOf_list_dec
 refine bh (ds:=[fk (h.row.wrote h.st.aQ h.st.cells)]) ⟨_,by rw[xE],cG ?_⟩
 sizeOf_list_dec
 refine Ka hT (sx (fZ ro ok.st.sw ok.st.cw)) ?_
 sizeOf_list_dec
 refine og (fun e=>?_) (fun e=>?_)
 ·rw[aaE e]at q
  sizeOf_list_dec
  exact q
 rw[aaA (fun z=>z e)]at q
 sizeOf_list_dec
 refine ar ?_
 sizeOf_list_dec
 rcases t with _ | ⟨k,x,v⟩
 ·sizeOf_list_dec
  exact q
 obtain⟨v',ew⟩:∃ v',h.row.wrote h.st.aQ h.st.cells=some (k,x,v'):=by
  cases ew:h.row.wrote h.st.aQ h.st.cells with
  | none=>rw[ew]at e;cases e
  | some y=>obtain⟨k',x',v'⟩:=y;rw[ew]at e;cases e;exact⟨v',rfl⟩
 rw[ew]at q;rw[ew];have ro':iG h.rows.length h.row:=ro;dsimp only[cP]
 sizeOf_list_dec
 cases v with
 | none =>
  dsimp only at q
  sizeOf_list_dec
  refine ar ?_
  sizeOf_list_dec
  refine bh (ds:=[c7 h.row]) ⟨h.row,_,rfl,ro',cG ?_⟩
  sizeOf_list_dec
  cases es:uU h.row with
  | false =>
   rw[es,aaE rfl]at q
   sizeOf_list_dec
   exact q
  | true =>
   rw[es,aaA (by decide)]at q
   sizeOf_list_dec
   refine ar ?_
   sizeOf_list_dec
   refine ar ?_
   sizeOf_list_dec
   rw[aak,aak];refine dA (fun e=>?_) (fun e=>?_)
   ·rw[aaE e]at q
    sizeOf_list_dec
    exact q
   rw[aaA e]at q
   sizeOf_list_dec
   refine ar ?_
   sizeOf_list_dec
   by_cases ek:k = "cell"
   ·refine ph ek ?_
    sizeOf_list_dec
    rw[aak,aak];refine dA (fun e=>?_) (fun e=>?_)
    ·rw[aaE ⟨ek,e⟩]at q
     sizeOf_list_dec
     exact q
    ·rw[aaA (fun z=>e z.2)]at q
     sizeOf_list_dec
     exact q
   ·refine j5 ek ?_;rw[aaA (fun z=>ek z.1)]at q
    sizeOf_list_dec
    exact q
 | some v =>
  dsimp only at q
  sizeOf_list_dec
  refine ar ?_
  sizeOf_list_dec
  refine ar ?_
  sizeOf_list_dec
  dsimp only[mE]
  sizeOf_list_dec
  refine og (fun e=>?_) (fun e=>?_)
  ·rw[aaE (show Option.map (fun x:Str×Int×Int=>x.2.2) (some (k,x,v'))≠some v from fun z=>e (aaV z).symm)]at q
   sizeOf_list_dec
   exact q
  rw[aaA (fun z=>z (by rw[e];rfl))]at q
  sizeOf_list_dec
  refine ar ?_
  sizeOf_list_dec
  refine ar ?_
  sizeOf_list_dec
  by_cases ek:k = "cell"
  ·refine ph ek ?_
   sizeOf_list_dec
   rw[aak,aak];refine dA (fun e=>?_) (fun e=>?_)
   ·rw[aaE ⟨ek,e⟩]at q
    sizeOf_list_dec
    exact q
   ·rw[aaA (fun z=>e z.2)]at q
    sizeOf_list_dec
    exact q
  ·refine j5 ek ?_;rw[aaA (fun z=>ek z.1)]at q
   sizeOf_list_dec
   exact q
theorem A9(F:cM K "broken_by_late" "Holder.broken_by_late" sq f fd)(cN:gk K kH bL)(bj:mg "len"=none):ba P w K mg base cU 1 f fd ["self", "event"] (fv K (si kH)):=by
 exact_mod_cast F.vG uW (fun aK W R X zz=>by obtain⟨a,b,c,d,g,e,_⟩:=zz; rw[e];rfl);refine⟨_,(af (wF 2 (N':=["n", "spot", "worth", "told", "event"]) (ix:=[none,none,none,none,some 1]) ⟨rfl,rfl,rfl,rfl,rfl,rfl⟩ uW.nd (eJ (bA (ah 0))) (fun _ _ _ _=>(jl (n:=4) (bU (bf 0 (show List.Nodup (["n", "spot", "worth", "told", "event"]:wv) by decide +kernel)) (bU (bf 1 (show List.Nodup (["n", "spot", "worth", "told", "event"]:wv) by decide +kernel)) (bU (bf 2 (show List.Nodup (["n", "spot", "worth", "told", "event"]:wv) by decide +kernel)) (bU (bf 3 (show List.Nodup (["n", "spot", "worth", "told", "event"]:wv) by decide +kernel)) jd)))))) (fun _ _ _ _=>(gB (ay (aG hu) (ah 0) (ao (ah 4) ae)))) (fun _ _ _ _=>(ah 2)))
  (af (aO (ay (aG hu) (bJ bq bj aaU (aa (ah 2) ag)) ae) (ai (ax aj)) av)
  (ai (ax (qW (ay (aG hu) (ao (ah 2) ae) (ao (ah 1) ae)) cS aj))))),?_⟩
 norm_cast;rintro aK R ⟨a,h,b,n,v,rfl,hA,ok,qq⟩;have q:=qq W hA;unfold HM.lO at q;dsimp only[fm]
 sizeOf_list_dec
 refine um (px hA) ?_;refine fi (fun i ys W'=>W'=W/\ys=((((h.bp.take i).filter fun o=>decide (o.1=n)).map fun o=>PyData.int o.2.2.1)).map .im) (by rw[aak];exact aaH (cm (by have:=ok.ow;omega))) ⟨rfl,rfl⟩ (by rintro i ys _ ⟨rfl,_⟩;exact px hA) ?_ ?_
 ·rintro i d ys _ hd _ ⟨rfl,rfl⟩;rw[aap]at hd;obtain⟨r,hr,rfl⟩:=aaw.mp hd;have et:h.bp.take (i+1)=h.bp.take i++[r]:=by rw[aaM,hr];rfl
  unfold cR
  sizeOf_list_dec
  rw[et,aa4];refine dA (fun e=>?_) (fun e=>?_)
  ·sizeOf_list_dec
   exact⟨rfl,by simp[show r.1=n from e]⟩
  ·exact⟨rfl,by simp[show ¬ r.1=n from e]⟩
 ·rintro ys _ ⟨rfl,rfl⟩;rw[aak,aa2];refine dB ?_
  sizeOf_list_dec
  refine ar ?_
  sizeOf_list_dec
  rw[aak];cases e:h.bp.filter fun o=>decide (o.1=n) with
  | nil =>
   rw[e]at q
   sizeOf_list_dec
   exact q
  | cons o r =>
   rw[e]at q;refine j5 (by rw[aaR];omega) ?_
   sizeOf_list_dec
   refine eW (D:=.int o.2.2.1) (bY (j:=0) rfl) ?_
   sizeOf_list_dec
   dsimp only at q;refine dA (fun e=>?_) (fun e=>?_)
   ·rw[aaE e]at q
    sizeOf_list_dec
    exact q
   ·rw[aaA e]at q
    sizeOf_list_dec
    exact q
theorem Ba(F:cM K "broken_by_down" "Holder.broken_by_down" sr f fd)(cN:gk K kH bL)(bj:mg "len"=none):ba P w K mg base cU 1 f fd ["self", "event"] (fv K (sj kH)):=by
 exact_mod_cast F.vG EH (fun aK W R X zz=>by obtain⟨a,b,c,d,g,i,e,_⟩:=zz; rw[e];rfl);refine⟨_,(af (aO (gN (w_or (ay (aG hu) (bJ bq bj aaU (aa (bA (ah 0)) ag)) ae) (jW (ay (bD hu) (ao (ao (bA (ah 0)) ae) ae) (ao (ah 1) ae))))) (ai (ax aj)) av)
  (af (aO (ay (bD hu) (ao (ao (bA (ah 0)) ae) ae) (ao (ah 1) ae)) (ai (ax aj)) av)
  (ai (ax (qW (ay (aG hu) (ao (ao (bA (ah 0)) ae) ae) (ao (ah 1) ae)) cS aj))))),?_⟩
 norm_cast;rintro aK R ⟨a,h,b,n,c,v,rfl,hA,ok,qq⟩;have q:=qq W hA;have wl:=HQ hA;unfold HM.lQ at q;dsimp only[fm];refine ar ?_
 sizeOf_list_dec
 rw[aak,aak];cases e:h.laid with
 | nil =>
  rw[e]at q
  sizeOf_list_dec
  exact q
 | cons l r =>
  rw[e]at q wl;refine j5 (by rw[aaR];omega) ?_;dsimp only at q
  sizeOf_list_dec
  refine eF (v:=.im (eI l)) wl (bY (j:=0) rfl) ?_
  sizeOf_list_dec
  refine og (fun e=>?_) (fun e=>?_)
  ·rw[aaE e]at q
   sizeOf_list_dec
   exact q
  rw[aaA (fun z=>z e)]at q
  sizeOf_list_dec
  refine ar ?_
  sizeOf_list_dec
  refine eF (v:=.im (eI l)) wl (bY (j:=0) rfl) ?_
  sizeOf_list_dec
  refine og (fun e=>?_) (fun e=>?_)
  ·rw[aaE e]at q
   sizeOf_list_dec
   exact q
  rw[aaA (fun z=>z e)]at q
  sizeOf_list_dec
  refine eF (v:=.im (eI l)) wl (bY (j:=0) rfl) ?_
  sizeOf_list_dec
  refine dA (fun e=>?_) (fun e=>?_)
  ·rw[aaE e]at q
   sizeOf_list_dec
   exact q
  ·rw[aaA e]at q
   sizeOf_list_dec
   exact q
theorem Bb(F:cM K "broken_by_bell" "Holder.broken_by_bell" su f fd)(cN:gk K kH bL)(ju:jm P w K mg base 3 kH "waiting_by" f1 d1 ["self", "beat"] (fv K (nr kH))):ba P w K mg base cU 4 f fd ["self", "event"] (fv K (sk kH)):=by
 exact_mod_cast F.vG uX (fun aK W R X zz=>by obtain⟨a,b,c,d,e,_⟩:=zz; rw[e];rfl);refine⟨_,(af (aF 2 uX.nd (eO ju hr (ah 0) (aa (ao (ah 1) ae) ag)))
  (af (aO (pf (lG hu) (ao (ah 1) ae) (ah 2)) (ai (ax aj)) av)
  (af (aO (nW (ao (bA (ah 0)) ae)) (ai (ax aj)) av)
  (ai (ax (qW (ay (aG hu) (ao (ah 2) ae) (ao (ah 1) ae)) cS aj)))))),?_⟩
 norm_cast;rintro aK R ⟨a,h,b,k,rfl,hA,ok,qq⟩;unfold HM.iS at qq;dsimp only[fm]
 sizeOf_list_dec
 refine cA hA aU fun W1 R' h1 g=>⟨a,h,b,rfl,h1,ok,fun W' h'=>g _ _ fun W2 t fr=>?_⟩;have fw:=t _ h' aU;have q:=qq W2 fw;clear fr t h' h1 g hA qq
 sizeOf_list_dec
 refine ar ?_
 sizeOf_list_dec
 refine jq (neg:=true) sv ?_
 sizeOf_list_dec
 by_cases e:k∈h.df b
 ·rw[aaA (fun z=>z e)]at q;rw[aaE rfl,aa6 e]
  sizeOf_list_dec
  refine ar ?_
  sizeOf_list_dec
  cases es:h.st.cK with
  | true =>
   rw[es,aaE rfl]at q
   sizeOf_list_dec
   exact q
  | false =>
   rw[es,aaA (by decide)]at q
   sizeOf_list_dec
   cases ew:h.df b with
   | nil=>rw[ew]at e;cases e
   | cons x r =>
    rw[ew]at q;refine eW (D:=.int x) (bY (j:=0) rfl) ?_
    sizeOf_list_dec
    rw[List.head?_cons]at q;refine dA (fun e=>?_) (fun e=>?_)
    ·rw[aaE (by rw[e])]at q
     sizeOf_list_dec
     exact q
    ·rw[aaA (fun z=>e (aaV z))]at q
     sizeOf_list_dec
     exact q
 ·rw[aaE e]at q;rw[aaE rfl,aat e]
  sizeOf_list_dec
  exact q
end
noncomputable def xM(kH:Addr):kN:=fun aK W R _=>∃ a h b pl t,aK=[.pt a.p,.im (fm (.fin b pl t))]/\At W (eR kH a h)/\eC h/\jv t.jS/\∀ W',At W' (eR kH a h)->R (.im (mH (h.j1 b pl t))) W'
noncomputable def jT:Ev->Prop
 | .fin _ _ t=>jv t.jS
 | _=>True
noncomputable def sy(kH:Addr):kN:=fun aK W R _=>∃ a h e,aK=[.pt a.p,.im (fm e)]/\At W (eR kH a h)/\eC h/\jT e/\∀ W',At W' (eR kH a h)->R (.im (mH (h.bB e))) W'
abbrev xN:Stmt:=(met 33 3)
abbrev sA:Stmt:=(met 33 2)
theorem sC:aB ["self", "event", "beat", "row"] ["self", "event"] (defScope xN):=by ac_rfl
theorem uY:aB ["self", "event", "beat"] ["self", "event"] (defScope sA):=by ac_rfl
section
variable {K:zn}
theorem HZ(x:Int)(o:v0):PyData.eqv (.int x) (mE o)=decide (some x=o):=by
 cases o with
 | none=>rfl
 | some y=>show(x == y)=_;by_cases e:x=y<;>simp[e]
theorem Ia{o:v0}(h:Q (.im (.bool (decide (some x=o)))) W):CW (.im (.int x)) (.im (mE o)) W Q:=by
 refine⟨_,_,dE,dE,.inr ⟨rfl,by cases o<;>rfl,by cases o<;>exact aaK _⟩,?_⟩;rw[HZ];exact h
theorem qm(bs:List Bool):ji ((bs.map PyData.bool).map .im)=some bs:=by rw[acG];exact wO bs
theorem EK{f7:Addr}{d7:wT}(F:cM K "broken_by_end" "Holder.broken_by_end" xN f fd)(cN:gk K kH bL)(xA:Dn P w K mg base 1 "rests" f1 d1 ["mill", "state"] (eZ rW))(oS:jm P w K mg base 1 kH "ends_at" f2 d2 ["self", "beat"] (fv K (nu kH)))(jw:jm P w K mg base 4 kH "is_pressed" f3 d3 ["self", "beat"] (fv K (kW kH)))(EL:jm P w K mg base 1 kH "row_now" f4 d4 ["self"] (fv K (EC kH)))(uZ:Dn P w K mg base 1 "spots_read" f5 d5 ["row"] (eZ xC))(ip:Dn P w K mg base 1 "spot_written" f6 d6 ["row"] (eZ zw))(lT:jm P w K mg base 5 kH "broken_by_wrote" f7 d7 ["self", "row", "wrote"] (fv K (oQ kH)))(mr:mg "any"=none):ba P w K mg base cU 6 f fd ["self", "event"] (fv K (xM kH)):=by
 exact_mod_cast F.vG sC (fun aK W R X zz=>by obtain⟨a,b,c,d,g,e,_⟩:=zz; rw[e];rfl);refine⟨_,(af (aF 2 sC.nd (ao (ah 1) ae))
  (af (aO (nW (aq xA hr (aa (bA (ah 0)) (aa (bA (ah 0)) ag)))) (ai (ax aj)) av)
  (af (aO (ay (bD hu) (ao (ah 1) ae) (ao (bA (ah 0)) ae)) (ai (ax aj)) av)
  (af (aO (ay i9 (eO oS hr (ah 0) (aa (ah 2) ag)) (bA (ah 0))) (ai (ax aj)) av)
  (af (aO (gN (w_and (nW (eO jw hr (ah 0) (aa (ah 2) ag))) (bx (ay i9 (bA (ah 0)) (bA (ah 0)))))) (ai (ax aj)) av)
  (af (aF 3 sC.nd (zi EL hr (ah 0)))
  (af (aO (nW (bJ (pT rfl) mr PyProof.Rows.boot_any (aa (eU (N':=["n", "spot", "worth", "told", "row"]) (ix:=[none,none,none,none,some 3]) ⟨rfl,rfl,rfl,rfl,rfl,rfl⟩ (eJ (bA (ah 0))) (fun _ _ _ _=>(jl (n:=4) (bU (bf 0 (show List.Nodup (["n", "spot", "worth", "told", "row"]:wv) by decide +kernel)) (bU (bf 1 (show List.Nodup (["n", "spot", "worth", "told", "row"]:wv) by decide +kernel)) (bU (bf 2 (show List.Nodup (["n", "spot", "worth", "told", "row"]:wv) by decide +kernel)) (bU (bf 3 (show List.Nodup (["n", "spot", "worth", "told", "row"]:wv) by decide +kernel)) jd)))))) (fun _ _ _ _=>j4) (fun _ _ _ _=>(Um (P6 (iQ hu) (ah 1) (aq uZ hr (aa (ah 4) ag))) (tY (gA (aG hu) (ah 1) (aq ip hr (aa (ah 4) ag))))))) ag))) (ai (ax aj)) av)
  (ai (ax (eO lT hr (ah 0) (aa (ah 3) (aa (ao (ah 1) ae) ag)))))))))))),?_⟩
 norm_cast;rintro aK R ⟨a,h,b,pl,t,rfl,hA,ok,hT,qq⟩;unfold HM.j1 at qq;dsimp only[fm]
 sizeOf_list_dec
 refine ar ?_
 sizeOf_list_dec
 refine bh (ds:=[bO h.rows h.bQ,i6 h.st]) ⟨h.rows,h.bQ,h.st.place,_,rfl,cG ?_⟩
 sizeOf_list_dec
 refine dA (fun e=>?_) (fun e=>?_)
 ·rw[aaE e]at qq
  sizeOf_list_dec
  exact qq W hA
 rw[aaA e]at qq;have hp:h.st.place < h.rows.length:=by have:=ok.st.p1;omega
 have ro:=(dQ ok.iU ok.st.p0 hp).2
 sizeOf_list_dec
 refine ar ?_
 sizeOf_list_dec
 refine og (fun e=>?_) (fun e=>?_)
 ·rw[aaE e]at qq
  sizeOf_list_dec
  exact qq W hA
 rw[aaA (fun z=>z e)]at qq
 sizeOf_list_dec
 refine ar ?_
 sizeOf_list_dec
 refine cA hA aU fun W1 R' h1 g=>⟨a,h,b,rfl,h1,fun W' h'=>g _ _ fun W2 t fr=>?_⟩;have fw:=t _ h' aU;clear fr t h' h1 g hA
 sizeOf_list_dec
 refine dA (fun e=>?_) (fun e=>?_)
 ·rw[aaE e]at qq
  sizeOf_list_dec
  exact qq _ fw
 rw[aaA e]at qq
 sizeOf_list_dec
 refine gh (fun ρ W=>¬ (h.aZ b=true/\h.eS<=h.aW)/\At W (eR kH a h)/\ρ=[some (.pt a.p),some (.im (fm (.fin b pl t))),some (.im (.int b)),none]) (fun k hk=>?_) ?_
 ·sizeOf_list_dec
  refine cA fw aU fun W1 R' h1 g=>⟨a,h,b,rfl,h1,ok,fun W' h'=>g _ _ fun W2 t fr=>?_⟩;have hA:=t _ h' aU;clear fr t h' h1 g fw
  sizeOf_list_dec
  cases ep:h.aZ b with
  | false =>
   sizeOf_list_dec
   exact hk _ _ ⟨fun z=>(aav (ep.symm.trans z.1)),hA,rfl⟩
  | true =>
   sizeOf_list_dec
   refine dA (fun e=>?_) (fun e=>?_)
   ·rw[aaE ⟨ep,e⟩]at qq
    sizeOf_list_dec
    exact qq _ hA
   ·sizeOf_list_dec
    exact hk _ _ ⟨fun z=>e z.2,hA,rfl⟩
 clear fw;rintro ρ W ⟨hn,hA,rfl⟩;rw[aaA hn]at qq;obtain⟨hx,Dy⟩:=kU ro
 sizeOf_list_dec
 refine cA hA aU fun W1 R' h1 g=>⟨a,h,rfl,h1,ok,hp,fun W' h'=>g _ _ fun W2 t fr=>?_⟩;have fw:=t _ h' aU;clear fr t h' h1 g hA
 sizeOf_list_dec
 refine ar ?_
 sizeOf_list_dec
 refine um (px fw) ?_
 sizeOf_list_dec
 refine fi (fun i ys W=>ys=(((h.bp.take i).map fun o=>fM h.row o.2.1).map PyData.bool).map .im/\At W (eR kH a h)) (by rw[aak];exact aaH (cm (by have:=ok.ow;omega))) ⟨rfl,fw⟩ (fun i ys W ⟨_,h⟩=>px h) ?_ ?_
 ·rintro i d ys W hd _ ⟨rfl,hA⟩;rw[aap]at hd;obtain⟨o,hl,rfl⟩:=aaw.mp hd;have et:h.bp.take (i+1)=h.bp.take i++[o]:=by rw[aaM,hl];rfl
  unfold cR
  sizeOf_list_dec
  refine bh (ds:=[c7 h.row]) ⟨HR h.row,pA h.row,kT h.row,by rw[hx],Dy,za ?_⟩;refine jq (neg:=false) (b:=.im (.list ((bZ (pA h.row) (kT h.row)).map .int))) sv ?_
  sizeOf_list_dec
  rw[et,ab3]
  by_cases e:o.2.1∈bZ (pA h.row) (kT h.row)
  ·refine ph e ?_
   sizeOf_list_dec
   exact⟨by simp[fM,e],hA⟩
  ·refine j5 e ?_
   sizeOf_list_dec
   refine bh (ds:=[c7 h.row]) ⟨HR h.row,pA h.row,kT h.row,by rw[hx],Dy,cG (Ia ?_)⟩;exact⟨by simp[fM,e],hA⟩
 ·rintro ys W4 ⟨rfl,hA⟩;rw[aak,aa2];refine dB ?_
  sizeOf_list_dec
  refine⟨_,_,_,rfl,rfl,qm _,?_⟩
  sizeOf_list_dec
  rw[show(List.map (fun o=>fM h.row o.2.1) h.bp).any id=h.bp.any (fun o=>fM h.row o.2.1) by rw[List.any_map];rfl];cases eo:h.bp.any (fun o=>fM h.row o.2.1) with
  | true =>
   rw[eo,aaE rfl]at qq
   sizeOf_list_dec
   exact qq _ hA
  | false =>
   rw[eo,aaA (by decide)]at qq
   sizeOf_list_dec
   refine cA hA aU fun W1 R' h1 g=>⟨a,h,t,rfl,h1,ok,hp,hT,fun W' h'=>g _ _ fun W2 t fr=>?_⟩;exact qq _ (t _ h' aU)
theorem Bc(F:cM K "first_broken" "Holder.first_broken" sA f fd)(cN:gk K kH bL)(oT:jm P w K mg base 6 kH "broken_by_end" f1 d1 ["self", "event"] (fv K (xM kH)))(mI:jm P w K mg base 1 kH "broken_by_late" f2 d2 ["self", "event"] (fv K (si kH)))(mJ:jm P w K mg base 1 kH "broken_by_down" f3 d3 ["self", "event"] (fv K (sj kH)))(mK:jm P w K mg base 4 kH "broken_by_bell" f4 d4 ["self", "event"] (fv K (sk kH)))(mr:mg "any"=none):ba P w K mg base cU 7 f fd ["self", "event"] (fv K (sy kH)):=by
 exact_mod_cast F.vG uY (fun aK W R X zz=>by obtain⟨a,b,c,e,_⟩:=zz; rw[e];rfl);refine⟨_,(af (aF 2 uY.nd (ao (ah 1) ae))
  (af (aO (ay gz (ah 2) (bA (ah 0))) (ai (ax aj)) av)
  (af (aO (nW (bJ (pT rfl) mr PyProof.Rows.boot_any (aa (eU (N':=["n", "spot", "worth", "told", "beat", "self"]) (ix:=[none,none,none,none,some 2,some 0]) ⟨rfl,rfl,rfl,rfl,rfl,rfl⟩ (eJ (bA (ah 0))) (fun _ _ _ _=>(jl (n:=4) (bU (bf 0 (show List.Nodup (["n", "spot", "worth", "told", "beat", "self"]:wv) by decide +kernel)) (bU (bf 1 (show List.Nodup (["n", "spot", "worth", "told", "beat", "self"]:wv) by decide +kernel)) (bU (bf 2 (show List.Nodup (["n", "spot", "worth", "told", "beat", "self"]:wv) by decide +kernel)) (bU (bf 3 (show List.Nodup (["n", "spot", "worth", "told", "beat", "self"]:wv) by decide +kernel)) jd)))))) (fun _ _ _ _=>j4) (fun _ _ _ _=>(gA gz (aY bb (ah 3) (bA (ah 5))) (ah 4)))) ag))) (ai (ax aj)) av)
  (af (aO (ay (aG hu) (ao (ah 1) ae) aj) (ai (ax (eO oT hr (ah 0) (aa (ah 1) ag)))) av)
  (af (aO (ay (aG hu) (ao (ah 1) ae) aj) (ai (ax (eO mI hr (ah 0) (aa (ah 1) ag)))) av)
  (af (aO (ay (aG hu) (ao (ah 1) ae) aj) (ai (ax (eO mJ hr (ah 0) (aa (ah 1) ag)))) av)
  (ai (ax (eO mK hr (ah 0) (aa (ah 1) ag)))))))))),?_⟩
 norm_cast;rintro aK R ⟨a,h,e,rfl,hA,ok,hE,qq⟩;unfold HM.bB at qq;have e1:∃ x r,fm e=.tuple (.str x::.int e.aD::r):=by cases e<;>exact⟨_,_,rfl⟩
 obtain⟨x,r,e1⟩:=e1;rw[e1]
 sizeOf_list_dec
 refine bC (D:=.int e.aD) (bY (j:=1) rfl) ?_
 sizeOf_list_dec
 refine ar ?_
 sizeOf_list_dec
 refine dA (fun z=>?_) (fun z=>?_)
 ·rw[aaE z]at qq
  sizeOf_list_dec
  exact qq W hA
 rw[aaA z]at qq
 sizeOf_list_dec
 refine ar ?_
 sizeOf_list_dec
 refine um (px hA) ?_
 sizeOf_list_dec
 refine fi (fun i ys W=>ys=(((h.bp.take i).map fun o=>decide (o.2.2.2+h.longest < e.aD)).map PyData.bool).map .im/\At W (eR kH a h)) (by rw[aak];exact aaH (cm (by have:=ok.ow;omega))) ⟨rfl,hA⟩ (fun i ys W ⟨_,h⟩=>px h) ?_ ?_
 ·clear hA;rintro i d ys W hd _ ⟨rfl,hA⟩;rw[aap]at hd;obtain⟨o,hl,rfl⟩:=aaw.mp hd;have et:h.bp.take (i+1)=h.bp.take i++[o]:=by rw[aaM,hl];rfl
  unfold cR
  sizeOf_list_dec
  rw[et,ab3];exact⟨by simp,hA⟩
 clear hA;rintro ys W ⟨rfl,hA⟩;rw[aak,aa2];refine dB ?_
 sizeOf_list_dec
 refine⟨_,_,_,rfl,rfl,qm _,?_⟩
 sizeOf_list_dec
 rw[show(List.map (fun o:Int×Int×Int×Int=>decide (o.2.2.2+h.longest < e.aD)) h.bp).any id=h.bp.any (fun o=>decide (o.2.2.2+h.longest < e.aD)) by rw[List.any_map];rfl];cases eo:h.bp.any (fun o=>decide (o.2.2.2+h.longest < e.aD)) with
 | true =>
  rw[eo,aaE rfl]at qq
  sizeOf_list_dec
  exact qq _ hA
 | false =>
  rw[eo,aaA (by decide)]at qq
  sizeOf_list_dec
  refine ar ?_;cases e with
  | fin b pl t =>
   cases e1
   sizeOf_list_dec
   refine cA hA aU fun W1 R' h1 g=>⟨a,h,b,pl,t,rfl,h1,ok,hE,fun W' h'=>g _ _ fun W2 t fr=>?_⟩;exact qq _ (t _ h' aU)
  | gL b n v =>
   cases e1
   sizeOf_list_dec
   refine ar ?_
   sizeOf_list_dec
   refine cA hA aU fun W1 R' h1 g=>⟨a,h,b,n,v,rfl,h1,ok,fun W' h'=>g _ _ fun W2 t fr=>?_⟩;exact qq _ (t _ h' aU)
  | down b n c v =>
   cases e1
   sizeOf_list_dec
   refine ar ?_
   sizeOf_list_dec
   refine ar ?_
   sizeOf_list_dec
   refine cA hA aU fun W1 R' h1 g=>⟨a,h,b,n,c,v,rfl,h1,ok,fun W' h'=>g _ _ fun W2 t fr=>?_⟩;exact qq _ (t _ h' aU)
  | gx b k =>
   cases e1
   sizeOf_list_dec
   refine ar ?_
   sizeOf_list_dec
   refine ar ?_
   sizeOf_list_dec
   refine cA hA aU fun W1 R' h1 g=>⟨a,h,b,k,rfl,h1,ok,fun W' h'=>g _ _ fun W2 t fr=>?_⟩;exact qq _ (t _ h' aU)
end
noncomputable def oU(kH:Addr):kN:=fun aK W R _=>∃ a h b t,aK=[.pt a.p,.im (.int b),.im (cP t)]/\At W (eR kH a h)/\eC h/\h.st.place < h.rows.length/\t.jS=kS.jS (h.row.wrote h.st.aQ h.st.cells).told/\∀ W',At W' (eR kH a (h.iY b t))->R (.im .none) W'
noncomputable def lU(kH:Addr):kN:=fun aK W R _=>∃ a h k,aK=[.pt a.p,.im (.int k)]/\At W (eR kH a h)/\eC h/\0<=k/\k < h.bQ.length/\h.st.cK=false/\∀ W',At W' (eR kH a (h.xG k))->R (.im .none) W'
abbrev oV:Stmt:=(met 33 13)
abbrev lV:Stmt:=(met 33 14)
theorem lW:aB ["self", "beat", "wrote", "done", "right"] ["self", "beat", "wrote"] (defScope oV):=by ac_rfl
theorem xO:aB ["self", "k"] ["self", "k"] (defScope lV):=by ac_rfl
section
variable {K:zn}
theorem u0{aN:Addr}(F:cM K "take_bell" "Holder.take_bell" lV f fd)(cN:gk K kH bL)(RK:Dn P w K mg base 2 "bell" f1 d1 ["mill", "state", "k"] (j9 (eZ (Eg aN aS)))):ba P w K mg base cU 3 f fd ["self", "k"] (fv K (lU kH)):=by
 exact_mod_cast F.vG xO (fun aK W R X zz=>by obtain⟨a,b,c,e,_⟩:=zz; rw[e];rfl);refine⟨_,(af (cZ (ah 0) (aq RK hr (aa (bA (ah 0)) (aa (bA (ah 0)) (aa (ah 1) ag)))))
  (af (dO (jN aaJ aaS aaT cY (bA (ah 0)) (aa (ah 1) ag)))
  (ai (cZ (ah 0) ae)))),?_⟩
 norm_cast;rintro aK R ⟨a,h,k,rfl,hA,ok,k0,k1,hs,qq⟩
 sizeOf_list_dec
 refine bh (ds:=[bO h.rows h.bQ,i6 h.st,.int k]) ⟨h.rows,h.bQ,h.st,k,rfl,fun _ _=>cG ?_,fun z=>absurd ⟨k0,k1⟩ z,fun _ z=>absurd (hs.symm.trans z) aav⟩
 sizeOf_list_dec
 refine J9 { h with st:=zt h.bQ k h.st } hA cN fun W1 qo=>?_;have wk:=NK qo
 sizeOf_list_dec
 refine dD (NK qo) (by rw[aak,aak];exact cm (by have:=ok.tk;exact aaq this (by decide))) fun W2 w2 f2=>?_;have fw:=VN (xs:=h.taken++[k]) qo f2 (by rw[w2];simp)
 sizeOf_list_dec
 refine J9 (h.xG k) fw cN fun W3 iJ=>?_;exact qq _ iJ
theorem xP(F:cM K "take_end" "Holder.take_end" oV f fd)(cN:gk K kH bL)(jw:jm P w K mg base 4 kH "is_pressed" f1 d1 ["self", "beat"] (fv K (kW kH)))(EI:Dn P w K mg base 4 "step" f2 d2 ["mill", "state"] (j9 (eZ (SStep aR)))):ba P w K mg base cU 5 f fd ["self", "beat", "wrote"] (fv K (oU kH)):=by
 exact_mod_cast F.vG lW (fun aK W R X zz=>by obtain⟨a,b,c,d,e,_⟩:=zz; rw[e];rfl);refine⟨_,(af (cZ (ah 0) (qW (nW (eO jw hr (ah 0) (aa (ah 1) ag))) (aY bb (bA (ah 0)) ae) ae))
  (af (aF 3 lW.nd (aq EI hr (aa (bA (ah 0)) (aa (bA (ah 0)) ag))))
  (af (aF 4 lW.nd (ao (ao (ah 3) ae) ae))
  (af (aO (gN (w_and (fc (ah 2)) (bx (fV (ao (ah 2) ae))))) (ai (dO (jN aaJ aaS aaT cY (bA (ah 0)) (aa (aX (aa (bA (ah 0)) (aa (ao (ah 4) ae) (aa (ao (ah 4) ae) (aa (ah 1) ag))))) ag)))) (ai (aO (gN (w_and (fc (ah 2)) (bx (ay (aG hu) (ao (ah 2) ae) aj)))) (ai (dO (jN aaJ aaS aaT cY (bA (ah 0)) (aa (aX (aa (bA (ah 0)) (aa (ao (ah 4) ae) (aa (ao (ah 4) ae) ag)))) ag)))) av)))
  (af (cZ (ah 0) (ao (ah 3) ae))
  (af (ou qE (ah 0) ae)
  (ai (ou qE (ah 0) ae)))))))),?_⟩
 norm_cast;rintro aK R ⟨a,h,b,t,rfl,hA,ok,hp,hT,qq⟩;have ro:=(dQ ok.iU ok.st.p0 hp).2;refine cj [_,_,_,none,none] rfl ?_;refine gh (fun ρ W=>At W (eR kH a { h with aW:=if h.aZ b=true then h.aW+1 else 0 })/\ρ=[some (.pt a.p),some (.im (.int b)),some (.im (cP t)),none,none]) (fun k hk=>?_) ?_
 ·sizeOf_list_dec
  refine cA hA aU fun W1 R' h1 g=>⟨a,h,b,rfl,h1,ok,fun W' h'=>g _ _ fun W2 t fr=>?_⟩;have qo:=t _ h' aU;clear fr t h' h1 g hA
  sizeOf_list_dec
  cases ep:h.aZ b with
  | true =>
   sizeOf_list_dec
   refine J9 { h with aW:=h.aW+1 } qo cN fun W3 iJ=>?_;exact hk _ _ ⟨by rw[ep];exact iJ,rfl⟩
  | false =>
   sizeOf_list_dec
   refine J9 { h with aW:=0 } qo cN fun W3 iJ=>?_;exact hk _ _ ⟨by rw[ep];exact iJ,rfl⟩
 clear hA;rintro ρ W ⟨hA,rfl⟩;generalize VR:(if h.aZ b=true then h.aW+1 else 0)=pr at hA
 sizeOf_list_dec
 refine bh (ds:=[bO h.rows h.bQ,i6 h.st]) ⟨h.rows,h.bQ,h.st,rfl,ok.iU,ok.st,fun _=>cG ?_,fun z=>by omega⟩
 sizeOf_list_dec
 have RL:∀ h2:HM,h2=({ h with aW:=pr }:HM).eV b t (h.row.wrote h.st.aQ h.st.cells)->h.iY b t={ h2 with st:=eG h.row h.st,ends:=h2.ends+1,gm:=h2.gm+1 }:=fun h2 e=>by subst e;subst VR;rfl
 refine gh (fun ρ W=>∃ h2:HM,h.iY b t={ h2 with st:=eG h.row h.st,ends:=h2.ends+1,gm:=h2.gm+1 }/\At W (eR kH a h2)/\∃ u,ρ=[some (.pt a.p),some (.im (.int b)),some (.im (cP t)),some (.im (.tuple [i6 (eG h.row h.st),NF (h.st.place,h.row.wrote h.st.aQ h.st.cells)])),u]) (fun k hk=>?_) ?_
 ·have wo:=px hA;have wl:=HQ hA;rcases t with _ | ⟨k',x',v'⟩
  ·sizeOf_list_dec
   exact hk _ _ ⟨_,RL _ (by unfold HM.eV;rfl),hA,_,rfl⟩
  obtain⟨v,ew⟩:∃ v,h.row.wrote h.st.aQ h.st.cells=some (k',x',v):=by
   cases ew:h.row.wrote h.st.aQ h.st.cells with
   | none=>rw[ew]at hT;cases hT
   | some y=>obtain⟨k',x',v'⟩:=y;rw[ew]at hT;cases hT;exact⟨v',rfl⟩
  rw[ew]at RL ⊢;dsimp only[cP]
  sizeOf_list_dec
  cases v' with
  | none =>
   sizeOf_list_dec
   refine aA (ds:=[.int h.ends,.int x',.int v,.int b]) (by show 4<=sizeLine;decide) ?_
   sizeOf_list_dec
   refine dD wo (by rw[aak,aak];exact cm (by have:=ok.ow;exact aaq this (by decide))) fun W2 w2 f2=>?_;exact hk _ _ ⟨_,RL _ rfl,VO (xs:=h.bp++[(h.ends,x',v,b)]) hA f2 (by rw[w2];simp[cR]),some (.im (fk (some (k',x',v)))),by rw[ew];rfl⟩
  | some v' =>
   sizeOf_list_dec
   by_cases ek:k' = "cell"
   ·refine ph ek ?_
    sizeOf_list_dec
    refine aA (ds:=[.int h.ends,.int x',.int v]) (by show 3<=sizeLine;decide) ?_
    sizeOf_list_dec
    refine dD wl (by rw[aak,aak];exact cm (by have:=ok.la;exact aaq this (by decide))) fun W2 w2 f2=>?_;exact hk _ _ ⟨_,RL _ (by unfold HM.eV;dsimp only;rw[aaE ek]),VP (xs:=h.laid++[(h.ends,x',v)]) hA f2 (by rw[w2];simp[eI]),some (.im (fk (some (k',x',v)))),by rw[ew];rfl⟩
   ·refine j5 ek ?_
    sizeOf_list_dec
    exact hk _ _ ⟨_,RL _ (by unfold HM.eV;dsimp only;rw[aaA ek]),hA,some (.im (fk (some (k',x',v)))),by rw[ew];rfl⟩
 rintro ρ W ⟨h2,e2,hA,u,rfl⟩;rw[e2]at qq
 sizeOf_list_dec
 refine J9 { h2 with st:=eG h.row h.st } hA cN fun W3 iJ=>?_
 sizeOf_list_dec
 refine VM { h2 with st:=eG h.row h.st,ends:=h2.ends+1 } iJ fun W4 jU=>?_
 sizeOf_list_dec
 refine VM { h2 with st:=eG h.row h.st,ends:=h2.ends+1,gm:=h2.gm+1 } jU fun W5 lX=>?_;exact qq _ lX
end
noncomputable def sD(kH:Addr):kN:=fun aK W R _=>∃ a h e,aK=[.pt a.p,.im (fm e)]/\At W (eR kH a h)/\eC h/\h.bB e=none/\∀ a' W',a'.on a->At W' (eR kH a' (h.cB e))->R (.im .none) W'
noncomputable def EN(kH:Addr):kN:=fun aK W R _=>∃ a h e,aK=[.pt a.p,.im (fm e)]/\At W (eR kH a h)/\eC h/\jT e/\h.cause=none/\∀ a' W',a'.on a->At W' (eR kH a' (h.tell e))->R (.im (mH (h.tell e).cause)) W'
theorem qp{e:Ev}(z:h.bB e=none):¬ e.aD < h.aD/\(match e with
  | .fin b pl t=>h.j1 b pl t
  | .gL _ n v=>h.lO n v
  | .down _ n c v=>h.lQ n c v
  | .gx b k=>h.iS b k)=none:=by
 unfold HM.bB at z;split at z
 ·cases z
 ·rename_i hb;split at z
  ·cases z
  ·exact⟨hb,z⟩
theorem EO{pl:Int}{t:kS}(ok:eC h)(z:h.j1 b pl t=none):h.st.place < h.rows.length/\pl=h.st.place/\t.jS=kS.jS (h.row.wrote h.st.aQ h.st.cells).told:=by
 unfold HM.j1 at z;split at z
 ·cases z
 rename_i h1;have:=ok.st.p1;refine⟨by omega,?_⟩;split at z
 ·cases z
 rename_i h2;refine⟨ac7.mp h2,?_⟩;split at z
 ·cases z
 split at z
 ·cases z
 split at z
 ·cases z
 unfold HM.jL at z;split at z
 ·cases z
 ·rename_i h3;exact ac7.mp h3
theorem qr{k:Int}(ok:eC h)(m:k∈h.df b):0<=k/\k < h.bQ.length:=by
 unfold HM.df r8 at m;have h2:=of_decide_eq_true (abg.mp m).2;have h3:k∈eY h.rings b:=List.count_pos_iff.mp (by omega);unfold eY at h3;obtain⟨r,hr,rfl⟩:=aa8.mp h3;exact ok.rb r (abg.mp hr).1
theorem zD{k:Int}(ok:eC h)(z:h.iS b k=none):0<=k/\k < h.bQ.length/\h.st.cK=false:=by
 unfold HM.iS at z;split at z
 ·cases z
 rename_i h1;split at z
 ·cases z
 rename_i h2;obtain⟨a,b⟩:=qr ok (ac7.mp h1);exact⟨a,b,by simpa using h2⟩
abbrev sE:Stmt:=(met 33 12)
abbrev ER:Stmt:=(met 33 1)
theorem u7:aB ["self", "event", "beat"] ["self", "event"] (defScope sE):=by ac_rfl
theorem NP:aB ["self", "event"] ["self", "event"] (defScope ER):=by ac_rfl
section
variable {K:zn}
theorem Ib(xs:List α):cutD xs (some 1) none=xs.drop 1:=by
 have e:HT.de xs.length 0 (some 1)=min 1 xs.length:=by rw[show(some 1:v0)=some ((1:Nat):Int) from rfl,HT.jC]
 unfold cutD;rw[e,HT.nP];cases xs with
 | nil=>rfl
 | cons x r=>show((x::r).drop (min 1 (r.length+1))).take ((r.length+1) - min 1 (r.length+1))=r;rw[Nat.min_eq_left (by omega)];simp
theorem Bd(F:cM K "take_up" "Holder.take_up" sE f fd)(cN:gk K kH bL)(oS:jm P w K mg base 1 kH "ends_at" f1 d1 ["self", "beat"] (fv K (nu kH)))(Be:jm P w K mg base 5 kH "take_end" f2 d2 ["self", "beat", "wrote"] (fv K (oU kH)))(xQ:jm P w K mg base 3 kH "take_bell" f3 d3 ["self", "k"] (fv K (lU kH))):ba P w K mg base cU 6 f fd ["self", "event"] (fv K (sD kH)):=by
 exact_mod_cast F.vG u7 (fun aK W R X zz=>by obtain⟨a,b,c,e,_⟩:=zz; rw[e];rfl);refine⟨_,(af (aF 2 u7.nd (ao (ah 1) ae))
  (af (cZ (ah 0) (eO oS hr (ah 0) (aa (ah 2) ag)))
  (af (aO (ay (aG hu) (ao (ah 1) ae) aj) (ai (dO (eO Be hr (ah 0) (aa (ah 2) (aa (ao (ah 1) ae) ag))))) (ai (aO (ay (aG hu) (ao (ah 1) ae) aj) (ai (cZ (ah 0) (eU (N':=["one", "event"]) (ix:=[none,some 1]) ⟨rfl,rfl,rfl,rfl,rfl,rfl⟩ (eJ (bA (ah 0))) (fun _ _ _ _=>(bf 0 (show List.Nodup (["one", "event"]:wv) by decide +kernel))) (fun _ _ _ _=>(gB (ay (bD hu) (ao (ah 0) ae) (ao (ah 1) ae)))) (fun _ _ _ _=>(ah 0))))) (ai (aO (ay (aG hu) (ao (ah 1) ae) aj) (ai (cZ (ah 0) (j3 qO (bA (ah 0)) (eM ae) fe))) (ai (dO (eO xQ hr (ah 0) (aa (ao (ah 1) ae) ag)))))))))
  (af (cZ (ah 0) (ah 2))
  (ai (ou qE (ah 0) ae)))))),?_⟩
 norm_cast;rintro aK R ⟨a,h,e,rfl,hA,ok,hb,qq⟩;obtain⟨_,hb⟩:=qp hb;have e1:∃ x r,fm e=.tuple (.str x::.int e.aD::r):=by cases e<;>exact⟨_,_,rfl⟩
 obtain⟨x,r,e1⟩:=e1;rw[e1];refine cj [_,_,none] rfl ?_
 sizeOf_list_dec
 refine bC (D:=.int e.aD) (bY (j:=1) rfl) ?_
 sizeOf_list_dec
 refine cA hA aU fun W1 R' h1 g=>⟨a,h,e.aD,rfl,h1,fun W' h'=>g _ _ fun W2 t fr=>?_⟩;have fw:=t _ h' aU;clear fr t h' h1 g hA
 sizeOf_list_dec
 refine J9 { h with gm:=h.endsAt e.aD } fw cN fun W3 hA=>?_;clear fw;have Yo:eC { h with gm:=h.endsAt e.aD }:=⟨ok.iU,ok.st,ok.rl,ok.rb,ok.tk,ok.ow,ok.la⟩;refine gh (fun ρ W=>∃ a' h2,a'.on a/\At W (eR kH a' h2)/\h.cB e={ h2 with aD:=e.aD,events:=h2.events+1 }/\ρ=[some (.pt a.p),some (.im (fm e)),some (.im (.int e.aD))]) (fun k hk=>?_) ?_
 ·cases e with
  | fin b pl t =>
   obtain⟨z1,z2,z3⟩:=EO ok hb;cases e1
   sizeOf_list_dec
   refine cA hA aU fun W1 R' h1 g=>⟨a,_,b,t,rfl,h1,Yo,z1,z3,fun W' h'=>g _ _ fun W2 t fr=>?_⟩;exact hk _ _ ⟨a,_,⟨rfl,rfl⟩,t _ h' aU,rfl,rfl⟩
  | gL b n v =>
   cases e1
   sizeOf_list_dec
   refine um (px hA) ?_
   sizeOf_list_dec
   refine fi (fun i ys W'=>W'=W3/\ys=((((h.bp.take i).filter fun o=>decide (o.1≠n)).map cR)).map .im) (by rw[aak];exact aaH (cm (by have:=ok.ow;exact aaq this (by decide)))) ⟨rfl,rfl⟩ (by rintro i ys _ ⟨rfl,_⟩;exact px hA) ?_ ?_
   ·rintro i d ys _ hd _ ⟨rfl,rfl⟩;rw[aap]at hd;obtain⟨o,hl,rfl⟩:=aaw.mp hd;have et:h.bp.take (i+1)=h.bp.take i++[o]:=by
     have Ta:h.bp[i]?=some o:=hl;rw[aaM,Ta];rfl
    sizeOf_list_dec
    rw[et,aa4];refine og (fun z=>?_) (fun z=>?_)
    ·sizeOf_list_dec
     exact⟨rfl,by simp[show ¬ o.1=n from z]⟩
    ·exact⟨rfl,by simp[show o.1=n from z]⟩
   ·rintro ys _ ⟨rfl,rfl⟩;rw[aak];refine kK fun q W4 hq wq fq=>?_
    sizeOf_list_dec
    refine Yn 2 { a with ow:=q } { h with gm:=h.endsAt b,bp:=h.bp.filter fun o=>decide (o.1≠n) } hA cN hq fq wq (fun W5 lX=>hk _ _ ⟨{ a with ow:=q },_,⟨rfl,rfl⟩,lX,rfl,rfl⟩) ?_;rw[show(h.bp.take h.bp.length)=h.bp from aa2 ..]
    with_unfolding_all rfl
  | down b n c v =>
   cases e1
   sizeOf_list_dec
   refine Dk (HQ hA) ?_;rw[Ib];refine kK fun q W4 hq wq fq=>?_
   sizeOf_list_dec
   refine Yn 3 { a with la:=q } { h with gm:=h.endsAt b,laid:=h.laid.drop 1 } hA cN hq fq wq (fun W5 lX=>hk _ _ ⟨{ a with la:=q },_,⟨rfl,rfl⟩,lX,rfl,rfl⟩) ?_;rw[<- List.map_drop,<- List.map_drop]
   with_unfolding_all rfl
  | gx b k =>
   obtain⟨z1,z2,z3⟩:=zD ok hb;cases e1
   sizeOf_list_dec
   refine cA hA aU fun W1 R' h1 g=>⟨a,_,k,rfl,h1,Yo,z1,z2,z3,fun W' h'=>g _ _ fun W2 t fr=>?_⟩;exact hk _ _ ⟨a,_,⟨rfl,rfl⟩,t _ h' aU,rfl,rfl⟩
 clear hA;rintro ρ W ⟨a',h2,⟨o1,o2⟩,hA,e2,rfl⟩;rw[e2]at qq;rw[<- o1]
 sizeOf_list_dec
 refine J9 { h2 with aD:=e.aD } hA cN fun W3 iJ=>?_
 sizeOf_list_dec
 refine VM { h2 with aD:=e.aD,events:=h2.events+1 } iJ fun W4 jU=>?_;exact qq a' _ ⟨o1,o2⟩ jU
theorem Ic(F:cM K "tell" "Holder.tell" ER f fd)(cN:gk K kH bL)(pB:jm P w K mg base 7 kH "first_broken" f1 d1 ["self", "event"] (fv K (sy kH)))(ES:jm P w K mg base 6 kH "take_up" f2 d2 ["self", "event"] (fv K (sD kH))):ba P w K mg base cU 8 f fd ["self", "event"] (fv K (EN kH)):=by
 exact_mod_cast F.vG NP (fun aK W R X zz=>by obtain⟨a,b,c,e,_⟩:=zz; rw[e];rfl);refine⟨_,(af (aO (fV (bA (ah 0))) (af (cZ (ah 0) (eO pB hr (ah 0) (aa (ah 1) ag)))
   (ai (aO (fV (bA (ah 0))) (ai (dO (eO ES hr (ah 0) (aa (ah 1) ag)))) av))) av)
  (ai (ax (bA (ah 0))))),?_⟩
 norm_cast;rintro aK R ⟨a,h,e,rfl,hA,ok,hE,hc,qq⟩;unfold HM.tell at qq;refine ar ?_
 sizeOf_list_dec
 rw[hc]
 sizeOf_list_dec
 refine cA hA aU fun W1 R' h1 g=>⟨a,h,e,rfl,h1,ok,hE,fun W' h'=>g _ _ fun W2 t fr=>?_⟩;have fw:=t _ h' aU;clear fr t h' h1 g hA
 sizeOf_list_dec
 refine J9 { h with cause:=h.bB e } fw cN fun W3 hA=>?_;clear fw;cases eb:h.bB e with
 | some x =>
  rw[eb]at qq hA
  sizeOf_list_dec
  exact qq a _ ⟨rfl,rfl⟩ hA
 | none =>
  rw[eb]at qq hA;have eh:({ h with cause:=none }:HM)=h:=by cases h;cases hc;rfl
  rw[eh]at hA
  sizeOf_list_dec
  rw[hc]
  sizeOf_list_dec
  refine cA hA aU fun W1 R' h1 g=>⟨a,h,e,rfl,h1,ok,eb,fun a' W' o h'=>g _ _ fun W2 t fr=>?_⟩;have fw:=t _ h' aU;have q:=qq a' _ o fw;obtain⟨o1,o2⟩:=o;rw[<- o1]
  sizeOf_list_dec
  exact q
end
structure Yp where
 (width room queue eS longest:Int)
noncomputable def ET(t:Yp):PyData:=.tuple [.int t.width,.int t.room,.int t.queue,.int t.eS,.int t.longest]
noncomputable def Ie(rs:List Rw)(bs:wn)(st:A0)(ps:ut)(t:Yp):HM:=⟨rs,bs,ps,t.width,t.room,t.queue,t.eS,t.longest,st,0,0,0,0,0,[],[],[],none⟩
noncomputable def xR(kH:Addr):kN:=fun aK W R _=>∃ p d rs bs st ps t,aK=[.pt p,.im (bO rs bs),.im (i6 st),.im (.list (ps.map pairD)),.im (ET t)]/\At W [(p,.ob kH d [])]/\ps.length<=1000/\∀ a W',a.p=p->At W' (eR kH a (Ie rs bs st ps t))->R (.im .none) W'
noncomputable def iH:HM->List Ev->Option (Int×Str)
 | _,[]=>none
 | h,e::r=>match (h.tell e).cause with
  | some x=>some ((h.tell e).events,x)
  | none=>iH (h.tell e) r
noncomputable def oW:ll:=fun ds R _=>∃ rs bs st ps t es,ds=[bO rs bs,i6 st,.list (ps.map pairD),ET t,.list (es.map fm)]/\eC (Ie rs bs st ps t)/\(∀ e∈es,jT e)/\es.length<=4000/\R (.im (uM (iH (Ie rs bs st ps t) es)))
structure u9(h:HM)(n:Nat):Prop where
 tk:h.taken.length<=n
 ow:h.bp.length<=n
 la:h.laid.length<=n
theorem Bf(l:u9 h n)(b:Int)(t:kS)(w:vH):u9 (h.eV b t w) (n+1)/\∃ o la,h.eV b t w={ h with bp:=o,laid:=la }:=by
 have h1:=l.tk;have h2:=l.ow;have h3:=l.la;unfold HM.eV;split
 ·exact⟨⟨aaN h1,by simp only[aaQ,aaR,ab1];omega,aaN h3⟩,_,_,rfl⟩
 ·split
  ·exact⟨⟨aaN h1,aaN h2,by simp only[aaQ,aaR,ab1];omega⟩,_,_,rfl⟩
  ·exact⟨⟨aaN h1,aaN h2,aaN h3⟩,_,_,rfl⟩
 ·exact⟨⟨aaN h1,aaN h2,aaN h3⟩,_,_,rfl⟩
theorem Kb{e:Ev}(ok:eC h)(hb:h.bB e=none)(l:u9 h n)(hn:n < 5000):eC (h.cB e)/\u9 (h.cB e) (n+1)/\(h.cB e).cause=h.cause/\(h.cB e).events=h.events+1:=by
 obtain⟨_,hb⟩:=qp hb;cases e with
 | fin b pl t =>
  obtain⟨z1,z2,z3⟩:=EO ok hb;have ro:=(dQ ok.iU ok.st.p0 z1).2;have l1:u9 { h with gm:=h.endsAt b,aW:=if({ h with gm:=h.endsAt b }:HM).aZ b=true then h.aW+1 else 0 } n:=⟨l.tk,l.ow,l.la⟩;obtain⟨l2,o,la,e2⟩:=Bf l1 b t (h.row.wrote h.st.aQ h.st.cells);have eu:h.cB (.fin b pl t)={ ({ h with gm:=h.endsAt b,aW:=if({ h with gm:=h.endsAt b }:HM).aZ b=true then h.aW+1 else 0 }:HM).eV b t (h.row.wrote h.st.aQ h.st.cells)with st:=eG h.row h.st,ends:=(({ h with gm:=h.endsAt b,aW:=if({ h with gm:=h.endsAt b }:HM).aZ b=true then h.aW+1 else 0 }:HM).eV b t (h.row.wrote h.st.aQ h.st.cells)).ends+1,gm:=(({ h with gm:=h.endsAt b,aW:=if({ h with gm:=h.endsAt b }:HM).aZ b=true then h.aW+1 else 0 }:HM).eV b t (h.row.wrote h.st.aQ h.st.cells)).gm+1,aD:=b,events:=(({ h with gm:=h.endsAt b,aW:=if({ h with gm:=h.endsAt b }:HM).aZ b=true then h.aW+1 else 0 }:HM).eV b t (h.row.wrote h.st.aQ h.st.cells)).events+1 }:=rfl;rw[eu];rw[e2]at l2 ⊢;have k1:=l2.tk;have k2:=l2.ow;have k3:=l2.la;exact⟨⟨ok.iU,HG ok.st z1 ro,ok.rl,ok.rb,aaq k1 hn,aaq k2 hn,aaq k3 hn⟩,⟨k1,k2,k3⟩,rfl,rfl⟩
 | gL b m v =>
  have k:=l.ow;have k2:(h.bp.filter fun o=>decide (o.1≠m)).length<=n:=aaq (acd ..) k;exact⟨⟨ok.iU,ok.st,ok.rl,ok.rb,ok.tk,aaq k2 (aaH hn),ok.la⟩,⟨aaN l.tk,aaN k2,aaN l.la⟩,rfl,rfl⟩
 | down b m c v =>
  have k:=l.la;have k2:(h.laid.drop 1).length<=n:=by rw[abE];omega
  exact⟨⟨ok.iU,ok.st,ok.rl,ok.rb,ok.tk,ok.ow,aaq k2 (aaH hn)⟩,⟨aaN l.tk,aaN l.ow,aaN k2⟩,rfl,rfl⟩
 | gx b k =>
  obtain⟨z1,z2,z3⟩:=zD ok hb;have k2:(h.taken++[k]).length<=n+1:=by have:=l.tk;simp only[aaQ,aaR,ab1];omega
  exact⟨⟨ok.iU,HH ok.st ok.iU.bok z1 z2,ok.rl,ok.rb,aaq k2 hn,ok.ow,ok.la⟩,⟨k2,aaN l.ow,aaN l.la⟩,rfl,rfl⟩
section
variable {K:zn}{a:Es}{f:Str}{v:DV}{Pr:Wd->Prop}
theorem sX(i:Nat)(hA:At W ((a.p,.ob kH a.d ((sW a h).take i))::L))(c:gk K kH bL)(q:∀ W1,At W1 ((a.p,.ob kH a.d ((sW a h).take (i+1)))::L)->Pr W1)(n:autoParam (f∈bL) ra10)(e:autoParam (putD f v ((sW a h).take i)=(sW a h).take (i+1)) ra2):∃ p' k d fs,DV.pt a.p=.pt p'/\W p'=some (.ob k d fs)/\my K k/\cI K k f/\fs.length < 1000/\Pr (aH W p' (.ob k d (putD f v fs))) :=
 rN hA c 0 rfl n (by rw[abk];exact acv (acI ..) (by show 18 < 1000;decide)) fun W1 h1 f1=>q W1 (by rw[e]at h1;exact h1)
theorem VS{q:Addr}{x:Cell}(a':Es)(i:Nat)(hA:At W ((a.p,.ob kH a.d ((sW a h).take i))::L))(hq:W q=none)(fq:Fr q W W')(wq:W' q=some x)(e1:autoParam ((a'.p,Cell.ob kH a'.d ((sW a' h).take i))=(a.p,.ob kH a.d ((sW a h).take i))) ra0):At W' ((a'.p,.ob kH a'.d ((sW a' h).take i))::(q,x)::L):=by
 rw[e1];exact(hA.cons hq fq wq).perm (List.Perm.swap ..)
end
abbrev xS:Stmt:=(met 33 0)
abbrev kX:Stmt:=top 34
theorem Ig:aB ["self", "mill", "state", "rings", "terms"] ["self", "mill", "state", "rings", "terms"] (defScope xS):=by ac_rfl
theorem lZ:aB ["mill", "state", "rings", "terms", "diary", "holder", "event"] ["mill", "state", "rings", "terms", "diary"] (defScope kX):=by ac_rfl
section
variable {K:zn}
theorem EU(F:cM K "__init__" "Holder.__init__" xS f fd)(cN:gk K kH bL)(eQ:mg "list"=none):ba P w K mg base cU 1 f fd ["self", "mill", "state", "rings", "terms"] (fv K (xR kH)):=by
 exact_mod_cast F.vG Ig (fun aK W R X zz=>by obtain⟨a,b,c,d,g,i,j,e,_⟩:=zz; rw[e];rfl);refine⟨_,(af (cZ (ah 0) (ah 1))
  (af (cZ (ah 0) (ah 2))
  (af (cZ (ah 0) (cE fE eQ aby (aa (ah 3) ag)))
  (af (cZ (ah 0) (ah 4))
  (af (cZ (ah 0) (ao (ah 4) ae))
  (af (cZ (ah 0) (ao (ah 4) ae))
  (af (cZ (ah 0) (ao (ah 4) ae))
  (af (cZ (ah 0) (ao (ah 4) ae))
  (af (cZ (ah 0) (ao (ah 4) ae))
  (af (cZ (ah 0) ae)
  (af (cZ (ah 0) ae)
  (af (cZ (ah 0) ae)
  (af (cZ (ah 0) ae)
  (af (cZ (ah 0) ae)
  (af (cZ (ah 0) (bo ag))
  (af (cZ (ah 0) (bo ag))
  (af (cZ (ah 0) (bo ag))
  (ai (cZ (ah 0) cS))))))))))))))))))),?_⟩
 norm_cast;rintro aK R ⟨p,d,rs,bs,st,ps,t,rfl,hA,Dy,qq⟩;unfold ET;replace hA:At W [((⟨p,d,p,p,p⟩:Es).p,.ob kH (⟨p,d,p,p,p⟩:Es).d ((sW ⟨p,d,p,p,p⟩ (Ie rs bs st ps t)).take 0))]:=hA
 sizeOf_list_dec
 refine sX 0 hA cN fun W0 hB=>?_;clear hA;have hA:=hB;clear hB
 sizeOf_list_dec
 refine sX 1 hA cN fun W1 hB=>?_;clear hA;have hA:=hB;clear hB
 sizeOf_list_dec
 refine rH (dB ?_)
 sizeOf_list_dec
 refine sX 2 hA cN fun W2 hB=>?_;clear hA;have hA:=hB;clear hB
 sizeOf_list_dec
 refine sX 3 hA cN fun W3 hB=>?_;clear hA;have hA:=hB;clear hB
 sizeOf_list_dec
 refine sX 4 hA cN fun W4 hB=>?_;clear hA;have hA:=hB;clear hB
 sizeOf_list_dec
 refine sX 5 hA cN fun W5 hB=>?_;clear hA;have hA:=hB;clear hB
 sizeOf_list_dec
 refine sX 6 hA cN fun W6 hB=>?_;clear hA;have hA:=hB;clear hB
 sizeOf_list_dec
 refine sX 7 hA cN fun W7 hB=>?_;clear hA;have hA:=hB;clear hB
 sizeOf_list_dec
 refine sX 8 hA cN fun W8 hB=>?_;clear hA;have hA:=hB;clear hB
 sizeOf_list_dec
 refine sX 9 hA cN fun W9 hB=>?_;clear hA;have hA:=hB;clear hB
 sizeOf_list_dec
 refine sX 10 hA cN fun Yq hB=>?_;clear hA;have hA:=hB;clear hB
 sizeOf_list_dec
 refine sX 11 hA cN fun W11 hB=>?_;clear hA;have hA:=hB;clear hB
 sizeOf_list_dec
 refine sX 12 hA cN fun W12 hB=>?_;clear hA;have hA:=hB;clear hB
 sizeOf_list_dec
 refine sX 13 hA cN fun W13 hB=>?_;clear hA;have hA:=hB;clear hB
 sizeOf_list_dec
 refine gH (aaK _) fun RM V14 hq wq fq=>?_;replace hA:=VS ⟨p,d,RM,p,p⟩ 14 hA hq fq wq;clear hq fq wq
 sizeOf_list_dec
 refine sX 14 hA cN fun W14 hB=>?_;clear hA;have hA:=hB;clear hB
 sizeOf_list_dec
 refine gH (aaK _) fun Tc V15 hq wq fq=>?_;replace hA:=VS ⟨p,d,RM,Tc,p⟩ 15 hA hq fq wq;clear hq fq wq
 sizeOf_list_dec
 refine sX 15 hA cN fun W15 hB=>?_;clear hA;have hA:=hB;clear hB
 sizeOf_list_dec
 refine gH (aaK _) fun VT V16 hq wq fq=>?_;replace hA:=VS ⟨p,d,RM,Tc,VT⟩ 16 hA hq fq wq;clear hq fq wq
 sizeOf_list_dec
 refine sX 16 hA cN fun W16 hB=>?_;clear hA;have hA:=hB;clear hB
 sizeOf_list_dec
 refine sX 17 hA cN fun W17 hB=>?_;clear hA;have hA:=hB;clear hB;refine qq ⟨p,d,RM,Tc,VT⟩ _ rfl ?_;refine hA.perm ?_;exact .cons _ (List.reverse_perm [(RM,Cell.lst []),(Tc,Cell.lst []),(VT,Cell.lst [])])
theorem xT(F:cM K "parting" "parting" kX f fd)(cN:gk K kH bL)(Ih:Vk P w K mg base 1 kH "Holder" f1 d1 ["self", "mill", "state", "rings", "terms"] (fv K (xR kH)))(RN:jm P w K mg base 8 kH "tell" f2 d2 ["self", "event"] (fv K (EN kH)))(Ii:jm P w K mg base 1 kH "parted" f3 d3 ["self"] (fv K (sd kH))):ba P w K mg base cU 9 f fd ["mill", "state", "rings", "terms", "diary"] (eZ oW):=by
 exact_mod_cast F.sS lZ (by nofun);refine⟨_,(af (aF 5 lZ.nd (Na Ih hr (aa (ah 0) (aa (ah 1) (aa (ah 2) (aa (ah 3) ag))))))
  (af (kD (eJ (ah 4)) (bf 6 lZ.nd) (ai (aO (fc (eO RN hr (ah 5) (aa (ah 6) ag))) (ai (ax (zi Ii hr (ah 5)))) av)))
  (ai (ax cS)))),?_⟩
 push_cast;rintro ds R ⟨rs,bs,st,ps,t,es,rfl,ok,hE,hl,q⟩;refine cj [_,_,_,_,_,none,none] rfl ?_
 sizeOf_list_dec
 intro p d hp hd i4;have o7:At (aH W0 p (.ob kH d [])) [(p,.ob kH d [])]:=⟨by simp,fun x hx=>by rw[abd]at hx;subst hx;exact au⟩;refine cA o7 rfl fun W1 R' h1 g=>⟨p,d,rs,bs,st,ps,t,rfl,h1,aaq ok.rl (by decide),fun a W' hap h'=>g _ _ fun W2 t fr=>?_⟩;have hA:=t _ h' aU;clear fr t h' h1 g o7;refine⟨rfl,?_⟩;subst hap
 sizeOf_list_dec
 refine ar ?_
 sizeOf_list_dec
 refine Hh (fun i ρ W=>∃ h a' u,a'.p=a.p/\At W (eR kH a' h)/\eC h/\u9 h i/\h.cause=none/\iH (Ie rs bs st ps t) es=iH h (es.drop i)/\ρ=[some (.im (bO rs bs)),some (.im (i6 st)),some (.im (.list (ps.map pairD))),some (.im (ET t)),some (.im (.list (es.map fm))),some (.pt a.p),u]) ⟨_,a,_,rfl,hA,ok,⟨aao _,aao _,aao _⟩,rfl,rfl,rfl⟩ ?_ ?_
 ·clear hA;rintro i d ρ W hd ⟨h,a',u,o1,hA,ok,ln,hc,ep,rfl⟩;rw[aap]at hd;obtain⟨e,he,rfl⟩:=aaw.mp hd;have Ym:=(aas.mp he).1;have ed:es.drop i=e::es.drop (i+1):=by rw[acZ Ym,(aas.mp he).2]
  have hEe:=hE e (abw he);rw[ed,show iH h (e::es.drop (i+1))=(match (h.tell e).cause with | some x=>some ((h.tell e).events,x) | none=>iH (h.tell e) (es.drop (i+1))) from rfl]at ep;rw[<- o1]at *
  sizeOf_list_dec
  refine cA hA aU fun W1 R' h1 g=>⟨a',h,e,rfl,h1,ok,hEe,hc,fun a2 W' o h'=>g _ _ fun W2 t fr=>?_⟩;have fw:=t _ h' aU;clear fr t h' h1 g hA;obtain⟨o2,_⟩:=o;rw[<- o2]at *
  sizeOf_list_dec
  cases ec:(h.tell e).cause with
  | some x =>
   rw[ec]at ep;rw[ep]at q
   sizeOf_list_dec
   refine cA fw aU fun W1 R' h1 g=>⟨a2,_,rfl,h1,fun W' h'=>g _ _ fun W2 t fr=>?_⟩;rw[ec];exact q
  | none =>
   rw[ec]at ep
   sizeOf_list_dec
   have eb:h.bB e=none:=by
    cases eb:h.bB e with
    | none=>rfl
    | some x=>unfold HM.tell at ec;rw[eb]at ec;cases ec
   have et:h.tell e=h.cB e:=by unfold HM.tell;rw[eb]
   obtain⟨k1,k2,k3,_⟩:=Kb ok eb ln (by omega);rw[et]at fw ep;exact⟨_,a2,_,rfl,fw,k1,k2,k3.trans hc,ep,rfl⟩
 ·clear hA;rintro ρ W ⟨h,a',u,o1,hA,ok,ln,hc,ep,rfl⟩;rw[aak,List.drop_length]at ep;rw[ep]at q
  sizeOf_list_dec
  exact q
end
theorem NQ{e:Ev}(h:jT e):(fm e).canLay0=true/\(fm e).depth<=2:=by
 have c:(PyData.str "end").canLay0=true/\(PyData.str "late").canLay0=true/\(PyData.str "down").canLay0=true/\(PyData.str "bell").canLay0=true/\(PyData.str "spot").canLay0=true/\(PyData.str "cell").canLay0=true:=by decide +kernel
 obtain⟨c1,c2,c3,c4,c5,c6⟩:=c;simp only[PyData.canLay0]at c1 c2 c3 c4 c5 c6;have k:∀ o:Option Int,(mE o).canLay0=true/\(mE o).depth=0:=fun o=>by cases o<;>exact⟨rfl,rfl⟩
 cases e with
 | fin b pl t =>
  rcases t with _ | ⟨w,x,v⟩
  ·exact⟨by simp[fm,cP,PyData.canLay0,PyData.canLayAll0,c1],by simp[fm,cP,PyData.depth,PyData.depthAll]⟩
  ·refine⟨?_,by simp[fm,cP,PyData.depth,PyData.depthAll,(k v).2]⟩;rcases h w x rfl with rfl | rfl<;>simp[fm,cP,PyData.canLay0,PyData.canLayAll0,c1,c5,c6,(k v).1]
 | gL b n v=>exact⟨by simp[fm,PyData.canLay0,PyData.canLayAll0,c2],by simp[fm,PyData.depth,PyData.depthAll]⟩
 | down b n c v=>exact⟨by simp[fm,PyData.canLay0,PyData.canLayAll0,c3],by simp[fm,PyData.depth,PyData.depthAll]⟩
 | gx b k=>exact⟨by simp[fm,PyData.canLay0,PyData.canLayAll0,c4],by simp[fm,PyData.depth,PyData.depthAll]⟩
theorem vb(h:∀ d∈ds,d.canLay0=true/\d.depth<=2):(PyData.list ds).canLay0=true/\(PyData.list ds).depth<=64:=by
 have:PyData.canLayAll0 ds=true/\PyData.depthAll ds<=2:=by
  induction ds with
  | nil=>exact⟨rfl,aaK _⟩
  | cons d r ih =>
   obtain⟨h1,h2⟩:=h d (aaF ..);obtain⟨i1,i2⟩:=ih fun x hx=>h x (aax _ hx);exact⟨by rw[PyData.canLayAll0,h1,i1];rfl,by rw[PyData.depthAll];omega⟩
 exact⟨this.1,by rw[PyData.depth];omega⟩
theorem zE{es:List Ev}(h:∀ e∈es,jT e):(PyData.list (es.map fm)).canLay0=true/\(PyData.list (es.map fm)).depth<=64:=vb fun d hd=>by obtain⟨e,he,rfl⟩:=aa8.mp hd;exact NQ (h e he)
theorem zF(ps:ut):(PyData.list (ps.map pairD)).canLay0=true/\(PyData.list (ps.map pairD)).depth<=64:=vb fun d hd=>by obtain⟨e,he,rfl⟩:=aa8.mp hd;exact⟨rfl,by simp[pairD,PyData.depth,PyData.depthAll]⟩
noncomputable def kY:HM->List Ev->Option HM
 | h,[]=>some h
 | h,e::r=>match h.bB e with
  | none=>kY (h.cB e) r
  | some _=>none
theorem qt{e:Ev}(b:h.bB e=none):h.tell e=h.cB e:=by unfold HM.tell;rw[b]
theorem Bh{e:Ev}{x:Str}(b:h.bB e=some x):h.tell e={ h with cause:=some x }:=by unfold HM.tell;rw[b]
theorem qu:∀{es:List Ev} {h h1:HM} {e:Ev},kY h es=some h1->h1.bB e=none->kY h (es++[e])=some (h1.cB e)
 | [],h,h1,e,f,b=>by cases f;show(match h.bB e with | none=>kY (h.cB e) [] | some _=>none)=_;rw[b];rfl
 | a::r,h,h1,e,f,b=>by
  show(match h.bB a with | none=>kY (h.cB a) (r++[e]) | some _=>none)=_;have f':(match h.bB a with | none=>kY (h.cB a) r | some _=>none)=some h1:=f;cases q:h.bB a with
  | some x=>rw[q]at f';cases f'
  | none=>rw[q]at f';exact qu f' b
theorem vc(h:HM)(e:Ev):(h.cB e).cause=h.cause:=by
 cases e with
 | fin b pl t=>show(HM.iY _ b t).cause=_;unfold HM.iY HM.eV;dsimp only;split<;>(try split)<;>rfl
 | gL b n v=>rfl
 | down b n c v=>rfl
 | gx b k=>rfl
theorem jM:∀{es:List Ev} {h h1:HM} {r:List Ev},h.cause=none->kY h es=some h1->iH h (es++r)=iH h1 r/\h1.cause=none
 | [],h,h1,r,c,f=>by cases f;exact⟨rfl,c⟩
 | a::es,h,h1,r,c,f=>by
  have f':(match h.bB a with | none=>kY (h.cB a) es | some _=>none)=some h1:=f;cases q:h.bB a with
  | some x=>rw[q]at f';cases f'
  | none =>
   rw[q]at f';have c1:(h.tell a).cause=none:=by rw[qt q,vc];exact c
   show(match (h.tell a).cause with | some x=>some ((h.tell a).events,x) | none=>iH (h.tell a) (es++r))=_/\_;rw[c1,qt q];exact jM (by rw[vc];exact c) f'
theorem vd{e:Ev}{x:Str}{r:List Ev}(b:h.bB e=some x):iH h (e::r)=some (h.events,x):=by
 show(match (h.tell e).cause with | some x=>some ((h.tell e).events,x) | none=>iH (h.tell e) r)=_;rw[Bh b]
abbrev NR:Stmt:=top 40
abbrev EV:Stmt:=top 41
abbrev xU:Stmt:=top 42
theorem qv:aB ["bag", "many", "spots", "kind", "d", "a", "b", "n"] ["bag", "many", "spots"] (defScope NR):=by ac_rfl
theorem sF:aB ["bag", "many", "spots", "bells"] ["bag"] (defScope EV):=by ac_rfl
theorem kZ:aB ["bag", "mill", "place", "kept", "spots", "cells"] ["bag", "mill"] (defScope xU):=by ac_rfl
def RO:sT:=fun n ds R=>∃ m s:Int,ds=[.int m,.int s]/\0<=m/\m<=40/\1<=s/\s<=8/\n<=998000000/\∀(r:Rw) (n':Nat),iG m r->n'<=n+9->R (.im (c7 r)) n'
def Kd:sT:=fun n ds R=>ds=[]/\n<=990000000/\∀(rs:List Rw) (bs:wn) (n':Nat),rQ rs bs->n'<=n+1000->R (.im (bO rs bs)) n'
noncomputable def EW:sT:=fun n ds R=>∃(rs:List Rw) (bs:wn),ds=[bO rs bs]/\rs.length<=40/\n<=990000000/\∀(st:A0) (n':Nat),jY rs.length st->n'<=n+1000->R (.im (i6 st)) n'
def NS(g t:Addr)(n c:Nat)(Pr:Int->Prop)(i:Nat)(ys:List DV)(W:Wd):Prop:=∃(sp:wn) (k:Nat),ys=(sp.map PyData.int).map .im/\sp.length=i/\(∀ z∈sp,Pr z)/\W t=some (.aI g k)/\k<=n+c * i
theorem NS.nil{g t:Addr}{c:Nat}{Pr:Int->Prop}{k:Nat}(h:W t=some (.aI g k))(hk:k<=n):NS g t n c Pr 0 [] W:=⟨[],k,rfl,rfl,(fun b hb=>by cases hb),h,by omega⟩
theorem NS.more{g t:Addr}{c:Nat}{Pr:Int->Prop}{k i:Nat}{z:Int}(hl:sp.length=i)(hb:∀ z∈sp,Pr z)(hz:Pr z)(h:W t=some (.aI g k))(hk:k<=n+c * i+c):NS g t n c Pr (i+1) ((sp.map PyData.int).map .im++[.im (.int z)]) W :=
 ⟨sp++[z],k,by simp,by simp[hl],fun b m=>by
  rcases abo.mp m with c | c
  ·exact hb b c
  ·rw[abd.mp c];exact hz,h,by rw[Nat.mul_add];omega⟩
section
variable {K:zn}
theorem NT(F:cM K "_law_row" "_law_row" NR f fd)(ak:Dn P w K mg base 1 "_law_draw" f1 d1 ["bag", "many"] (spT (bg Bg) gu))(dh:Dn P w K mg base 2 "_law_worth" f2 d2 ["bag"] (spT (bg Bg) oG)):ba P w K mg base cU 3 f fd ["bag", "many", "spots"] (spT (bg Bg) RO):=by
 exact_mod_cast F.Ha qv bN rfl (by nofun);refine⟨_,(af (aF 3 qv.nd (ao (bo (bV rfl)) (aq ak hr (aa (ah 0) (aa ae ag)))))
  (af (aF 4 qv.nd (aq ak hr (aa (ah 0) (aa (ah 2) ag))))
  (af (aF 5 qv.nd (aq ak hr (aa (ah 0) (aa (ah 2) ag))))
  (af (aF 6 qv.nd (aq ak hr (aa (ah 0) (aa (ah 2) ag))))
  (af (aF 7 qv.nd (aq ak hr (aa (ah 0) (aa ae ag))))
  (af (aO (ay (aG hu) (ah 3) ae) (ai (ax (aX (aa aj (aa (ah 4) (aa (aq dh hr (aa (ah 0) ag)) ag)))))) av)
  (af (aO (ay gz (ah 3) ae) (ai (ax (aX (aa (ao (bo (bV rfl)) (aY gy (ah 3) ae)) (aa (ah 4) (aa (ah 5) (aa (ah 6) ag))))))) av)
  (af (aO (ay gz (ah 3) ae) (ai (ax (ao (bo (aa (aX (aa aj (aa (ah 4) (aa (ah 5) (aa (ah 7) ag))))) (aa (aX (aa aj (aa (ah 6) (aa (ah 5) (aa (ah 7) ag))))) ag))) (aY gy (ah 3) ae)))) av)
  (af (aO (ay (aG hu) (ah 3) ae) (ai (ax (aX (aa aj (aa (ah 5) (aa (aq ak hr (aa (ah 0) (aa (aY bb (ah 1) ae) ag))) ag)))))) av)
  (ai (ax (aX (aa (ao (bo (bV rfl)) (aY gy (ah 3) ae)) ag))))))))))))),?_⟩
 clear hu;symm;refine fun t g O=>⟨_,inferInstance,?_⟩;rintro n ds R ⟨m,s,rfl,m0,m1,s0,s1,hn,q⟩;refine cj [_,_,_,none,none,none,none,none] rfl ?_;have wt:WT t g n t=some (.aI g n):=au;generalize WT t g n=W at wt
 sizeOf_list_dec
 refine bT (ds:=[0,1,2,3,3,4,4,5,5,6,7,8,9].map PyData.int) (by show 13<=sizeLine;decide) ?_
 sizeOf_list_dec
 refine aL wt (by omega) (by omega) (by omega) fun k0 W1 VU VW wt _=>?_;refine dn VU (by simpa using VW) fun kd FR=>?_;have FR:0<=kd/\kd<=9:=by simp at FR;omega
 sizeOf_list_dec
 refine aL wt (by omega) (by omega) (by omega) fun d W1 a0 a1 wt _=>?_
 sizeOf_list_dec
 refine aL wt (by omega) (by omega) (by omega) fun a W1 b0 b1 wt _=>?_
 sizeOf_list_dec
 refine aL wt (by omega) (by omega) (by omega) fun b W1 c0 c1 wt _=>?_
 sizeOf_list_dec
 refine aL wt (by omega) (by omega) (by omega) fun nn W1 e0 e1 wt _=>?_;have od:FP d:=⟨a0,by omega⟩;have oa:FP a:=⟨b0,by omega⟩;have ob:FP b:=⟨c0,by omega⟩
 sizeOf_list_dec
 refine ar ?_
 sizeOf_list_dec
 refine dA (fun z=>?_) (fun z=>?_)
 ·sizeOf_list_dec
  refine cg (ds:=[]) wt ⟨rfl,by omega,fun v n' hv OW=>cG ?_⟩;have vI:aH W1 t (.aI g n') t=some (.aI g n'):=au
  sizeOf_list_dec
  refine aA (ds:=[.str "put",.int d,.int v]) (by show 3<=sizeLine;decide) ?_;exact⟨_,vI,q (.put d v) _ ⟨od,hv⟩ (by omega)⟩
 sizeOf_list_dec
 refine ar ?_
 sizeOf_list_dec
 refine dA (fun z2=>?_) (fun z2=>?_)
 ·sizeOf_list_dec
  refine bT (ds:=[.str "sum",.str "less",.str "mul"]) (by show 3<=sizeLine;decide) ?_
  sizeOf_list_dec
  obtain⟨x,hx,ok⟩:∃ x:Str,iy [PyData.str "sum",.str "less",.str "mul"] (kd - 1)=some (.str x)/\(x = "sum"\/x = "mul"\/x = "less"):=by
   obtain rfl | rfl | rfl:kd=1\/kd=2\/kd=3:=by omega
   all_goals exact⟨_,rfl,by simp⟩
  refine eW hx ?_
  sizeOf_list_dec
  refine aA (ds:=[.str x,.int d,.int a,.int b]) (by show 4<=sizeLine;decide) ?_;exact⟨_,wt,q (.op x d a b) _ ⟨ok,od,oa,ob⟩ (by omega)⟩
 sizeOf_list_dec
 refine ar ?_
 sizeOf_list_dec
 refine dA (fun z3=>?_) (fun z3=>?_)
 ·sizeOf_list_dec
  refine aA (ds:=[.str "take",.int d,.int a,.int nn]) (by show 4<=sizeLine;decide) ?_
  sizeOf_list_dec
  refine aA (ds:=[.str "lay",.int b,.int a,.int nn]) (by show 4<=sizeLine;decide) ?_
  sizeOf_list_dec
  refine bT (ds:=[c7 (.mv "take" d a nn),c7 (.mv "lay" b a nn)]) (by show 2<=sizeLine;decide) ?_
  sizeOf_list_dec
  obtain rfl | rfl:kd=4\/kd=5:=by omega
  ·refine eW (D:=c7 (.mv "take" d a nn)) rfl ?_;exact⟨_,wt,q (.mv "take" d a nn) _ ⟨.inl rfl,od,oa,e0,e1⟩ (by omega)⟩
  ·refine eW (D:=c7 (.mv "lay" b a nn)) rfl ?_;exact⟨_,wt,q (.mv "lay" b a nn) _ ⟨.inr rfl,ob,oa,e0,e1⟩ (by omega)⟩
 sizeOf_list_dec
 refine ar ?_
 sizeOf_list_dec
 refine dA (fun z4=>?_) (fun z4=>?_)
 ·sizeOf_list_dec
  refine aL wt (by omega) (by omega) (by omega) fun p W1 p0 p1 wt _=>?_
  sizeOf_list_dec
  refine aA (ds:=[.str "go",.int a,.int p]) (by show 3<=sizeLine;decide) ?_;exact⟨_,wt,q (.go a p) _ ⟨oa,p0,by omega⟩ (by omega)⟩
 sizeOf_list_dec
 refine bT (ds:=[.str "shut",.str "open",.str "home"]) (by show 3<=sizeLine;decide) ?_
 sizeOf_list_dec
 obtain⟨x,hx,ok⟩:∃ x:Str,iy [PyData.str "shut",.str "open",.str "home"] (kd - 7)=some (.str x)/\(x = "shut"\/x = "open"\/x = "home"):=by
  obtain rfl | rfl | rfl:kd=7\/kd=8\/kd=9:=by omega
  all_goals exact⟨_,rfl,by simp⟩
 refine eW hx ?_
 sizeOf_list_dec
 refine aA (ds:=[.str x]) (by show 1<=sizeLine;decide) ?_;exact⟨_,wt,q (.one x) _ ok (by omega)⟩
theorem Ij(F:cM K "_law_mill" "_law_mill" EV f fd)(ak:Dn P w K mg base 1 "_law_draw" f1 d1 ["bag", "many"] (spT (bg Bg) gu))(Bi:Dn P w K mg base 3 "_law_row" f2 d2 ["bag", "many", "spots"] (spT (bg Bg) RO))(bP:mg "range"=none)(dF:mg "tuple"=none):ba P w K mg base cU 4 f fd ["bag"] (spT (bg Bg) Kd):=by
 exact_mod_cast F.Ha sF bN rfl (by nofun);refine⟨_,(af (aF 1 sF.nd (aY bb ae (aq ak hr (aa (ah 0) (aa (ao (bo (bV rfl)) (aq ak hr (aa (ah 0) (aa ae ag)))) ag)))))
  (af (aF 2 sF.nd (ao (bo (bV rfl)) (aq ak hr (aa (ah 0) (aa ae ag)))))
  (af (aF 3 sF.nd (cE iD dF abu (aa (eU (N':=["k", "bag", "many"]) (ix:=[none,some 0,some 1]) ⟨rfl,rfl,rfl,rfl,rfl,rfl⟩ (fb bP (aa (aq ak hr (aa (ah 0) (aa ae ag))) ag)) (fun _ _ _ _=>(bf 0 (show List.Nodup (["k", "bag", "many"]:wv) by decide +kernel))) (fun _ _ _ _=>j4) (fun _ _ _ _=>(aq ak hr (aa (ah 1) (aa (aY bb (ah 2) ae) ag))))) ag)))
  (ai (ax (aX (aa (cE iD dF abu (aa (eU (N':=["k", "bag", "many", "spots"]) (ix:=[none,some 0,some 1,some 2]) ⟨rfl,rfl,rfl,rfl,rfl,rfl⟩ (fb bP (aa (ah 1) ag)) (fun _ _ _ _=>(bf 0 (show List.Nodup (["k", "bag", "many", "spots"]:wv) by decide +kernel))) (fun _ _ _ _=>j4) (fun _ _ _ _=>(aq Bi hr (aa (ah 1) (aa (ah 2) (aa (ah 3) ag)))))) ag)) (aa (ah 3) ag)))))))),?_⟩
 clear hu;symm;refine fun t g O=>⟨_,inferInstance,?_⟩;rintro n ds R ⟨rfl,hn,q⟩;refine cj [_,none,none,none] rfl ?_;have wt:WT t g n t=some (.aI g n):=au;generalize WT t g n=W at wt
 sizeOf_list_dec
 refine bT (ds:=[8,12,40].map PyData.int) (by show 3<=sizeLine;decide) ?_
 sizeOf_list_dec
 refine aL wt (by omega) (by omega) (by omega) fun k0 W1 VU VW wt _=>?_;refine dn VU (by simpa using VW) fun kd FR=>?_;have FR:1<=kd/\kd<=40:=by simp at FR;omega
 sizeOf_list_dec
 refine aL wt (by omega) (by omega) (by omega) fun m W2 m0 m1 wt _=>?_
 sizeOf_list_dec
 refine bT (ds:=[8,3].map PyData.int) (by show 2<=sizeLine;decide) ?_
 sizeOf_list_dec
 refine aL wt (by omega) (by omega) (by omega) fun k1 W3 VX VY wt _=>?_;refine dn VX (by simpa using VY) fun sp vY=>?_;have vY:1<=sp/\sp<=8:=by simp at vY;omega
 sizeOf_list_dec
 refine aL wt (by omega) (by omega) (by omega) fun nb W4 b0 b1 wt _=>?_
 sizeOf_list_dec
 refine nj (NS g t (n+4) 1 fun z=>0<=z/\z<=1+m) (aaH (dR (by omega))) (.nil wt (by omega)) ?_ ?_
 ·rintro i ys W hi _ ⟨bs,k,rfl,hl,hb,wt,hk⟩
  sizeOf_list_dec
  refine aL wt (by omega) (by omega) (by omega) fun z W5 z0 z1 wt _=>?_;exact .more hl hb ⟨z0,by omega⟩ wt (by omega)
 clear wt;rintro ys W5 ⟨bs,k5,rfl,hbl,hbs,wt,Yr⟩;refine dB ?_
 sizeOf_list_dec
 refine⟨_,rfl,.inl ⟨_,bs.map .int,_,rfl,fg (fun _ _=>rfl) _,?_⟩⟩
 sizeOf_list_dec
 refine nj (fun i ys W=>∃(rs:List Rw) (k:Nat),ys=(rs.map c7).map .im/\rs.length=i/\(∀ r∈rs,iG (1+m) r)/\W t=some (.aI g k)/\k<=n+10+9 * i) (aaH (dR (by omega))) ⟨[],k5,rfl,rfl,(fun b hb=>by cases hb),wt,by omega⟩ ?_ ?_
 ·rintro i ys W hi _ ⟨rs,k,rfl,hl,hb,wt,hk⟩
  sizeOf_list_dec
  refine cg (ds:=[.int (1+m),.int sp]) wt ⟨1+m,sp,rfl,by omega,by omega,vY.1,vY.2,by omega,fun r n' ki OW=>cG ?_⟩;refine⟨rs++[r],n',by simp,by simp[hl],fun b mb=>?_,au,by omega⟩;rcases abo.mp mb with c | c
  ·exact hb b c
  ·rw[abd.mp c];exact ki
 clear wt;rintro ys W6 ⟨rs,k6,rfl,VQ,hrs,wt,Td⟩;refine dB ?_
 sizeOf_list_dec
 refine⟨_,rfl,.inl ⟨_,rs.map c7,_,rfl,fg (fun _ _=>rfl) _,?_⟩⟩
 sizeOf_list_dec
 refine aA (ds:=[.tuple (rs.map c7),.tuple (bs.map .int)]) (by show 2<=sizeLine;decide) ?_;have e:(rs.length:Int)=1+m:=by omega
 exact⟨_,wt,q rs bs k6 ⟨by omega,by omega,by rw[e];exact hrs,by omega,fun b hb=>by have:=hbs b hb;omega⟩ (by omega)⟩
theorem EX(F:cM K "_law_state" "_law_state" xU f fd)(ak:Dn P w K mg base 1 "_law_draw" f1 d1 ["bag", "many"] (spT (bg Bg) gu))(dh:Dn P w K mg base 2 "_law_worth" f2 d2 ["bag"] (spT (bg Bg) oG))(bP:mg "range"=none)(dF:mg "tuple"=none)(bj:mg "len"=none):ba P w K mg base cU 3 f fd ["bag", "mill"] (spT (bg Bg) EW):=by
 exact_mod_cast F.Ha kZ bN rfl (by nofun);refine⟨_,(af (aF 2 kZ.nd (aY iK (aq ak hr (aa (ah 0) (aa (aY bb (bJ bq bj aaU (aa (ao (ah 1) ae) ag)) ae) ag))) (aq ak hr (aa (ah 0) (aa ae ag)))))
  (af (aF 3 kZ.nd (ao (bo (aa cS (aa cS (aa (aq ak hr (aa (ah 0) (aa (aY bb (bJ bq bj aaU (aa (ao (ah 1) ae) ag)) ae) ag))) ag)))) (aq ak hr (aa (ah 0) (aa ae ag)))))
  (af (aF 4 kZ.nd (cE iD dF abu (aa (eU (N':=["k", "bag"]) (ix:=[none,some 0]) ⟨rfl,rfl,rfl,rfl,rfl,rfl⟩ (fb bP (aa ae ag)) (fun _ _ _ _=>(bf 0 (show List.Nodup (["k", "bag"]:wv) by decide +kernel))) (fun _ _ _ _=>j4) (fun _ _ _ _=>(aq dh hr (aa (ah 1) ag)))) ag)))
  (af (aF 5 kZ.nd (cE iD dF abu (aa (aY LF (eU (N':=["k", "bag"]) (ix:=[none,some 0]) ⟨rfl,rfl,rfl,rfl,rfl,rfl⟩ (fb bP (aa ae ag)) (fun _ _ _ _=>(bf 0 (show List.Nodup (["k", "bag"]:wv) by decide +kernel))) (fun _ _ _ _=>j4) (fun _ _ _ _=>(aq dh hr (aa (ah 1) ag)))) ae) ag)))
  (ai (ax (aX (aa (ah 2) (aa (ah 4) (aa (ah 5) (aa (gA (aG hu) (aq ak hr (aa (ah 0) (aa ae ag))) ae) (aa (ah 3) ag)))))))))))),?_⟩
 clear hu;symm;refine fun t g O=>⟨_,inferInstance,?_⟩;rintro n ds R ⟨rs,bs,rfl,aaf,hn,q⟩;refine cj [_,_,none,none,none,none] rfl ?_;have wt:WT t g n t=some (.aI g n):=au;generalize WT t g n=W at wt
 sizeOf_list_dec
 rw[aak];refine aL wt (by omega) (by omega) (by omega) fun p1 W1 Te p11 wt _=>?_
 sizeOf_list_dec
 refine aL wt (by omega) (by omega) (by omega) fun p2 W2 p20 p21 wt _=>?_;obtain⟨pl,nL,p0,p1'⟩:∃ pl:Int,p1 * p2=pl/\0<=pl/\pl<=rs.length:=by
  obtain rfl | rfl:p2=0\/p2=1:=by omega
  ·exact⟨0,by omega,by omega,by omega⟩
  ·exact⟨p1,by omega,by omega,by omega⟩
 refine XF (Or.inr ⟨by omega,by omega⟩) ?_;rw[nL]
 sizeOf_list_dec
 rw[aak];refine aL wt (by omega) (by omega) (by omega) fun kp W3 kp0 kp1 wt _=>?_
 sizeOf_list_dec
 refine bT (ds:=[.none,.none,.int kp]) (by show 3<=sizeLine;decide) ?_
 sizeOf_list_dec
 refine aL wt (by omega) (by omega) (by omega) fun kk W4 kk0 kk1 wt _=>?_;obtain⟨kt,hk,ok⟩:∃ kt:Option Int,iy [PyData.none,.none,.int kp] kk=some (mE kt)/\∀ k,kt=some k->0<=k/\k<=(rs.length:Int):=by
  obtain rfl | rfl | rfl:kk=0\/kk=1\/kk=2:=by omega
  ·exact⟨none,rfl,fun _ e=>by cases e⟩
  ·exact⟨none,rfl,fun _ e=>by cases e⟩
  ·exact⟨some kp,rfl,fun _ e=>by cases e;omega⟩
 refine eW hk ?_
 sizeOf_list_dec
 refine nj (NS g t (n+4) 3 Wr) (aaH (dR (by omega))) (.nil wt (by omega)) ?_ ?_
 ·rintro i ys W hi _ ⟨sp,k,rfl,hl,hb,wt,hk⟩
  sizeOf_list_dec
  refine cg (ds:=[]) wt ⟨rfl,by omega,fun wr n' NU OW=>cG ?_⟩;exact .more hl hb NU au (by omega)
 clear wt;rintro ys W5 ⟨sp,k5,rfl,GU,Qg,wt,Yr⟩;refine dB ?_
 sizeOf_list_dec
 refine⟨_,rfl,.inl ⟨_,sp.map .int,_,rfl,fg (fun _ _=>rfl) _,?_⟩⟩
 sizeOf_list_dec
 refine nj (NS g t (n+30) 3 Wr) (aaH (dR (by omega))) (.nil wt (by have:(8:Int).toNat=8:=rfl;omega)) ?_ ?_
 ·rintro i ys W hi _ ⟨sp,k,rfl,hl,hb,wt,hk⟩
  sizeOf_list_dec
  refine cg (ds:=[]) wt ⟨rfl,by omega,fun wr n' NU OW=>cG ?_⟩;exact .more hl hb NU au (by omega)
 clear wt;rintro ys W6 ⟨ce,k6,rfl,Uo,hcw,wt,Td⟩;have c4:ce.length=4:=Uo;refine dB ?_
 sizeOf_list_dec
 refine Ra rfl (by decide) (by decide) (by rw[aak,aak,c4];decide) ?_;rw[show(List.replicate (4:Int).toNat ((ce.map PyData.int).map DV.im)).flatten=((ce++ce++ce++ce).map PyData.int).map .im by show(List.replicate 4 _).flatten=_;simp[List.replicate]];refine dB ?_
 sizeOf_list_dec
 refine⟨_,rfl,.inl ⟨_,(ce++ce++ce++ce).map .int,_,rfl,fg (fun _ _=>rfl) _,?_⟩⟩
 sizeOf_list_dec
 refine aL wt (by have:(4:Int).toNat=4:=rfl;omega) (by omega) (by omega) fun z W7 _ _ wt _=>?_
 sizeOf_list_dec
 refine aA (ds:=[.int pl,.tuple (sp.map .int),.tuple ((ce++ce++ce++ce).map .int),.bool (decide (z=3)),mE kt]) (by show 5<=sizeLine;decide) ?_;refine⟨_,wt,q ⟨pl,sp,ce++ce++ce++ce,decide (z=3),kt⟩ _ ⟨p0,p1',GU,Qg,by simp[c4],fun z hz=>?_,ok⟩ (by have:(4:Int).toNat=4:=rfl;omega)⟩;simp only[abo]at hz;exact hcw z (by rcases hz with((h | h) | h) | h<;>exact h)
end
section
variable {a b c d e g h i j:jP}{ρ:bR}{nx bk ct:bR->Wd->Prop}{rt:DV->Wd->Prop}
theorem Ke(N:bR->Wd->Prop)(h1:∀ k:bR->Wd->Prop,(∀ ρ W,N ρ W->k ρ W)->jQ a (jQ b c) ⟨k,rt,bk,ct⟩ ρ W)(h2:∀ ρ W,N ρ W->d ⟨nx,rt,bk,ct⟩ ρ W):jQ a (jQ b (jQ c d)) ⟨nx,rt,bk,ct⟩ ρ W:=h1 _ h2
end
abbrev NV:Stmt:=top 45
abbrev EY:Stmt:=top 46
abbrev xV:Stmt:=top 47
abbrev xW:Stmt:=top 48
theorem ve:aB ["row", "now", "spots", "one", "other", "worths"] ["row", "now"] (defScope NV):=by ac_rfl
theorem oX:aB ["row", "now", "wrote", "after"] ["row", "now"] (defScope EY):=by ac_rfl
theorem nv:aB ["rings", "now", "beat", "found", "k", "rung"] ["rings", "now", "beat"] (defScope xV):=by ac_rfl
theorem sG:aB ["state", "found", "more"] ["state"] (defScope xW):=by ac_rfl
structure sY where
 (p sp ce ow la tk:Addr)
noncomputable def mM(a:sY)(h:HM):List (Key×DV):=[(.inr "place",.im (.int h.st.place)),(.inr "spots",.pt a.sp),(.inr "cells",.pt a.ce),(.inr "shut",.im (.bool h.st.cK)),(.inr "kept",.im (mE h.st.kept)),(.inr "beat",.im (.int h.aD)),(.inr "crowd",.im (.int h.gm)),(.inr "pressed",.im (.int h.aW)),(.inr "owed",.pt a.ow),(.inr "laid",.pt a.la),(.inr "took",.pt a.tk),(.inr "ends",.im (.int h.ends))]
noncomputable def cH(a:sY)(h:HM):Ws:=[(a.p,.dk (mM a h)),(a.sp,mq (h.st.aQ.map .int)),(a.ce,mq (h.st.cells.map .int)),(a.ow,mq (h.bp.map cR)),(a.la,mq (h.laid.map eI)),(a.tk,mq (h.taken.map .int))]
def Ks(W W':Wd):Prop:=∀ z c,W z=some c->W' z=some c
def Ko(L:Ws)(W W':Wd):Prop:=∀ z c,W z=some c->z ∉ L.map (·.1)->W' z=some c
section
variable {W1:Wd}{a:sY}
theorem Ks.trans(h:Ks W W')(h':Ks W' W1):Ks W W1:=fun z c e=>h' z c (h z c e)
theorem Ks.new(h:Ks W W')(hn:W' p=none)(f:Fr p W' W1):Ks W W1:=fun z c e=>f.at (fun q=>by have:=h z c e;rw[q,hn]at this;cases this) (h z c e)
theorem Ks.old(h:Ks W W')(hn:W p=none)(f:Fr p W' W1):Ks W W1:=fun z c e=>f.at (fun q=>by rw[q,hn]at e;cases e) (h z c e)
theorem Ks.no(h:Ks W W')(hn:W' p=none):W p=none:=by
 cases e:W p with
 | none=>rfl
 | some c=>rw[h p c e]at hn;cases hn
theorem Ks.at_(h:At W L)(k:Ks W W'):At W' L:=h.mono fun x _ e=>k _ _ e
theorem Ko.of(k:Ks W W'):Ko L W W':=fun z c e _=>k z c e
theorem Ko.ks(h:Ko L W W')(k:Ks W' W1):Ko L W W1:=fun z c e n=>k z c (h z c e n)
theorem Ko.fr(h:Ko L W W')(f:Fr p W' W1)(hp:p∈L.map (·.1)):Ko L W W1:=fun z c e n=>f.at (fun q=>n (q▸hp)) (h z c e n)
theorem Ko.new(h:Ko L W W')(hn:W' p=none)(f:Fr p W' W1):Ko L W W1:=fun z c e n=>f.at (fun q=>by have:=h z c e n;rw[q,hn]at this;cases this) (h z c e n)
theorem dZ(hA:At W (cH a h)):W a.p=some (.dk (mM a h)):=hA.get 0 rfl
theorem Ik:ik (mM a h) (.inr "place")=some (.im (.int h.st.place)):=by with_unfolding_all rfl
theorem Il:ik (mM a h) (.inr "spots")=some (.pt a.sp):=by with_unfolding_all rfl
theorem Io:ik (mM a h) (.inr "cells")=some (.pt a.ce):=by with_unfolding_all rfl
theorem NW:ik (mM a h) (.inr "shut")=some (.im (.bool h.st.cK)):=by with_unfolding_all rfl
theorem NY:ik (mM a h) (.inr "kept")=some (.im (mE h.st.kept)):=by with_unfolding_all rfl
theorem NZ:ik (mM a h) (.inr "beat")=some (.im (.int h.aD)):=by with_unfolding_all rfl
theorem Ip:ik (mM a h) (.inr "crowd")=some (.im (.int h.gm)):=by with_unfolding_all rfl
theorem Bj:ik (mM a h) (.inr "pressed")=some (.im (.int h.aW)):=by with_unfolding_all rfl
theorem N0:ik (mM a h) (.inr "owed")=some (.pt a.ow):=by with_unfolding_all rfl
theorem Oa:ik (mM a h) (.inr "laid")=some (.pt a.la):=by with_unfolding_all rfl
theorem Ob:ik (mM a h) (.inr "took")=some (.pt a.tk):=by with_unfolding_all rfl
theorem Oc:ik (mM a h) (.inr "ends")=some (.im (.int h.ends)):=by with_unfolding_all rfl
theorem fu{f:Str}{v:DV}(h':HM)(hA:At W (cH a h))(k:∀ W1,At W1 (cH a h')->Fr a.p W W1->Kc W1)(e:autoParam (oq (mM a h) (.inr f) v=mM a h') ra2)(ht:autoParam ((cH a h').tail=(cH a h).tail) ra0):dput W (.pt a.p) (.im (.str f)) v Kc :=
 zf (dZ hA) rfl (show 12 < sizeLine by decide) fun W1 w1 f1=>k W1 (by have:=hA.gR 0 rfl f1 w1;rw[e]at this;show At W1 ((a.p,.dk (mM a h'))::(cH a h').tail);rw[ht];exact this) f1
theorem Kf{f:Str}{q:Addr}{W0:Wd}{c':Cell}(i:Nat)(a':sY)(h':HM)(hA:At W0 (cH a h))(hq:W0 q=none)(fq:Fr q W0 W)(wq:W q=some c')(k:∀ W1,At W1 (cH a' h')->Fr a.p W W1->Kc W1)(hp:a'.p=a.p)(h0:autoParam (((cH a h).set i (q,c'))[0]?=some (a.p,.dk (mM a h))) ra0)(e:autoParam (oq (mM a h) (.inr f) (.pt q)=mM a' h') ra2)(ht:autoParam (((cH a h).set i (q,c')).tail=(cH a' h').tail) ra0):dput W (.pt a.p) (.im (.str f)) (.pt q) Kc :=
 have h1:=hA.swap i hq fq wq
 zf (h1.get 0 h0) rfl (show 12 < sizeLine by decide) fun W1 w1 f1=>k W1 (by
  have h2:=h1.gR 0 h0 f1 w1;rw[e]at h2;have:((cH a h).set i (q,c')).set 0 (a.p,.dk (mM a' h'))=cH a' h':=by
   cases g:(cH a h).set i (q,c') with
   | nil=>rw[g]at h0;cases h0
   | cons x r=>rw[g]at ht;rw[<- hp];show _::r=(a'.p,Cell.dk (mM a' h'))::(cH a' h').tail;rw[<- ht];rfl
  rw[this]at h2;exact h2) f1
end
local macro_rules | `(tactic| sizeOf_list_dec) => `(tactic| repeat (first
 | array_mem_dec
 | ((with_reducible apply bC);(· exact rfl))
 | ((with_reducible apply eF);(· assumption);(· exact rfl))
 | ((with_reducible apply Nt);(· exact rfl);(· decide))
 | ((with_reducible apply Nu);(· exact rfl);(· decide))
 | ((with_reducible apply Nv);(· exact rfl);(· decide))
 | with_reducible refine ze (by assumption) rfl (by first | exact Ik | exact Il | exact Io | exact NW | exact NY | exact NZ | exact Ip | exact Bj | exact N0 | exact Oa | exact Ob | exact Oc) ?_
 | ((with_reducible apply ph);· decide)
 | ((with_reducible apply j5);· decide)
 | ((with_reducible apply wH);· decide)
 | ((with_reducible apply wI);· decide)
 | (apply bC;(· exact rfl))
 | refine CM ?_
 | refine wG ?_))
theorem qw{k:Int}(w:W p=some (mq (xs.map .int)))(h0:0<=k)(h1:k < xs.length)(h:Q (.im (.int (gI xs k))) W):Mj (.pt p) (.im (.int k)) W Q:=eF (vs:=(xs.map PyData.int).map .im) w (rF (Eb h0 h1)) h
noncomputable def Bk:sU:=fun as W R=>∃(r:Rw) (m:Int) (n:Nat) (a:sY) (h:HM),as=[.im (c7 r),.pt a.p]/\iG m r/\At W (cH a h)/\jY n h.st/\∀ W',Ks W W'->R (.im (fk (r.wrote h.st.aQ h.st.cells))) W'
noncomputable def Kg:sU:=fun as W R=>∃(r:Rw) (m:Int) (n:Nat) (a:sY) (h:HM),as=[.im (c7 r),.pt a.p]/\iG m r/\At W (cH a h)/\jY n h.st/\∀ W',At W' (cH a { h with st:=eG r h.st })->Ko (cH a h) W W'->R (.im (fk (r.wrote h.st.aQ h.st.cells))) W'
noncomputable def l0:sU:=fun as W R=>∃(a:sY) (h:HM) (aD:Int),as=[.im (.list (h.rings.map pairD)),.pt a.p,.im (.int aD)]/\h.rings.length<=60/\h.taken.length<=5000/\At W (cH a h)/\∀ W' p,Ks W W'->W p=none->W' p=some (mq ((h.df aD).map .int))->R (.pt p) W'
theorem xX{k v:Int}(w:W p=some (mq (xs.map .int)))(h0:0<=k)(h1:k < xs.length)(h:∀ W',W' p=some (mq ((xs.set k.toNat v).map .int))->Fr p W W'->Kc W'):yS (.pt p) (.im (.int k)) (.im (.int v)) W Kc :=
 MR (vs:=(xs.map PyData.int).map .im) w (j:=k.toNat) (xa h0 (by rw[aak,aak];exact h1)) fun W' w' f'=>h W' (by rw[w'];unfold mq;rw[adq,adq]) f'
theorem xY(ps:ut)(aD k:Int):(eY ps aD).count k=(ps.filter fun r=>decide (r.2=k)&&decide (r.1<=aD)).length:=by
 unfold eY;induction ps with
 | nil=>rfl
 | cons r ps ih =>
  rw[List.filter_cons,List.filter_cons]
  by_cases h1:r.1<=aD<;>by_cases h2:r.2=k<;>simp[h1,h2,ih]
theorem EZ{a:sY}{x y z:DV}:gj (gj ([]:List (Key×DV)) [(.inr "place",x),(.inr "spots",.pt a.sp),(.inr "cells",.pt a.ce),(.inr "shut",y),(.inr "kept",z)]) (gj [] [(.inr "beat",.im (.int 0)),(.inr "crowd",.im (.int 0)),(.inr "pressed",.im (.int 0)),(.inr "owed",.pt a.ow),(.inr "laid",.pt a.la),(.inr "took",.pt a.tk),(.inr "ends",.im (.int 0))])=[(.inr "place",x),(.inr "spots",.pt a.sp),(.inr "cells",.pt a.ce),(.inr "shut",y),(.inr "kept",z),(.inr "beat",.im (.int 0)),(.inr "crowd",.im (.int 0)),(.inr "pressed",.im (.int 0)),(.inr "owed",.pt a.ow),(.inr "laid",.pt a.la),(.inr "took",.pt a.tk),(.inr "ends",.im (.int 0))]:=by
 kernel_rfl
noncomputable def E1:sU:=fun as W R=>∃ h:HM,as=[.im (i6 h.st)]/\h.aD=0/\h.gm=0/\h.aW=0/\h.bp=[]/\h.laid=[]/\h.taken=[]/\h.ends=0/\jY h.rows.length h.st/\∀ W' a,Ks W W'->(∀ x∈cH a h,W x.1=none)->At W' (cH a h)->R (.pt a.p) W'
section
variable {K:zn}
theorem Od(F:cM K "_law_due" "_law_due" NV f fd)(gK:mg "int"=none):ba P w K mg base cU 1 f fd ["row", "now"] (iW K (bg Bg) Bk):=by
 exact_mod_cast F.Bv ve bN (fun aK W R zz=>by obtain⟨a,b,c,d,g,e,_⟩:=zz; rw[e];rfl);refine⟨_,(af (aF 2 ve.nd (aJ hr (ah 1) aj))
  (af (aO (pf (iQ hu) (ao (ah 0) ae) (aX (bV rfl))) (ai (ax cS)) av)
  (af (aO (ay (aG hu) (ao (ah 0) ae) aj) (ai (ax (aX (aa aj (aa (ao (ah 0) ae) (aa (ao (ah 0) ae) ag)))))) av)
  (af (aF 3 ve.nd (ao (ah 2) (ao (ah 0) ae)))
  (af (aO (ay (aG hu) (ao (ah 0) ae) aj) (ai (ax (aX (aa aj (aa (aY gd (aY bb (ah 3) (ao (ah 0) ae)) ae) (aa (ao (ah 2) (ao (ah 0) ae)) ag)))))) av)
  (af (aO (ay (aG hu) (ao (ah 0) ae) aj) (ai (ax (aX (aa aj (aa (ao (ah 0) ae) (aa (ao (aJ hr (ah 1) aj) (aY gd (aY bb (ah 3) (ao (ah 0) ae)) ae)) ag)))))) av)
  (af (aF 4 ve.nd (ao (ah 2) (ao (ah 0) ae)))
  (af (aF 5 ve.nd (rK (dm aj (aY bb (ah 3) (ah 4)) (dm aj (aY iK (ah 3) (ah 4)) (dm aj (cE jE gK abT (aa (gA gz (ah 3) (ah 4)) ag)) zd)))))
  (ai (ax (aX (aa aj (aa (ao (ah 0) ae) (aa (aY gd (aJ hr (ah 5) (ao (ah 0) ae)) ae) ag)))))))))))))),?_⟩
 clear hu;symm;refine fun O W=>⟨_,inferInstance,?_⟩;rintro aK R ⟨r,m,n0,a,h,rfl,ok,hA,hs,q⟩;have l8:=hs.s8;have sw:=hs.sw;have FQ:=hs.Hz;refine cj [_,_,none,none,none,none] rfl ?_;have w0:=dZ hA;have w1:W a.sp=some (mq (h.st.aQ.map .int)):=hA.get 1 rfl;have w2:W a.ce=some (mq (h.st.cells.map .int)):=hA.get 2 rfl;have q0:=q W fun _ _ e=>e;cases r with
 | put d v =>
  dsimp only[c7]
  sizeOf_list_dec
  refine ar ?_
  sizeOf_list_dec
  refine ar ?_
  sizeOf_list_dec
  exact aA (ds:=[.str "spot",.int d,.int v]) (by show 3<=sizeLine;decide) q0
 | op x d b c =>
  obtain⟨hx,o1,o2,o3⟩:=ok;dsimp only[c7];have fin:∀ W',Ks W W'->∀ v,v % 4294967296=Rw.gives h.st.aQ h.st.cells (.op x d b c)->mm [.im (.str "spot"),.im (.int d),.im (.int (v % 4294967296))] W' R:=fun W' k v e=>by
   rw[e];exact aA (ds:=[.str "spot",.int d,.int _]) (by show 3<=sizeLine;decide) (q W' k)
  obtain⟨c1,c2⟩:=zv sw c;rcases hx with rfl | rfl | rfl
  all_goals
   sizeOf_list_dec
   refine ar ?_
   sizeOf_list_dec
   refine ar ?_
   sizeOf_list_dec
   refine qw w1 o2.1 (by have:=o2.2;omega) ?_
   sizeOf_list_dec
   refine ar ?_
   sizeOf_list_dec
   refine ar ?_
   sizeOf_list_dec
   refine qw w1 o3.1 (by have:=o3.2;omega) ?_
   sizeOf_list_dec
   intro p hp
   have k1:∀ c,Ks W (aH (aH W p (.dk [])) p c):=fun c=>Ks.new (fun _ _ e=>e) hp fun z hz=>by rw[aE hz,aE hz]
   sizeOf_list_dec
   refine⟨au,by show 3<=15;decide,?_⟩
   sizeOf_list_dec
   refine ze au rfl (by with_unfolding_all rfl) ?_
   sizeOf_list_dec
  ·exact fin _ (k1 _) _ rfl
  ·exact fin _ (k1 _) _ rfl
  ·refine fin _ (k1 _) _ ?_;show _=if gI h.st.aQ b < gI h.st.aQ c then(1:Int)else 0;split<;>simp_all
 | mv x d b n =>
  obtain⟨hx,o1,o2,o3⟩:=ok;dsimp only[c7];rcases hx with rfl | rfl
  all_goals
   sizeOf_list_dec
   refine ar ?_
   sizeOf_list_dec
   refine ar ?_
   sizeOf_list_dec
   refine qw w1 o2.1 (by have:=o2.2;omega) ?_
   sizeOf_list_dec
   refine ar ?_
   sizeOf_list_dec
  ·refine ar ?_
   sizeOf_list_dec
   refine qw w2 (abJ _ (by decide)) (by rw[FQ];exact abt _ (by decide)) ?_
   sizeOf_list_dec
   exact aA (ds:=[.str "spot",.int d,.int _]) (by show 3<=sizeLine;decide) q0
  ·refine qw w1 o1.1 (by have:=o1.2;omega) ?_
   sizeOf_list_dec
   exact aA (ds:=[.str "cell",.int _,.int _]) (by show 3<=sizeLine;decide) q0
 | go b p =>
  dsimp only[c7]
  sizeOf_list_dec
  refine ar ?_
  sizeOf_list_dec
  exact q0
 | one x =>
  dsimp only[c7];rcases ok with rfl | rfl | rfl
  all_goals
   sizeOf_list_dec
   refine ar ?_
   sizeOf_list_dec
   exact q0
theorem Iq(F:cM K "_law_goes" "_law_goes" EY f fd)(eB:Dn P w K mg base 1 "_law_due" f1 d1 ["row", "now"] (iW K (bg Bg) Bk))(gK:mg "int"=none):ba P w K mg base cU 2 f fd ["row", "now"] (iW K (bg Bg) Kg):=by
 exact_mod_cast F.Bv oX bN (fun aK W R zz=>by obtain⟨a,b,c,d,g,e,_⟩:=zz; rw[e];rfl);refine⟨_,(af (aF 2 oX.nd (aq eB hr (aa (ah 0) (aa (ah 1) ag))))
  (af (aF 3 oX.nd (aY bb (aJ hr (ah 1) aj) ae))
  (af (aO (gN (w_and (ay (aG hu) (ao (ah 0) ae) aj) (bx (ay (bD hu) (ao (aJ hr (ah 1) aj) (ao (ah 0) ae)) ae)))) (ai (aF 3 oX.nd (ao (ah 0) ae))) av)
  (af (aO (ay (aG hu) (ao (ah 0) ae) aj) (af (aO (fc (aJ hr (ah 1) aj)) (ai (aF 3 oX.nd (aJ hr (ah 1) aj))) av)
   (ai (fh hr (ah 1) aj cS))) av)
  (af (aO (pf (iQ hu) (ao (ah 0) ae) (aX (bV rfl))) (ai (fh hr (ah 1) aj (gA (aG hu) (ao (ah 0) ae) aj))) av)
  (af (aO (fc (ah 2)) (ai (tX (ao (ah 2) ae) (yH (aJ hr (ah 1) (ao (bo (bV rfl)) (cE jE gK abT (aa (gA (aG hu) (ao (ah 2) ae) aj) ag)))) (ao (ah 2) ae) set_list))) av)
  (af (fh hr (ah 1) aj (ah 3))
  (ai (ax (ah 2)))))))))),?_⟩
 clear hu;symm;refine fun O W=>⟨_,inferInstance,?_⟩;rintro aK R ⟨r,m,n0,a,h,rfl,ok,hA,hs,q⟩;refine cj [_,_,none,none] rfl ?_
 sizeOf_list_dec
 refine bK ⟨r,m,n0,a,h,rfl,ok,hA,hs,fun W1 k1=>?_⟩;have qo:=k1.at_ hA;have w0:=dZ qo;have w1:W1 a.sp=some (mq (h.st.aQ.map .int)):=qo.get 1 rfl;have NU:=fZ ok hs.sw hs.cw;have q1:∀ W',At W' (cH a { h with st:=eG r h.st })->Ko (cH a h) W1 W'->R (.im (fk (r.wrote h.st.aQ h.st.cells))) W':=fun W' h1 h2=>q W' h1 fun z c e n=>h2 z c (k1 z c e) n;unfold eG at q1;generalize r.wrote h.st.aQ h.st.cells=wr at *;clear q hA
 sizeOf_list_dec
 refine Ke (fun ρ W'=>At W' (cH a { h with st:={ h.st with cK:=kR h.st.cK r,kept:=js h.st.kept r } })/\Ko (cH a h) W1 W'/\ρ=[some (.im (c7 r)),some (.pt a.p),some (.im (fk wr)),some (.im (.int (dq h.st.aQ h.st.place h.st.kept r)))]) (fun kk jn=>?_) ?_
 ·cases r with
  | put d v =>
   dsimp only[c7]
   sizeOf_list_dec
   refine ar ?_
   sizeOf_list_dec
   refine ar ?_
   sizeOf_list_dec
   exact jn _ W1 ⟨qo,Ko.of fun _ _ e=>e,rfl⟩
  | op x d b c =>
   dsimp only[c7];rcases ok.1 with rfl | rfl | rfl
   all_goals
    sizeOf_list_dec
    refine ar ?_
    sizeOf_list_dec
    refine ar ?_
    sizeOf_list_dec
    exact jn _ W1 ⟨qo,Ko.of fun _ _ e=>e,rfl⟩
  | mv x d b n =>
   dsimp only[c7];rcases ok.1 with rfl | rfl
   all_goals
    sizeOf_list_dec
    refine ar ?_
    sizeOf_list_dec
    refine ar ?_
    sizeOf_list_dec
    exact jn _ W1 ⟨qo,Ko.of fun _ _ e=>e,rfl⟩
  | go b p =>
   dsimp only[c7];have hl:=hs.s8
   sizeOf_list_dec
   refine gh (fun ρ W'=>W1=W'/\ρ=[some (.im (c7 (.go b p))),some (.pt a.p),some (.im (fk wr)),some (.im (.int (dq h.st.aQ h.st.place h.st.kept (.go b p))))]) (fun k2 vJ=>?_) ?_
   ·sizeOf_list_dec
    refine qw w1 ok.1.1 (by have:=ok.1.2;omega) ?_
    sizeOf_list_dec
    refine og (fun e=>?_) (fun e=>?_)
    ·sizeOf_list_dec
     exact vJ _ _ ⟨rfl,by rw[show dq h.st.aQ h.st.place h.st.kept (.go b p)=p from aaA e];rfl⟩
    ·exact vJ _ _ ⟨rfl,by rw[show dq h.st.aQ h.st.place h.st.kept (.go b p)=h.st.place+1 from aaE e];rfl⟩
   rintro ρ _ ⟨rfl,rfl⟩;dsimp only[c7]
   sizeOf_list_dec
   refine ar ?_
   sizeOf_list_dec
   exact jn _ W1 ⟨qo,Ko.of fun _ _ e=>e,rfl⟩
  | one x =>
   dsimp only[c7];rcases ok with rfl | rfl | rfl
   ·sizeOf_list_dec
    refine ar ?_
    sizeOf_list_dec
    refine ar ?_
    sizeOf_list_dec
    refine fu { h with st:={ h.st with cK:=true } } qo fun W2 fw f2=>?_;exact jn _ W2 ⟨fw,(Ko.of fun _ _ e=>e).fr f2 (by simp[cH]),rfl⟩
   ·sizeOf_list_dec
    refine ar ?_
    sizeOf_list_dec
    refine ar ?_
    sizeOf_list_dec
    refine fu { h with st:={ h.st with cK:=false } } qo fun W2 fw f2=>?_;exact jn _ W2 ⟨fw,(Ko.of fun _ _ e=>e).fr f2 (by simp[cH]),rfl⟩
   ·sizeOf_list_dec
    refine ar ?_
    sizeOf_list_dec
    refine ar ?_
    sizeOf_list_dec
    refine gh (fun ρ W'=>W1=W'/\ρ=[some (.im (c7 (.one "home"))),some (.pt a.p),some (.im (fk wr)),some (.im (.int (dq h.st.aQ h.st.place h.st.kept (.one "home"))))]) (fun k2 vJ=>?_) ?_
    ·sizeOf_list_dec
     cases ek:h.st.kept with
     | none =>
      sizeOf_list_dec
      exact vJ _ _ ⟨rfl,by rw[show dq h.st.aQ h.st.place h.st.kept (.one "home")=h.st.place+1 by simp[dq,ek]];rfl⟩
     | some v =>
      sizeOf_list_dec
      rw[ek];exact vJ _ _ ⟨rfl,by rw[show dq h.st.aQ h.st.place h.st.kept (.one "home")=v by simp[dq,ek]];rfl⟩
    rintro ρ _ ⟨rfl,rfl⟩;dsimp only[c7]
    sizeOf_list_dec
    refine fu { h with st:={ h.st with kept:=none } } qo fun W2 fw f2=>?_
    sizeOf_list_dec
    refine fu { h with st:={ h.st with kept:=none,cK:=false } } fw fun W3 iJ f3=>?_;exact jn _ W3 ⟨iJ,((Ko.of fun _ _ e=>e).fr f2 (by simp[cH])).fr f3 (by simp[cH]),rfl⟩
 clear w0 w1 qo;rintro ρ W2 ⟨hA,ko,rfl⟩;have w0:=dZ hA;have w1:W2 a.sp=some (mq (h.st.aQ.map .int)):=hA.get 1 rfl;have w2:W2 a.ce=some (mq (h.st.cells.map .int)):=hA.get 2 rfl;have l8:=hs.s8;have FQ:=hs.Hz;refine ar ?_;cases wr with
 | none =>
  sizeOf_list_dec
  refine fu { h with st:={ h.st with cK:=kR h.st.cK r,kept:=js h.st.kept r,place:=dq h.st.aQ h.st.place h.st.kept r } } hA fun W3 iJ f3=>?_
  sizeOf_list_dec
  exact q1 W3 iJ (ko.fr f3 (by simp[cH]))
 | some t =>
  obtain⟨k,i,v⟩:=t;dsimp only[fk];obtain⟨⟨rfl,i0,i1⟩ | ⟨rfl,i0,i1⟩,_⟩:=NU
  ·sizeOf_list_dec
   refine bT (ds:=[.str "spots",.str "cells"]) (by show 2<=sizeLine;decide) ?_
   sizeOf_list_dec
   refine eW (D:=.str "spots") rfl ?_
   sizeOf_list_dec
   refine xX w1 i0 (by omega) fun W3 w3 f3=>?_;have iJ:At W3 (cH a { h with st:={ h.st with cK:=kR h.st.cK r,kept:=js h.st.kept r,aQ:=h.st.aQ.set i.toNat v } }):=hA.gR 1 rfl f3 w3;have w4:=dZ iJ
   sizeOf_list_dec
   refine fu { h with st:={ h.st with cK:=kR h.st.cK r,kept:=js h.st.kept r,aQ:=h.st.aQ.set i.toNat v,place:=dq h.st.aQ h.st.place h.st.kept r } } iJ fun W4 jU f4=>?_
   sizeOf_list_dec
   exact q1 W4 jU ((ko.fr f3 (by simp[cH])).fr f4 (by simp[cH]))
  ·sizeOf_list_dec
   refine bT (ds:=[.str "spots",.str "cells"]) (by show 2<=sizeLine;decide) ?_
   sizeOf_list_dec
   refine eW (D:=.str "cells") rfl ?_
   sizeOf_list_dec
   refine xX w2 i0 (by omega) fun W3 w3 f3=>?_;have iJ:At W3 (cH a { h with st:={ h.st with cK:=kR h.st.cK r,kept:=js h.st.kept r,cells:=h.st.cells.set i.toNat v } }):=hA.gR 2 rfl f3 w3;have w4:=dZ iJ
   sizeOf_list_dec
   refine fu { h with st:={ h.st with cK:=kR h.st.cK r,kept:=js h.st.kept r,cells:=h.st.cells.set i.toNat v,place:=dq h.st.aQ h.st.place h.st.kept r } } iJ fun W4 jU f4=>?_
   sizeOf_list_dec
   exact q1 W4 jU ((ko.fr f3 (by simp[cH])).fr f4 (by simp[cH]))
theorem E2(F:cM K "_law_waits" "_law_waits" xV f fd)(bP:mg "range"=none)(bj:mg "len"=none):ba P w K mg base cU 1 f fd ["rings", "now", "beat"] (iW K (bg Bg) l0):=by
 exact_mod_cast F.Bv nv bN (fun aK W R zz=>by obtain⟨a,b,c,e,_⟩:=zz; rw[e];rfl);refine⟨_,(af (aF 3 nv.nd (bo ag))
  (af (kD (fb bP (aa ae ag)) (bf 4 nv.nd) (af (aF 5 nv.nd (bJ bq bj aaU (aa (eU (N':=["at", "one", "k", "beat"]) (ix:=[none,none,some 4,some 2]) ⟨rfl,rfl,rfl,rfl,rfl,rfl⟩ (eJ (ah 0)) (fun _ _ _ _=>(jl (n:=2) (bU (bf 0 (show List.Nodup (["at", "one", "k", "beat"]:wv) by decide +kernel)) (bU (bf 1 (show List.Nodup (["at", "one", "k", "beat"]:wv) by decide +kernel)) jd)))) (fun _ _ _ _=>(gB (gN (w_and (ay (aG hu) (ah 1) (ah 2)) (bx (ay BY (ah 0) (ah 3))))))) (fun _ _ _ _=>ae)) ag)))
   (ai (aO (ay yq (ah 5) (bJ bq bj aaU (aa (eU (N':=["one", "k"]) (ix:=[none,some 4]) ⟨rfl,rfl,rfl,rfl,rfl,rfl⟩ (eJ (aJ hr (ah 1) aj)) (fun _ _ _ _=>(bf 0 (show List.Nodup (["one", "k"]:wv) by decide +kernel))) (fun _ _ _ _=>(gB (ay (aG hu) (ah 0) (ah 1)))) (fun _ _ _ _=>ae)) ag))) (ai (dO (jN aaJ aaS aaT cY (ah 3) (aa (ah 4) ag)))) av))))
  (ai (ax (ah 3))))),?_⟩
 clear hu;symm;refine fun O W=>⟨_,inferInstance,?_⟩;rintro aK R ⟨a,h,aD,rfl,VQ,XT,hA,q⟩;refine cj [_,_,_,none,none,none] rfl ?_
 sizeOf_list_dec
 refine gH (aaK _) fun p W1 hp wp fp=>?_;have k1:Ks W W1:=Ks.new (fun _ _ e=>e) hp fp;clear fp
 sizeOf_list_dec
 refine ar ?_
 sizeOf_list_dec
 refine kL (fun i ρ W'=>∃ u4 u5,ρ=[some (.im (.list (h.rings.map pairD))),some (.pt a.p),some (.im (.int aD)),some (.pt p),u4,u5]/\Ks W W'/\W' p=some (.lst (((([0,1,2,3]:wn).take i).filter (fun k=>decide (h.taken.count k < (eY h.rings aD).count k))).map PyData.int |>.map .im))) ⟨_,_,rfl,k1,wp⟩ ?_ ?_
 ·clear wp k1;rintro i ρ W1 hi ⟨u3,u4,rfl,k1,wp⟩;have w0:=dZ (k1.at_ hA);have wk:W1 a.tk=some (.lst ((h.taken.map PyData.int).map .im)):=(k1.at_ hA).get 5 rfl;have hi4:i < 4:=by omega
  have ei:([0,1,2,3]:wn).take (i+1)=([0,1,2,3]:wn).take i++[((i:Nat):Int)]:=by
   obtain rfl | rfl | rfl | rfl:i=0\/i=1\/i=2\/i=3:=by omega
   all_goals rfl
  rw[Int.zero_add];generalize ((i:Nat):Int)=k at ei
  sizeOf_list_dec
  refine rG (fun i ys W'=>W'=W1/\ys=(List.replicate ((h.rings.take i).filter fun r=>decide (r.2=k)&&decide (r.1<=aD)).length (PyData.int 1)).map .im) (by rw[aak];exact aaH (cm (by omega))) ⟨rfl,rfl⟩ ?_ ?_
  ·rintro j d ys _ hd _ ⟨rfl,rfl⟩;rw[aap]at hd;obtain⟨r,hr,rfl⟩:=aaw.mp hd;have et:h.rings.take (j+1)=h.rings.take j++[r]:=by rw[aaM,hr];rfl
   unfold pairD;rw[et,aa4]
   sizeOf_list_dec
   refine dA (fun e1=>?_) (fun e1=>?_)
   ·sizeOf_list_dec
    refine dA (fun e2=>?_) (fun e2=>?_)
    ·sizeOf_list_dec
     exact⟨rfl,by simp[show r.2=k from e1,show r.1<=aD from e2,List.replicate_succ']⟩
    ·exact⟨rfl,by simp[show ¬ r.1<=aD from e2]⟩
   ·exact⟨rfl,by simp[show ¬ r.2=k from e1]⟩
  ·rintro ys _ ⟨rfl,rfl⟩;rw[aak,aa2,<- xY];refine dB ?_
   sizeOf_list_dec
   refine fi (fun i ys W'=>W'=_/\ys=(List.replicate ((h.taken.take i).count k) (PyData.int 1)).map .im) (by rw[aak];exact aaH (cm (by omega))) ⟨rfl,rfl⟩ (by rintro _ _ _ ⟨rfl,_⟩;exact wk) ?_ ?_
   ·rintro j d ys _ hd _ ⟨rfl,rfl⟩;rw[aap]at hd;obtain⟨r,hr,rfl⟩:=aaw.mp hd;have et:h.taken.take (j+1)=h.taken.take j++[r]:=by rw[aaM,hr];rfl
    rw[et,List.count_append]
    sizeOf_list_dec
    refine dA (fun e1=>?_) (fun e1=>?_)
    ·sizeOf_list_dec
     exact⟨rfl,by simp[show r=k from e1,List.replicate_succ']⟩
    ·exact⟨rfl,by simp[show ¬ r=k from e1]⟩
   ·rintro ys _ ⟨rfl,rfl⟩;rw[aak,aa2];refine dB ?_
    sizeOf_list_dec
    rw[acE,acE]
    sizeOf_list_dec
    rw[ei];refine dA (fun e1=>?_) (fun e1=>?_)
    ·sizeOf_list_dec
     refine dD wp (by rw[aak,aak];exact cm (aaq (acd ..) (by rw[abk];omega))) fun W2 w2 f2=>?_;exact⟨_,_,rfl,k1.old hp f2,by rw[w2,aa4];simp[show h.taken.count k < (eY h.rings aD).count k by omega]⟩
    ·exact⟨_,_,rfl,k1,by rw[wp,aa4];simp[show ¬ h.taken.count k < (eY h.rings aD).count k by omega]⟩
 ·clear wp k1;rintro ρ W1 ⟨u3,u4,rfl,k1,wp⟩
  sizeOf_list_dec
  exact q W1 p k1 hp wp
theorem E3(F:cM K "_law_begin" "_law_begin" xW f fd)(eQ:mg "list"=none):ba P w K mg base cU 1 f fd ["state"] (iW K (bg Bg) E1):=by
 exact_mod_cast F.Bv sG bN (fun aK W R zz=>by obtain⟨a,e,_⟩:=zz; rw[e];rfl);refine⟨_,(af (aF 1 sG.nd (rK (dm aj (ao (ah 0) ae) (dm aj (cE fE eQ aby (aa (ao (ah 0) ae) ag)) (dm aj (cE fE eQ aby (aa (ao (ah 0) ae) ag)) (dm aj (ao (ah 0) ae) (dm aj (ao (ah 0) ae) zd)))))))
  (af (aF 2 sG.nd (rK (dm aj ae (dm aj ae (dm aj ae (dm aj (bo ag) (dm aj (bo ag) (dm aj (bo ag) (dm aj ae zd)))))))))
  (af (dO (jN PySem.F.plainAttrs_dict ac5 PySem.F.type_dict_update Hx (ah 1) (aa (ah 2) ag)))
  (ai (ax (ah 1)))))),?_⟩
 clear hu;symm;refine fun O W=>⟨_,inferInstance,?_⟩;rintro aK R ⟨h,rfl,e1,e2,e3,e4,e5,e6,e7,hs,q⟩;refine cj [_,none,none] rfl ?_;have l8:=hs.s8;have FQ:=hs.Hz
 sizeOf_list_dec
 intro p hp;have k1:Ks W (aH W p (.dk [])):=Ks.new (fun _ _ e=>e) hp fun z hz=>aE hz;have a1:At (aH W p (.dk [])) [(p,.dk [])]:=At.cons (L:=[]) ⟨List.nodup_nil,fun _ h=>by cases h⟩ hp (fun z hz=>aE hz) au
 sizeOf_list_dec
 refine rJ (kK fun s W2 mx w2 f2=>?_);have ns:=k1.no mx;replace k1:=k1.new mx f2;replace a1:=a1.cons mx f2 w2
 sizeOf_list_dec
 refine rJ (kK fun c W3 VZ w3 f3=>?_);have nc:=k1.no VZ;replace k1:=k1.new VZ f3;replace a1:=a1.cons VZ f3 w3
 sizeOf_list_dec
 refine⟨a1.get 2 rfl,by show 5<=15;decide,?_⟩;generalize hd:gj ([]:List (Key×DV)) _=dd;have k2:Ks W (aH W3 p (.dk dd)):=k1.old hp fun z hz=>aE hz;have a2:At (aH W3 p (.dk dd)) [(c,mq (h.st.cells.map .int)),(s,mq (h.st.aQ.map .int)),(p,.dk dd)]:=a1.set 2 rfl;generalize aH W3 p (.dk dd)=W4 at k2 a2
 sizeOf_list_dec
 intro m hm;have k3:Ks W (aH W4 m (.dk [])):=k2.new hm fun z hz=>aE hz;have a3:=a2.cons (W':=aH W4 m (.dk [])) hm (fun z hz=>aE hz) au;have km:=k2.no hm
 sizeOf_list_dec
 refine gH (aaK _) fun ow W5 ho wo fo=>?_;have k4:=k3.new ho fo;have a4:=a3.cons ho fo wo
 sizeOf_list_dec
 refine gH (aaK _) fun la W6 hl wl fl=>?_;have k5:=k4.new hl fl;have a5:=a4.cons hl fl wl
 sizeOf_list_dec
 refine gH (aaK _) fun tk W7 ht wt ft=>?_;have k6:=k5.new ht ft;have a6:=a5.cons ht ft wt
 sizeOf_list_dec
 refine⟨a6.get 3 rfl,by show 7<=15;decide,?_⟩;generalize hd2:gj ([]:List (Key×DV)) _=d2;have k7:Ks W (aH W7 m (.dk d2)):=k6.old km fun z hz=>aE hz;have a7:=a6.set (c':=.dk d2) 3 rfl;generalize aH W7 m (.dk d2)=W8 at k7 a7;have w8:=a7.get 6 rfl
 sizeOf_list_dec
 have i4:p≠m:=a7.key 3 rfl (j:=6) rfl (by decide);refine Nr i4 (a7.get 6 rfl) (a7.get 3 rfl) (kvs':=mM ⟨p,s,c,ow,la,tk⟩ h) (by rw[<- hd,<- hd2];show 12<=sizeLine;decide) (by rw[<- hd,<- hd2];unfold mM;rw[e1,e2,e3,e7];exact EZ (a:=⟨p,s,c,ow,la,tk⟩)) fun W9 w9 f9=>?_;have k8:=k7.old hp f9;have a8:=a7.gR 6 rfl f9 w9
 sizeOf_list_dec
 have a9:=(a8.perm (List.reverse_perm _).symm).sub (L':=[(p,.dk (mM ⟨p,s,c,ow,la,tk⟩ h)),(s,mq (h.st.aQ.map .int)),(c,mq (h.st.cells.map .int)),(ow,.lst []),(la,.lst []),(tk,.lst [])]) (.cons₂ _ (.cons₂ _ (.cons₂ _ (.cons _ (.refl _)))));refine q W9 ⟨p,s,c,ow,la,tk⟩ k8 (fun x hx=>?_) (by unfold cH;rw[e4,e5,e6];exact a9);simp only[cH,aan,abf,acC]at hx;rcases hx with rfl | rfl | rfl | rfl | rfl | rfl
 ·exact hp
 ·exact ns
 ·exact nc
 ·exact k3.no ho
 ·exact k4.no hl
 ·exact k5.no ht
end
abbrev E4:Stmt:=top 49
theorem l4:aB ["mill", "rings", "terms", "now", "event", "rows", "row", "touched", "due", "wrote"] ["mill", "rings", "terms", "now", "event"] (defScope E4):=by ac_rfl
noncomputable def jx(h:HM):PyData:=.tuple [.int h.width,.int h.room,.int h.queue,.int h.eS,.int h.longest]
noncomputable def Kh:sU:=fun as W R=>∃(a:sY) (h:HM) (b pl:Int) (t:kS),as=[.im (bO h.rows h.bQ),.im (.list (h.rings.map pairD)),.im (jx h),.pt a.p,.im (fm (.fin b pl t))]/\eC h/\1<=h.width/\jv t.jS/\At W (cH a h)/\∀ W',Ks W W'->R (.im (mH (h.j1 b pl t))) W'
noncomputable def gn:Rw->List Int
 | .put d _=>[d]
 | .op _ d a b=>[d,a,b]
 | .mv _ d a _=>[d,a]
 | .go a _=>[a]
 | .one _=>[]
theorem E5{r:Rw}(ok:iG m r)(x:Int):fM r x=decide (x∈gn r):=by
 have k:∀(x:Str) (ps:wv),(cf.lookup x).getD []=ps->∀ r,HR r=x->pA r=ps:=fun x ps e r h=>by unfold pA;rw[h,e]
 have n1:¬ ("d":Str) = "a":=by decide
 have n2:¬ ("d":Str) = "b":=by decide
 have n3:¬ ("worth":Str) = "a":=by decide
 have n4:¬ ("worth":Str) = "b":=by decide
 have n5:¬ ("n":Str) = "a":=by decide
 have n6:¬ ("n":Str) = "b":=by decide
 have n7:¬ ("a":Str) = "d":=by decide
 have n8:¬ ("b":Str) = "d":=by decide
 have n9:¬ ("n":Str) = "d":=by decide
 have m1:¬ ("p":Str) = "a":=by decide
 have m2:¬ ("p":Str) = "b":=by decide
 have m3:¬ ("p":Str) = "d":=by decide
 have m4:¬ ("b":Str) = "a":=by decide
 have fin:∀{c:Bool} {p:Prop} [Decidable p],(c=true↔p)->c=decide p:=fun{c p _} h=>by cases c<;>simp_all
 refine fin ?_;unfold fM;cases r with
 | put d v=>rw[k "put" [("d":Str), "worth"] (by decide +kernel) _ rfl];simp[bZ,c8,kT,gn,n1,n2,n3,n4]
 | op y d a b =>
  have e:pA (.op y d a b)=[("d":Str), "a", "b"]:=by
   obtain⟨rfl | rfl | rfl,_⟩:=ok
   ·exact k "sum" _ (by decide +kernel) _ rfl
   ·exact k "mul" _ (by decide +kernel) _ rfl
   ·exact k "less" _ (by decide +kernel) _ rfl
  rw[e];simp[bZ,c8,kT,gn,n1,n2,n7,n8,m4]
  by_cases e:b=a<;>simp[e]<;>omega
 | mv y d a n =>
  obtain⟨rfl | rfl,_⟩:=ok
  ·rw[k "take" [("d":Str), "a", "n"] (by decide +kernel) _ rfl];simp[bZ,c8,kT,gn,n1,n2,n5,n6];omega
  ·rw[k "lay" [("b":Str), "a", "n"] (by decide +kernel) _ rfl];simp[bZ,c8,kT,gn,n1,n2,n5,n6,n7,n8,n9,m4];by_cases e:a=d<;>simp[e]
 | go a p=>rw[k "go" [("a":Str), "p"] (by decide +kernel) _ rfl];simp[bZ,c8,kT,gn,n7,m1,m2,m3]
 | one y=>obtain rfl | rfl | rfl:=ok<;>(rw[k _ [] (by decide +kernel) _ rfl];simp[bZ,c8,kT,gn])
theorem E6{r:Rw}(ok:iG m r):uU r=decide (HR r∈([("mul":Str), "take"])):=by
 cases r with
 | put d v=>rfl
 | op y d a b=>rcases ok.1 with rfl | rfl | rfl<;>rfl
 | mv y d a n=>rcases ok.1 with rfl | rfl<;>rfl
 | go a p=>rfl
 | one y=>rcases ok with rfl | rfl | rfl<;>rfl
theorem cQ(ds:wE):PyData.eqv (.list ds) (.list [])=decide (ds=[]):=by cases ds<;>rfl
theorem lb:∀ os:List (Int×Int×Int×Int),PyData.canLayAll0 (os.map cR)=true
 | []=>rfl
 | o::r=>by rw[aaz];unfold PyData.canLayAll0;rw[lb r];rfl
theorem vf{x:α}{r:List α}:iy (x::r) 0=some x:=show iy (x::r) ((0:Nat):Int)=_ from bY rfl
theorem E7{a b c:jP}{ρ:bR}{nx bk ct:bR->Wd->Prop}{rt:DV->Wd->Prop}(N:bR->Wd->Prop)(h1:∀ k:bR->Wd->Prop,(∀ ρ W,N ρ W->k ρ W)->jQ a b ⟨k,rt,bk,ct⟩ ρ W)(h2:∀ ρ W,N ρ W->c ⟨nx,rt,bk,ct⟩ ρ W):jQ a (jQ b c) ⟨nx,rt,bk,ct⟩ ρ W:=h1 _ h2
theorem hU{c:mY}{a b:jP}{De:gG}{ρ:bR}(N:Bool->Wd->Prop)(h1:∀ Q:Bool->Wd->Prop,(∀ k W',N k W'->Q k W')->c ρ W Q)(h2:∀ k W',N k W'->if k=true then a De ρ W' else b De ρ W'):Mn c a b De ρ W:=h1 _ h2
def Ki:Rw->Int
 | .put _ _=>2
 | .go _ _=>2
 | .mv _ _ _ _=>3
 | _=>4
theorem Ir{r:Rw}(ok:iG m r):(ik (gj ([]:List (Key×DV)) [(.inr "put",.im (.int 2)),(.inr "go",.im (.int 2)),(.inr "take",.im (.int 3)),(.inr "lay",.im (.int 3))]) (.inr (HR r))).getD (.im (.int 4))=.im (.int (Ki r)):=by
 cases r with
 | put d v=>kernel_rfl
 | op y d a b=>obtain⟨rfl | rfl | rfl,_⟩:=ok<;>kernel_rfl
 | mv y d a n=>obtain⟨rfl | rfl,_⟩:=ok<;>kernel_rfl
 | go a p=>kernel_rfl
 | one y=>obtain rfl | rfl | rfl:=ok<;>kernel_rfl
theorem Oe{r:Rw}(ok:iG m r):cutD (PyData.str (HR r)::(kT r).map PyData.int) (some 1) (some (Ki r))=(gn r).map PyData.int:=by cases r<;>rfl
section
variable {K:zn}
theorem Iu(F:cM K "_law_end_cause" "_law_end_cause" E4 f fd)(eB:Dn P w K mg base 1 "_law_due" f1 d1 ["row", "now"] (iW K (bg Bg) Bk))(cD:Dn P w K mg base 1 "_law_waits" f2 d2 ["rings", "now", "beat"] (iW K (bg Bg) l0))(eQ:mg "list"=none)(bj:mg "len"=none):ba P w K mg base cU 2 f fd ["mill", "rings", "terms", "now", "event"] (iW K (bg Bg) Kh):=by
 exact_mod_cast F.Bv l4 bN (fun aK W R zz=>by obtain⟨a,b,c,d,g,e,_⟩:=zz; rw[e];rfl);refine⟨_,(af (aF 5 l4.nd (ao (ah 0) ae))
  (af (aO (ay (aG hu) (aJ hr (ah 3) aj) (bJ bq bj aaU (aa (ah 5) ag))) (ai (ax aj)) av)
  (af (aO (ay (bD hu) (ao (ah 4) ae) (aJ hr (ah 3) aj)) (ai (ax aj)) av)
  (af (aO (gN (w_and (ay (aG hu) (ao (ah 4) ae) (aJ hr (ah 3) aj)) (bx (ay i9 (aJ hr (ah 3) aj) (ao (ah 2) ae))))) (ai (ax aj)) av)
  (af (aO (gN (w_and (jX (nW (aJ hr (ah 3) aj))) (w_and (ay i9 (aJ hr (ah 3) aj) (ao (ah 2) ae)) (bx (ay (bD hu) (aq cD hr (aa (ah 1) (aa (ah 3) (aa (ao (ah 4) ae) ag)))) (bo ag)))))) (ai (ax aj)) av)
  (af (aF 6 l4.nd (ao (ah 5) (aJ hr (ah 3) aj)))
  (af (aF 7 l4.nd (cE fE eQ aby (aa (j3 g9 (ah 6) (eM ae) (eM (jN PySem.F.plainAttrs_dict PySem.F.slot_dict_get PySem.F.type_dict_get Hw (rK (dm aj ae (dm aj ae (dm aj ae (dm aj ae zd))))) (aa (ao (ah 6) ae) (aa ae ag))))) ag)))
  (af (aO (ay (bD hu) (eU (N':=["one", "touched"]) (ix:=[none,some 7]) ⟨rfl,rfl,rfl,rfl,rfl,rfl⟩ (eJ (aJ hr (ah 3) aj)) (fun _ _ _ _=>(bf 0 (show List.Nodup (["one", "touched"]:wv) by decide +kernel))) (fun _ _ _ _=>(gB (pf (iQ hu) (ao (ah 0) ae) (ah 1)))) (fun _ _ _ _=>(ah 0))) (bo ag)) (ai (ax aj)) av)
  (af (aF 8 l4.nd (aq eB hr (aa (ah 6) (aa (ah 3) ag))))
  (af (aF 9 l4.nd (ao (ah 4) ae))
  (af (aO (gN (w_or (ay (bD hu) (yI (ah 8)) (yI (ah 9))) (jW (gN (w_and (fc (ah 8)) (bx (ay (bD hu) (j3 g9 (ah 8) fe (eM ae)) (j3 g9 (ah 9) fe (eM ae))))))))) (ai (ax aj)) av)
  (af (aO (fV (ah 8)) (ai (ax cS)) av)
  (af (aO (gN (w_and (fV (ao (ah 9) ae)) (bx (pf (lG hu) (ao (ah 6) ae) (aX (bV rfl)))))) (ai (ax aj)) av)
  (af (aO (gN (w_and (fc (ao (ah 9) ae)) (bx (ay (bD hu) (ao (ah 9) ae) (ao (ah 8) ae))))) (ai (ax aj)) av)
  (af (aO (gN (w_or (gN (w_and (fV (ao (ah 9) ae)) (bx (ay i9 (bJ bq bj aaU (aa (aJ hr (ah 3) aj) ag)) (ao (ah 2) ae))))) (jW (gN (w_and (ay (aG hu) (ao (ah 8) ae) aj) (bx (ay i9 (bJ bq bj aaU (aa (aJ hr (ah 3) aj) ag)) (ao (ah 2) ae)))))))) (ai (ax aj)) av)
  (ai (ax cS))))))))))))))))),?_⟩
 clear hu;symm;refine fun O W=>⟨_,inferInstance,?_⟩;rintro aK R ⟨a,h,b,pl,t,rfl,hk,hw,ht,hA,q⟩;refine cj [_,_,_,_,_,none,none,none,none,none] rfl ?_;have w0:=dZ hA;have k0:Ks W W:=fun _ _ e=>e;have q0:=fun W' (k:Ks W W') x (e:h.j1 b pl t=x)=>show R (.im (mH x)) W' from e▸q W' k;unfold HM.j1 at q0
 sizeOf_list_dec
 refine ar ?_
 sizeOf_list_dec
 rw[aak];refine dA (fun z=>?_) (fun z=>?_)
 ·rw[aaE z]at q0
  sizeOf_list_dec
  exact q0 _ k0 _ rfl
 rw[aaA z]at q0;have Of:=hk.st.p0;have RH:=hk.st.p1;obtain⟨pC,ki⟩:=dQ hk.iU Of (by omega)
 sizeOf_list_dec
 refine ar ?_
 sizeOf_list_dec
 refine og (fun z=>?_) (fun z=>?_)
 ·rw[aaE z]at q0
  sizeOf_list_dec
  exact q0 _ k0 _ rfl
 rw[aaA (by simpa using z)]at q0
 sizeOf_list_dec
 refine ar ?_;refine hU (fun k W'=>k=decide (h.width<=h.endsAt b)/\W=W') (fun Q jn=>?_) ?_
 ·have jn:=fun k (e:k=decide (h.width<=h.endsAt b))=>jn k W ⟨e,rfl⟩;unfold HM.endsAt at jn
  sizeOf_list_dec
  refine dA (fun z=>?_) (fun z=>?_)
  ·rw[aaE z]at jn
   sizeOf_list_dec
   exact jn _ rfl
  ·rw[aaA z]at jn;exact jn _ (aat (by omega)).symm
 rintro k _ ⟨rfl,rfl⟩;refine dA (fun z=>?_) (fun z=>?_)
 ·rw[aaE z]at q0
  sizeOf_list_dec
  exact q0 _ k0 _ rfl
 rw[aaA z]at q0
 sizeOf_list_dec
 refine ar ?_;refine hU (fun k W'=>k=decide (h.aZ b=true/\h.eS<=h.aW)/\Ks W W') (fun Q jn=>?_) ?_
 ·have j0:=fun k (e:k=decide (h.aZ b=true/\h.eS<=h.aW))=>jn k W ⟨e,fun _ _ e=>e⟩;unfold HM.aZ at jn j0
  sizeOf_list_dec
  cases es:h.st.cK with
  | true =>
   sizeOf_list_dec
   exact j0 _ (by rw[es];simp)
  | false =>
   sizeOf_list_dec
   refine dA (fun z=>?_) (fun z=>?_)
   ·sizeOf_list_dec
    refine bK ⟨a,h,b,rfl,hk.rl,hk.tk,hA,fun W2 p k2 gp wp=>?_⟩;refine⟨_,ij wp,dN _,_,rfl,jn _ _ ⟨?_,k2⟩⟩;rw[cQ,es,acr];simp[z,acT]
   ·exact j0 _ (aat fun c=>z c.2).symm
 rintro k W2 ⟨rfl,k2⟩;refine dA (fun z=>?_) (fun z=>?_)
 ·rw[aaE z]at q0
  sizeOf_list_dec
  exact q0 _ k2 _ rfl
 rw[aaA z]at q0;have fw:=k2.at_ hA;clear w0;have w2:=dZ fw;have NU:=fZ ki hk.st.sw hk.st.cw;unfold HM.jL HM.row at q0;refine wY ?_;refine E7 (fun ρ W'=>Ks W W'/\ρ=[some (.im (bO h.rows h.bQ)),some (.im (.list (h.rings.map pairD))),some (.im (jx h)),some (.pt a.p),some (.im (fm (.fin b pl t))),some (.im (.tuple (h.rows.map c7))),some (.im (c7 (rowOf h.rows h.st.place))),some (.im (.list ((gn (rowOf h.rows h.st.place)).map .int))),none,none]) (fun kk jn=>?_) ?_
 ·have er:=(kU ki).1
  sizeOf_list_dec
  refine bC pC ?_;generalize rowOf h.rows h.st.place=r at *;rw[er]at jn ⊢
  sizeOf_list_dec
  intro p hp;have k3:∀ c,Ks W (aH (aH W2 p (.dk [])) p c):=fun c=>k2.trans (Ks.new (fun _ _ e=>e) hp fun z hz=>by rw[aE hz,aE hz])
  sizeOf_list_dec
  refine⟨au,by show 4<=15;decide,?_⟩
  sizeOf_list_dec
  refine JT au ?_
  sizeOf_list_dec
  refine bC vf ?_
  sizeOf_list_dec
  refine Nq au rfl (Ir ki) ?_
  sizeOf_list_dec
  refine⟨_,rfl,?_⟩;rw[Oe ki];refine rJ (dB ?_)
  sizeOf_list_dec
  exact jn _ _ ⟨k3 _,rfl⟩
 generalize rowOf h.rows h.st.place=r at *;clear w2 fw k2;rintro ρ W3 ⟨k3,rfl⟩;have iJ:=k3.at_ hA;have w3:=dZ iJ;have wo:W3 a.ow=some (.lst ((h.bp.map cR).map .im)):=iJ.get 3 rfl;have IY:=hk.ow;refine ar ?_
 sizeOf_list_dec
 refine fi (fun i ys W'=>W'=W3/\ys=(((h.bp.take i).filter fun o=>decide (o.2.1∈gn r)).map cR).map .im) (by rw[aak];exact aaH (cm (by omega))) ⟨rfl,rfl⟩ (by rintro _ _ _ ⟨rfl,_⟩;exact wo) ?_ ?_
 ·rintro j d ys _ hd _ ⟨rfl,rfl⟩;rw[aap]at hd;obtain⟨o,ho,rfl⟩:=aaw.mp hd;have et:h.bp.take (j+1)=h.bp.take j++[o]:=by rw[aaM,ho];rfl
  rw[et,aa4];unfold cR
  sizeOf_list_dec
  refine jq (neg:=false) sv ?_
  sizeOf_list_dec
  refine dA (fun e1=>?_) (fun e1=>?_)
  ·sizeOf_list_dec
   exact⟨rfl,by simp[e1,cR]⟩
  ·exact⟨rfl,by simp[e1,cR]⟩
 rintro ys _ ⟨rfl,rfl⟩;rw[aak,aa2];refine dB ?_;refine⟨_,dE,lb _,_,rfl,?_⟩;rw[cQ];have ea:(h.bp.any (fun o=>fM r o.2.1)=true)↔(¬ (h.bp.filter fun o=>decide (o.2.1∈gn r)).map cR=[]):=by
  rw[List.map_eq_nil_iff,acA,List.any_eq_true];simp[E5 ki]
 refine og (fun z=>?_) (fun z=>?_)
 ·rw[aaE (ea.mpr z)]at q0
  sizeOf_list_dec
  exact q0 _ k3 _ rfl
 rw[aaA fun c=>ea.mp c z]at q0;clear ea;refine wY ?_;refine E7 (fun ρ W'=>Ks W W'/\ρ=[some (.im (bO h.rows h.bQ)),some (.im (.list (h.rings.map pairD))),some (.im (jx h)),some (.pt a.p),some (.im (fm (.fin b pl t))),some (.im (.tuple (h.rows.map c7))),some (.im (c7 r)),some (.im (.list ((gn r).map .int))),some (.im (fk (r.wrote h.st.aQ h.st.cells))),some (.im (cP t))]) (fun kk jn=>?_) ?_
 ·sizeOf_list_dec
  refine bK ⟨r,_,_,a,h,rfl,ki,iJ,hk.st,fun W4 k4=>?_⟩
  sizeOf_list_dec
  exact jn _ _ ⟨k3.trans k4,rfl⟩
 clear w3 wo iJ k3;rintro ρ W4 ⟨k4,rfl⟩;have w4:=dZ (k4.at_ hA);have wo:W4 a.ow=some (.lst ((h.bp.map cR).map .im)):=(k4.at_ hA).get 3 rfl;have wl:W4 a.la=some (.lst ((h.laid.map eI).map .im)):=(k4.at_ hA).get 4 rfl;have tw:=sx NU;generalize hwt:r.wrote h.st.aQ h.st.cells=wr at *;refine ar ?_;refine hU (fun k W'=>k=decide (t.jS≠wr.told.jS)/\W4=W') (fun Q jn=>?_) ?_
 ·have jn:=fun k (e:k=decide (t.jS≠wr.told.jS))=>jn k W4 ⟨e,rfl⟩;rcases wr with _ | ⟨k,x,v⟩<;>rcases t with _ | ⟨k2,x2,v2⟩<;>dsimp only[fk,cP]
  ·sizeOf_list_dec
   exact jn _ (by simp)
  ·sizeOf_list_dec
   exact jn _ (by simp)
  ·sizeOf_list_dec
   exact jn _ (by simp)
  ·sizeOf_list_dec
   refine⟨_,rfl,?_⟩
   sizeOf_list_dec
   refine⟨_,rfl,?_⟩;refine Ka (a:=some (k,x)) (b:=some (k2,x2)) tw ht ⟨_,rfl,jn _ ?_⟩;rw[decide_not];congr 1;exact decide_eq_decide.mpr eq_comm
 rintro k _ ⟨rfl,rfl⟩;refine dA (fun z=>?_) (fun z=>?_)
 ·rw[aaE z]at q0
  sizeOf_list_dec
  exact q0 _ k4 _ rfl
 rw[aaA z]at q0;have z:=acj z
 sizeOf_list_dec
 refine ar ?_;rcases t with _ | ⟨k,x,v⟩
 ·obtain rfl:wr=none:=by
   cases wr with
   | none=>rfl
   | some y=>cases z
  dsimp only[fk,cP]
  sizeOf_list_dec
  exact q0 _ k4 _ rfl
 obtain⟨v',rfl⟩:∃ v',wr=some (k,x,v'):=by
  cases wr with
  | none=>cases z
  | some y=>obtain⟨k',x',v'⟩:=y;cases z;exact⟨v',rfl⟩
 have er:=(kU ki).1;rw[er];dsimp only[fk,cP];cases v with
 | none =>
  dsimp only at q0
  sizeOf_list_dec
  refine ar ?_
  sizeOf_list_dec
  refine bC vf ?_
  sizeOf_list_dec
  rw[E6 ki]at q0;refine og (fun y=>?_) (fun y=>?_)
  ·rw[aaE (aat y)]at q0
   sizeOf_list_dec
   exact q0 _ k4 _ rfl
  rw[aaA (by rw[aa6 y];decide)]at q0
  sizeOf_list_dec
  refine ar ?_
  sizeOf_list_dec
  refine ar ?_
  sizeOf_list_dec
  rw[aak,aak];refine dA (fun e=>?_) (fun e=>?_)
  ·rw[aaE e]at q0
   sizeOf_list_dec
   exact q0 _ k4 _ rfl
  rw[aaA e]at q0
  sizeOf_list_dec
  refine dA (fun ek=>?_) (fun ek=>?_)
  ·sizeOf_list_dec
   rw[aak,aak];refine dA (fun e=>?_) (fun e=>?_)
   ·rw[aaE ⟨ek,e⟩]at q0
    sizeOf_list_dec
    exact q0 _ k4 _ rfl
   ·rw[aaA (fun z=>e z.2)]at q0
    sizeOf_list_dec
    exact q0 _ k4 _ rfl
  ·rw[aaA (fun z=>ek z.1)]at q0
   sizeOf_list_dec
   exact q0 _ k4 _ rfl
 | some v =>
  dsimp only[mE]at q0 ⊢
  sizeOf_list_dec
  refine ar ?_
  sizeOf_list_dec
  refine ar ?_
  sizeOf_list_dec
  refine og (fun y=>?_) (fun y=>?_)
  ·rw[aaE (by simpa using fun c=>y c.symm)]at q0
   sizeOf_list_dec
   exact q0 _ k4 _ rfl
  rw[aaA (by simpa using y.symm)]at q0
  sizeOf_list_dec
  refine ar ?_
  sizeOf_list_dec
  refine dA (fun ek=>?_) (fun ek=>?_)
  ·sizeOf_list_dec
   rw[aak,aak];refine dA (fun e=>?_) (fun e=>?_)
   ·rw[aaE ⟨ek,e⟩]at q0
    sizeOf_list_dec
    exact q0 _ k4 _ rfl
   ·rw[aaA (fun z=>e z.2)]at q0
    sizeOf_list_dec
    exact q0 _ k4 _ rfl
  ·rw[aaA (fun z=>ek z.1)]at q0
   sizeOf_list_dec
   exact q0 _ k4 _ rfl
end
abbrev xZ:Stmt:=top 50
theorem lg:aB ["mill", "rings", "terms", "now", "event", "due"] ["mill", "rings", "terms", "now", "event"] (defScope xZ):=by ac_rfl
noncomputable def x8:sU:=fun as W R=>∃(a:sY) (h:HM) (e:Ev),as=[.im (bO h.rows h.bQ),.im (.list (h.rings.map pairD)),.im (jx h),.pt a.p,.im (fm e)]/\eC h/\1<=h.width/\jT e/\At W (cH a h)/\∀ W',Ks W W'->R (.im (mH (h.bB e))) W'
theorem jy:∀{α:Type} (f:α->PyData) (l:List α),(∀ x∈l,(f x).canLay0=true)->PyData.canLayAll0 (l.map f)=true
 | _,_,[],_=>rfl
 | _,f,x::r,h=>by
  rw[aaz];unfold PyData.canLayAll0;rw[h x aaF,jy f r fun y hy=>h y (aax _ hy)];rfl
section
variable {K:zn}
theorem E8(F:cM K "_law_cause" "_law_cause" xZ f fd)(mO:Dn P w K mg base 2 "_law_end_cause" f1 d1 ["mill", "rings", "terms", "now", "event"] (iW K (bg Bg) Kh))(cD:Dn P w K mg base 1 "_law_waits" f2 d2 ["rings", "now", "beat"] (iW K (bg Bg) l0)):ba P w K mg base cU 3 f fd ["mill", "rings", "terms", "now", "event"] (iW K (bg Bg) x8):=by
 exact_mod_cast F.Bv lg bN (fun aK W R zz=>by obtain⟨a,b,c,e,_⟩:=zz; rw[e];rfl);refine⟨_,(af (aO (ay gz (ao (ah 4) ae) (aJ hr (ah 3) aj)) (ai (ax aj)) av)
  (af (aO (ay (bD hu) (eU (N':=["one", "event", "terms"]) (ix:=[none,some 4,some 2]) ⟨rfl,rfl,rfl,rfl,rfl,rfl⟩ (eJ (aJ hr (ah 3) aj)) (fun _ _ _ _=>(bf 0 (show List.Nodup (["one", "event", "terms"]:wv) by decide +kernel))) (fun _ _ _ _=>(gB (ay gz (aY bb (ao (ah 0) ae) (ao (ah 2) ae)) (ao (ah 1) ae)))) (fun _ _ _ _=>(ah 0))) (bo ag)) (ai (ax aj)) av)
  (af (aO (ay (aG hu) (ao (ah 4) ae) aj) (ai (ax (aq mO hr (aa (ah 0) (aa (ah 1) (aa (ah 2) (aa (ah 3) (aa (ah 4) ag)))))))) av)
  (af (aF 5 lg.nd (bo ag))
  (af (aO (ay (aG hu) (ao (ah 4) ae) aj) (ai (wF 5 (N':=["one", "event"]) (ix:=[none,some 4]) ⟨rfl,rfl,rfl,rfl,rfl,rfl⟩ lg.nd (eJ (aJ hr (ah 3) aj)) (fun _ _ _ _=>(bf 0 (show List.Nodup (["one", "event"]:wv) by decide +kernel))) (fun _ _ _ _=>(gB (ay (aG hu) (ao (ah 0) ae) (ao (ah 1) ae)))) (fun _ _ _ _=>(aX (aa (ao (ah 0) ae) (aa (ao (ah 0) ae) ag)))))) (ai (aO (ay (aG hu) (ao (ah 4) ae) aj) (ai (aF 5 lg.nd (j3 qO (aJ hr (ah 3) aj) fe (eM ae)))) (ai (wF 5 (N':=["k", "event"]) (ix:=[none,some 4]) ⟨rfl,rfl,rfl,rfl,rfl,rfl⟩ lg.nd (eJ (aq cD hr (aa (ah 1) (aa (ah 3) (aa (ao (ah 4) ae) ag))))) (fun _ _ _ _=>(bf 0 (show List.Nodup (["k", "event"]:wv) by decide +kernel))) (fun _ _ _ _=>(gB (ay (aG hu) (ah 0) (ao (ah 1) ae)))) (fun _ _ _ _=>(aX (aa (ah 0) ag))))))))
  (af (aO (gN (w_or (ay (aG hu) (ah 5) (bo ag)) (jW (ay (bD hu) (ao (ao (ah 5) ae) ae) (ao (ah 4) ae))))) (ai (ax aj)) av)
  (af (aO (gN (w_and (ay (aG hu) (ao (ah 4) ae) aj) (bx (nW (aJ hr (ah 3) aj))))) (ai (ax aj)) av)
  (af (aO (gN (w_and (ay (aG hu) (ao (ah 4) ae) aj) (bx (ay gz (ao (aq cD hr (aa (ah 1) (aa (ah 3) (aa (ao (ah 4) ae) ag)))) ae) (ao (ah 4) ae))))) (ai (ax aj)) av)
  (af (aO (gN (w_and (ay (aG hu) (ao (ah 4) ae) aj) (bx (ay (bD hu) (ao (ao (ah 5) ae) ae) (ao (ah 4) ae))))) (ai (ax aj)) av)
  (af (aO (gN (w_and (ay (bD hu) (ao (ah 4) ae) aj) (bx (ay (bD hu) (ao (ao (ah 5) ae) (Ax lq ae)) (ao (ah 4) (Ax lq ae)))))) (ai (ax aj)) av)
  (ai (ax cS)))))))))))),?_⟩
 clear hu;symm;refine fun O W=>⟨_,inferInstance,?_⟩;rintro aK R ⟨a,h,e,rfl,hk,hw,ht,hA,q⟩;refine cj [_,_,_,_,_,none] rfl ?_;have w0:=dZ hA;have wo:W a.ow=some (.lst ((h.bp.map cR).map .im)):=hA.get 3 rfl;have wl:W a.la=some (.lst ((h.laid.map eI).map .im)):=hA.get 4 rfl;have IY:=hk.ow;have k0:Ks W W:=fun _ _ e=>e;have q0:=fun W' (k:Ks W W') x (e:h.bB e=x)=>show R (.im (mH x)) W' from e▸q W' k;unfold HM.bB at q0;have e1:∃(x:Str) (rr:wE),fm e=.tuple (.str x::.int e.aD::rr):=by cases e<;>exact⟨_,_,rfl⟩
 obtain⟨x,rr,ex⟩:=e1;refine E7 (fun ρ W'=>(¬ e.aD < h.aD/\¬ h.bp.any (fun o=>decide (o.2.2.2+h.longest < e.aD))=true)/\W=W'/\ρ=[some (.im (bO h.rows h.bQ)),some (.im (.list (h.rings.map pairD))),some (.im (jx h)),some (.pt a.p),some (.im (fm e)),none]) (fun kk jn=>?_) ?_
 ·rw[ex]at jn ⊢;refine ar ?_
  sizeOf_list_dec
  refine bC (show iy (PyData.str x::PyData.int e.aD::rr) ((1:Nat):Int)=some (.int e.aD) from bY rfl) ?_
  sizeOf_list_dec
  refine dA (fun z=>?_) (fun z=>?_)
  ·rw[aaE z]at q0
   sizeOf_list_dec
   exact q0 _ k0 _ rfl
  rw[aaA z]at q0
  sizeOf_list_dec
  refine fi (fun i ys W'=>W=W'/\ys=(((h.bp.take i).filter fun o=>decide (o.2.2.2+h.longest < e.aD)).map cR).map .im) (by rw[aak];exact aaH (cm (by omega))) ⟨rfl,rfl⟩ (by rintro _ _ _ ⟨rfl,_⟩;exact wo) ?_ ?_
  ·rintro j d ys _ hd _ ⟨rfl,rfl⟩;rw[aap]at hd;obtain⟨o,ho,rfl⟩:=aaw.mp hd;have et:h.bp.take (j+1)=h.bp.take j++[o]:=by rw[aaM,ho];rfl
   rw[et,aa4];unfold cR
   sizeOf_list_dec
   refine bC (show iy (PyData.str x::PyData.int e.aD::rr) ((1:Nat):Int)=some (.int e.aD) from bY rfl) ?_
   sizeOf_list_dec
   refine dA (fun e1=>?_) (fun e1=>?_)
   ·sizeOf_list_dec
    exact⟨rfl,by simp[e1,cR]⟩
   ·exact⟨rfl,by simp[e1,cR]⟩
  rintro ys _ ⟨rfl,rfl⟩;rw[aak,aa2];refine dB ?_;refine⟨_,dE,lb _,_,rfl,?_⟩;rw[cQ];have ea:(h.bp.any (fun o=>decide (o.2.2.2+h.longest < e.aD))=true)↔(¬ (h.bp.filter fun o=>decide (o.2.2.2+h.longest < e.aD)).map cR=[]):=by
   rw[List.map_eq_nil_iff,acA,List.any_eq_true];simp
  refine og (fun z=>?_) (fun z=>?_)
  ·rw[aaE (ea.mpr z)]at q0
   sizeOf_list_dec
   exact q0 _ k0 _ rfl
  ·exact jn _ _ ⟨⟨‹_›,fun c=>ea.mp c z⟩,rfl,rfl⟩
 rintro ρ _ ⟨⟨z1,z2⟩,rfl,rfl⟩;rw[aaA z1,aaA z2]at q0;clear ex z1 z2 IY;refine ar ?_;cases e with
 | fin b pl t =>
  sizeOf_list_dec
  refine bK ⟨a,h,b,pl,t,rfl,hk,hw,ht,hA,fun W2 k2=>?_⟩;exact q0 _ k2 _ rfl
 | gL b n v =>
  sizeOf_list_dec
  refine bT (ds:=[]) (aaK _) ?_
  sizeOf_list_dec
  refine ar ?_
  sizeOf_list_dec
  refine fi (fun i ys W'=>W=W'/\ys=(((h.bp.take i).filter fun o=>decide (o.1=n)).map fun o=>PyData.tuple [.int o.1,.int o.2.2.1]).map .im) (by rw[aak];exact aaH (cm (by have:=hk.ow;omega))) ⟨rfl,rfl⟩ (by rintro _ _ _ ⟨rfl,_⟩;exact wo) ?_ ?_
  ·rintro j d ys _ hd _ ⟨rfl,rfl⟩;rw[aap]at hd;obtain⟨o,ho,rfl⟩:=aaw.mp hd;have et:h.bp.take (j+1)=h.bp.take j++[o]:=by rw[aaM,ho];rfl
   rw[et,aa4];unfold cR
   sizeOf_list_dec
   refine dA (fun e1=>?_) (fun e1=>?_)
   ·sizeOf_list_dec
    refine aA (ds:=[.int o.1,.int o.2.2.1]) (by show 2<=sizeLine;decide) ?_;exact⟨rfl,by simp[e1]⟩
   ·exact⟨rfl,by simp[e1]⟩
  rintro ys _ ⟨rfl,rfl⟩;rw[aak,aa2];refine dB ?_;have q1:=fun x (e:h.lO n v=x)=>q0 W k0 x e;unfold HM.lO at q1;have mem:∀ o∈h.bp.filter fun o=>decide (o.1=n),o.1=n:=fun o ho=>by simpa using (abg.mp ho).2
  generalize (h.bp.filter fun o=>decide (o.1=n))=l at *
  sizeOf_list_dec
  refine ar ?_
  sizeOf_list_dec
  refine⟨_,dE,jy _ _ fun _ _=>rfl,_,rfl,?_⟩;rw[cQ];cases l with
  | nil =>
   sizeOf_list_dec
   exact q1 _ rfl
  | cons o l =>
   have en:=mem o aaF;refine j5 (by simp) ?_
   sizeOf_list_dec
   refine eW vf ?_
   sizeOf_list_dec
   refine wI en ?_
   sizeOf_list_dec
   refine ar ?_
   sizeOf_list_dec
   refine ar ?_
   sizeOf_list_dec
   refine ar ?_
   sizeOf_list_dec
   refine ar ?_
   sizeOf_list_dec
   refine eW vf ?_
   sizeOf_list_dec
   refine og (fun z=>?_) (fun z=>?_)
   ·sizeOf_list_dec
    exact q1 _ (aaA z)
   ·sizeOf_list_dec
    exact q1 _ (aaE z)
 | down b n c v =>
  sizeOf_list_dec
  refine bT (ds:=[]) (aaK _) ?_
  sizeOf_list_dec
  refine ar ?_
  sizeOf_list_dec
  refine Dk wl ?_;have q1:=fun x (e:h.lQ n c v=x)=>q0 W k0 x e;unfold HM.lQ at q1;cases hl:h.laid with
  | nil =>
   rw[hl]at q1;refine dB (ds:=[]) ?_
   sizeOf_list_dec
   refine ar ?_
   sizeOf_list_dec
   refine⟨_,dE,rfl,_,rfl,?_⟩;rw[cQ]
   sizeOf_list_dec
   exact q1 _ rfl
  | cons o l =>
   rw[hl]at q1;rw[show cutD (((o::l).map eI).map DV.im) none (some 1)=[eI o].map DV.im from DJ (k:=0)];refine dB ?_
   sizeOf_list_dec
   refine ar ?_
   sizeOf_list_dec
   refine⟨_,dE,rfl,_,rfl,?_⟩;rw[cQ];refine j5 (by simp) ?_
   sizeOf_list_dec
   refine eW vf ?_;unfold eI
   sizeOf_list_dec
   dsimp only at q1;refine og (fun z=>?_) (fun z=>?_)
   ·sizeOf_list_dec
    exact q1 _ (aaE z)
   rw[aaA (fun y=>y z)]at q1
   sizeOf_list_dec
   refine ar ?_
   sizeOf_list_dec
   refine ar ?_
   sizeOf_list_dec
   refine ar ?_
   sizeOf_list_dec
   refine eW vf ?_
   sizeOf_list_dec
   refine og (fun z=>?_) (fun z=>?_)
   ·sizeOf_list_dec
    exact q1 _ (aaE z)
   rw[aaA (fun y=>y z)]at q1
   sizeOf_list_dec
   refine ar ?_
   sizeOf_list_dec
   refine eW vf ?_
   sizeOf_list_dec
   refine og (fun z=>?_) (fun z=>?_)
   ·sizeOf_list_dec
    exact q1 _ (aaA z)
   ·sizeOf_list_dec
    exact q1 _ (aaE z)
 | gx b k =>
  have q1:=fun W' k1 x (e:h.iS b k=x)=>q0 W' k1 x e;unfold HM.iS at q1;have inc:(h.df b).Pairwise (· < ·):=List.Pairwise.sublist (acS ..) (by decide);have V0:(h.df b).length<=4:=acd ..
  sizeOf_list_dec
  refine bT (ds:=[]) (aaK _) ?_
  sizeOf_list_dec
  refine ar ?_
  sizeOf_list_dec
  refine bK ⟨a,h,b,rfl,hk.rl,hk.tk,hA,fun W2 p k2 gp wp=>?_⟩;replace wp:W2 p=some (.lst (((h.df b).map PyData.int).map .im)):=wp;have w2:=dZ (k2.at_ hA)
  sizeOf_list_dec
  refine fi (fun i ys W'=>W2=W'/\ys=((((h.df b).take i).filter fun j=>decide (j=k)).map fun j=>PyData.tuple [.int j]).map .im) (by rw[aak];exact aaH (cm (by omega))) ⟨rfl,rfl⟩ (by rintro _ _ _ ⟨rfl,_⟩;exact wp) ?_ ?_
  ·rintro j d ys _ hd _ ⟨rfl,rfl⟩;rw[aap]at hd;obtain⟨o,ho,rfl⟩:=aaw.mp hd;have et:(h.df b).take (j+1)=(h.df b).take j++[o]:=by rw[aaM,ho];rfl
   rw[et,aa4]
   sizeOf_list_dec
   refine dA (fun e1=>?_) (fun e1=>?_)
   ·sizeOf_list_dec
    refine aA (ds:=[.int o]) (by show 1<=sizeLine;decide) ?_;exact⟨rfl,by simp[show o=k from e1]⟩
   ·exact⟨rfl,by simp[show ¬ o=k from e1]⟩
  rintro ys _ ⟨rfl,rfl⟩;rw[aak,aa2];refine dB ?_;have hm:∀ o∈(h.df b).filter fun j=>decide (j=k),o=k:=fun o ho=>by simpa using (abg.mp ho).2
  have hn:(h.df b).filter (fun j=>decide (j=k))=[]↔k ∉ h.df b:=by
   rw[acA];exact⟨fun c m=>c k m (by simp),fun c o ho z=>c ((show o=k by simpa using z)▸ho)⟩
  generalize hws:h.df b=ws at *;generalize ws.filter (fun j=>decide (j=k))=l at *
  sizeOf_list_dec
  refine ar ?_
  sizeOf_list_dec
  refine⟨_,dE,jy _ _ fun _ _=>rfl,_,rfl,?_⟩;rw[cQ];cases l with
  | nil =>
   sizeOf_list_dec
   exact q1 _ k2 _ (aaE (hn.mp rfl))
  | cons o l =>
   have en:=hm o aaF;have wL:k∈ws:=acj fun c=>by have:=hn.mpr c;cases this
   rw[aaA (fun c=>c wL)]at q1;refine j5 (by simp) ?_
   sizeOf_list_dec
   refine eW vf ?_
   sizeOf_list_dec
   refine wI en ?_
   sizeOf_list_dec
   refine ar ?_
   sizeOf_list_dec
   cases es:h.st.cK with
   | true =>
    sizeOf_list_dec
    exact q1 _ k2 _ (aaE es)
   | false =>
    rw[es,aaA (by decide)]at q1
    sizeOf_list_dec
    refine ar ?_
    sizeOf_list_dec
    refine bK ⟨a,h,b,rfl,hk.rl,hk.tk,k2.at_ hA,fun W3 p3 k3 gp3 Ys=>?_⟩;rw[hws]at Ys;cases ws with
    | nil=>cases wL
    | cons a0 r =>
     sizeOf_list_dec
     refine eF (v:=.im (.int a0)) Ys vf ?_
     sizeOf_list_dec
     have ho:(a0::r).head?=some k↔¬ a0 < k:=by
      rw[List.head?_cons,Option.some.injEq];rcases aan.mp wL with c | c
      ·omega
      ·have:=(acy.mp inc).1 k c;omega
     refine dA (fun z=>?_) (fun z=>?_)
     ·sizeOf_list_dec
      exact q1 _ (k2.trans k3) _ (aaA fun c=>ho.mp c z)
     ·sizeOf_list_dec
      refine ar ?_
      sizeOf_list_dec
      refine ar ?_
      sizeOf_list_dec
      exact q1 _ (k2.trans k3) _ (aaE (ho.mpr z))
end
abbrev x9:Stmt:=top 51
theorem sH:aB ["mill", "rings", "now", "event", "pressed", "wrote"] ["mill", "rings", "now", "event"] (defScope x9):=by ac_rfl
noncomputable def E9:sU:=fun as W R=>∃(a:sY) (h:HM) (e:Ev),as=[.im (bO h.rows h.bQ),.im (.list (h.rings.map pairD)),.pt a.p,.im (fm e)]/\eC h/\jT e/\h.bB e=none/\At W (cH a h)/\∀ W' a',a'.p=a.p->At W' (cH a' (h.cB e))->Ko (cH a h) W W'->(∀ z∈(cH a' h).map (·.1),z∈(cH a h).map (·.1)\/W z=none)->R (.im .none) W'
theorem Fb{pl:Int}{t:kS}(hb:h.bB (.fin b pl t)=none):¬ h.st.place=h.rows.length/\¬ b < h.aD/\t.jS=kS.jS (h.row.wrote h.st.aQ h.st.cells).told:=by
 unfold HM.bB at hb;split at hb
 ·cases hb
 split at hb
 ·cases hb
 rename_i z1 z2;dsimp only at hb;unfold HM.j1 at hb;split at hb
 ·cases hb
 rename_i z3;split at hb
 ·cases hb
 split at hb
 ·cases hb
 split at hb
 ·cases hb
 split at hb
 ·cases hb
 unfold HM.jL at hb;split at hb
 ·cases hb
 rename_i z4;exact⟨z3,z1,acj z4⟩
theorem Iw{k:Int}(hb:h.bB (.gx b k)=none):k∈h.df b/\h.st.cK=false:=by
 unfold HM.bB at hb;split at hb
 ·cases hb
 split at hb
 ·cases hb
 dsimp only at hb;unfold HM.iS at hb;split at hb
 ·cases hb
 rename_i z;split at hb
 ·cases hb
 rename_i z2;exact⟨acj z,by simpa using z2⟩
theorem Bl{e:Ev}(hb:h.bB e=none):¬ e.aD < h.aD:=by
 unfold HM.bB at hb;split at hb
 ·cases hb
 ·assumption
theorem Ko.go{W1:Wd}{L':Ws}(h:Ko L W W')(h2:Ko L' W' W1)(e:L'.map (·.1)=L.map (·.1)):Ko L W W1:=fun z c q n=>h2 z c (h z c q n) (by rw[e];exact n)
theorem Ko.no(h:Ko L W W')(hn:W' p=none):p∈L.map (·.1)\/W p=none:=by
 by_cases m:p∈L.map (·.1)
 ·exact .inl m
 ·refine .inr ?_;cases e:W p with
  | none=>rfl
  | some c=>rw[h p c e m]at hn;cases hn
section
variable {K:zn}
theorem Fc(F:cM K "_law_take_up" "_law_take_up" x9 f fd)(cD:Dn P w K mg base 1 "_law_waits" f1 d1 ["rings", "now", "beat"] (iW K (bg Bg) l0))(ya:Dn P w K mg base 2 "_law_goes" f2 d2 ["row", "now"] (iW K (bg Bg) Kg))(gK:mg "int"=none):ba P w K mg base cU 3 f fd ["mill", "rings", "now", "event"] (iW K (bg Bg) E9):=by
 exact_mod_cast F.Bv sH bN (fun aK W R zz=>by obtain⟨a,b,c,e,_⟩:=zz; rw[e];rfl);refine⟨_,(af (aO (ay yq (ao (ah 3) ae) (aJ hr (ah 2) aj)) (ai (fh hr (ah 2) aj ae)) av)
  (af (aF 4 sH.nd (tZ (Jh (aJ hr (ah 2) aj)) (tY (gA (bD hu) (aq cD hr (aa (ah 1) (aa (ah 2) (aa (ao (ah 3) ae) ag)))) (bo ag)))))
  (af (fh hr (ah 2) aj (ao (ah 3) ae))
  (ai (aO (ay (aG hu) (ao (ah 3) ae) aj) (ai (fh hr (ah 2) aj (eU (N':=["one", "event"]) (ix:=[none,some 3]) ⟨rfl,rfl,rfl,rfl,rfl,rfl⟩ (eJ (aJ hr (ah 2) aj)) (fun _ _ _ _=>(bf 0 (show List.Nodup (["one", "event"]:wv) by decide +kernel))) (fun _ _ _ _=>(gB (ay (bD hu) (ao (ah 0) ae) (ao (ah 1) ae)))) (fun _ _ _ _=>(ah 0))))) (ai (aO (ay (aG hu) (ao (ah 3) ae) aj) (ai (fh hr (ah 2) aj (j3 qO (aJ hr (ah 2) aj) (eM ae) fe))) (ai (aO (ay (aG hu) (ao (ah 3) ae) aj) (af (dO (jN aaJ aaS aaT cY (aJ hr (ah 2) aj) (aa (ao (ah 3) ae) ag)))
     (af (fh hr (ah 2) aj (aJ hr (ah 2) aj))
     (af (fh hr (ah 2) aj (ao (ao (ah 0) ae) (ao (ah 3) ae)))
     (af (fh hr (ah 2) aj Aw)
     (ai (fh hr (ah 2) aj ae)))))) (af (fh hr (ah 2) aj (aY iK (aY bb (aJ hr (ah 2) aj) ae) (cE jE gK abT (aa (ah 4) ag))))
     (af (fh hr (ah 2) aj (aY bb (aJ hr (ah 2) aj) ae))
     (af (aF 5 sH.nd (aq ya hr (aa (ao (ao (ah 0) ae) (aJ hr (ah 2) aj)) (aa (ah 2) ag))))
     (af (aO (gN (w_and (fc (ah 5)) (bx (fV (ao (ao (ah 3) ae) ae))))) (ai (dO (jN aaJ aaS aaT cY (aJ hr (ah 2) aj) (aa (aX (aa (aJ hr (ah 2) aj) (aa (ao (ah 5) ae) (aa (ao (ah 5) ae) (aa (ao (ah 3) ae) ag))))) ag)))) (ai (aO (gN (w_and (fc (ah 5)) (bx (ay (aG hu) (ao (ah 5) ae) aj)))) (ai (dO (jN aaJ aaS aaT cY (aJ hr (ah 2) aj) (aa (aX (aa (aJ hr (ah 2) aj) (aa (ao (ah 5) ae) (aa (ao (ah 5) ae) ag)))) ag)))) av)))
     (ai (fh hr (ah 2) aj (aY bb (aJ hr (ah 2) aj) ae)))))))))))))))),?_⟩
 clear hu;symm;refine fun O W=>⟨_,inferInstance,?_⟩;rintro aK R ⟨a,h,e,rfl,hk,ho,hb,hA,q⟩;refine cj [_,_,_,_,none,none] rfl ?_;have w0:=dZ hA;have ne:=Bl hb;refine Ke (fun ρ W'=>At W' (cH a { h with gm:=h.endsAt e.aD,aD:=e.aD })/\Ko (cH a h) W W'/\ρ=[some (.im (bO h.rows h.bQ)),some (.im (.list (h.rings.map pairD))),some (.pt a.p),some (.im (fm e)),some (.im (.bool (h.aZ e.aD))),none]) (fun kk jn=>?_) ?_
 ·have e1:∃(x:Str) (rr:wE),fm e=.tuple (.str x::.int e.aD::rr):=by cases e<;>exact⟨_,_,rfl⟩
  obtain⟨x,rr,ex⟩:=e1;rw[ex]at jn ⊢;have OI:iy (PyData.str x::PyData.int e.aD::rr) 1=some (.int e.aD):=show iy (PyData.str x::PyData.int e.aD::rr) ((1:Nat):Int)=some (.int e.aD) from bY rfl;refine gh (fun ρ W'=>At W' (cH a { h with gm:=h.endsAt e.aD })/\Ko (cH a h) W W'/\ρ=[some (.im (bO h.rows h.bQ)),some (.im (.list (h.rings.map pairD))),some (.pt a.p),some (.im (.tuple (.str x::.int e.aD::rr))),none,none]) (fun k2 vJ=>?_) ?_
  ·sizeOf_list_dec
   refine bC OI ?_
   sizeOf_list_dec
   refine dA (fun z=>?_) (fun z=>?_)
   ·sizeOf_list_dec
    refine fu { h with gm:=0 } hA fun W2 fw f2=>?_;exact vJ _ _ ⟨by unfold HM.endsAt;rw[aaA (by omega)];exact fw,(Ko.of fun _ _ e=>e).fr f2 (by simp[cH]),rfl⟩
   ·exact vJ _ _ ⟨by unfold HM.endsAt;rw[aaE (by omega)];exact hA,Ko.of fun _ _ e=>e,rfl⟩
  clear w0;rintro ρ W2 ⟨fw,ko,rfl⟩;have w2:=dZ fw;refine gh (fun ρ W'=>Ks W2 W'/\ρ=[some (.im (bO h.rows h.bQ)),some (.im (.list (h.rings.map pairD))),some (.pt a.p),some (.im (.tuple (.str x::.int e.aD::rr))),some (.im (.bool (h.aZ e.aD))),none]) (fun k2 vJ=>?_) ?_
  ·unfold HM.aZ at vJ
   sizeOf_list_dec
   dsimp only;cases es:h.st.cK with
   | true =>
    sizeOf_list_dec
    exact vJ _ _ ⟨fun _ _ e=>e,by rw[es];rfl⟩
   | false =>
    sizeOf_list_dec
    refine bC OI ?_
    sizeOf_list_dec
    refine bK ⟨a,{ h with gm:=h.endsAt e.aD },e.aD,rfl,hk.rl,hk.tk,fw,fun W3 p k3 gp wp=>?_⟩;refine⟨_,ij wp,dN _,?_⟩;rw[cQ]
    sizeOf_list_dec
    refine vJ _ _ ⟨k3,?_⟩;rw[es,(show ∀ l:List Int,(!decide (l.map PyData.int=[]))=(!false&&decide (0 < l.length)) from fun l=>by cases l<;>simp)]
    rfl
  clear w2;rintro ρ W3 ⟨k3,rfl⟩;have iJ:=k3.at_ fw
  sizeOf_list_dec
  refine bC OI ?_
  sizeOf_list_dec
  refine fu { h with gm:=h.endsAt e.aD,aD:=e.aD } iJ fun W4 jU f4=>?_;exact jn _ _ ⟨jU,(ko.ks k3).fr f4 (by simp[cH]),rfl⟩
 have qs:=fun W' (A:At W' (cH a (h.cB e))) (k:Ko (cH a h) W W')=>q W' a rfl A k fun z hz=>.inl hz;clear w0;rintro ρ W2 ⟨fw,ko,rfl⟩;have w2:=dZ fw;have wo:W2 a.ow=some (.lst ((h.bp.map cR).map .im)):=fw.get 3 rfl;have wl:W2 a.la=some (.lst ((h.laid.map eI).map .im)):=fw.get 4 rfl;have wt:W2 a.tk=some (.lst ((h.taken.map PyData.int).map .im)):=fw.get 5 rfl;cases e with
 | gL b n v =>
  sizeOf_list_dec
  refine fi (fun i ys W'=>W2=W'/\ys=(((h.bp.take i).filter fun o=>decide (o.1≠n)).map cR).map .im) (by rw[aak];exact aaH (cm (by have:=hk.ow;omega))) ⟨rfl,rfl⟩ (by rintro _ _ _ ⟨rfl,_⟩;exact wo) ?_ ?_
  ·rintro j d ys _ hd _ ⟨rfl,rfl⟩;rw[aap]at hd;obtain⟨o,ho,rfl⟩:=aaw.mp hd;have et:h.bp.take (j+1)=h.bp.take j++[o]:=by rw[aaM,ho];rfl
   rw[et,aa4];unfold cR
   sizeOf_list_dec
   refine og (fun e1=>?_) (fun e1=>?_)
   ·sizeOf_list_dec
    exact⟨rfl,by simp[e1,cR]⟩
   ·exact⟨rfl,by simp[e1,cR]⟩
  rintro ys _ ⟨rfl,rfl⟩;rw[aak,aa2];refine kK fun p W3 gp wp fp=>?_
  sizeOf_list_dec
  refine Kf 3 { a with ow:=p } (h.cB (.gL b n v)) fw gp fp wp (fun W4 jU f4=>q W4 { a with ow:=p } rfl jU ((ko.new gp fp).fr f4 (by simp[cH])) fun z hz=>?_) rfl;simp only[cH,aaz,acn,aan,abf,acC]at hz;rcases hz with rfl | rfl | rfl | rfl | rfl | rfl
  all_goals first | exact ko.no gp | exact .inl (by simp[cH])
 | down b n c v =>
  sizeOf_list_dec
  refine Dk wl ?_;rw[show cutD ((h.laid.map eI).map DV.im) (some 1) none=((h.laid.drop 1).map eI).map DV.im by cases h.laid with
   | nil=>rfl
   | cons o l=>exact uJ (k:=0)]
  refine kK fun p W3 gp wp fp=>?_
  sizeOf_list_dec
  refine Kf 4 { a with la:=p } (h.cB (.down b n c v)) fw gp fp wp (fun W4 jU f4=>q W4 { a with la:=p } rfl jU ((ko.new gp fp).fr f4 (by simp[cH])) fun z hz=>?_) rfl;simp only[cH,aaz,acn,aan,abf,acC]at hz;rcases hz with rfl | rfl | rfl | rfl | rfl | rfl
  all_goals first | exact ko.no gp | exact .inl (by simp[cH])
 | gx b k =>
  obtain⟨wL,hs⟩:=Iw hb;obtain⟨k0,k1⟩:=qr hk wL
  sizeOf_list_dec
  refine dD wt (by rw[aak,aak];exact cm (by have:=hk.tk;omega)) fun W3 w3 f3=>?_;have iJ:At W3 (cH a { h with gm:=h.endsAt b,aD:=b,taken:=h.taken++[k] }):=fw.gR 5 rfl f3 (by rw[w3];unfold mq;simp);have w4:=dZ iJ
  sizeOf_list_dec
  refine fu { h with gm:=h.endsAt b,aD:=b,taken:=h.taken++[k],st:={ h.st with kept:=some h.st.place } } iJ fun W4 jU f4=>?_
  sizeOf_list_dec
  refine bC (Eb k0 k1) ?_
  sizeOf_list_dec
  refine fu { h with gm:=h.endsAt b,aD:=b,taken:=h.taken++[k],st:={ h.st with kept:=some h.st.place,place:=gI h.bQ k } } jU fun W5 lX f5=>?_
  sizeOf_list_dec
  refine fu { h with gm:=h.endsAt b,aD:=b,taken:=h.taken++[k],st:={ h.st with kept:=some h.st.place,place:=gI h.bQ k,cK:=true } } lX fun W6 vg f6=>?_
  sizeOf_list_dec
  refine fu (h.cB (.gx b k)) vg fun W7 RP f7=>?_;exact qs W7 RP (((((ko.fr f3 (by simp[cH])).fr f4 (by simp[cH])).fr f5 (by simp[cH])).fr f6 (by simp[cH])).fr f7 (by simp[cH]))
 | fin b pl t =>
  obtain⟨np,_,et⟩:=Fb hb;have Of:=hk.st.p0;have RH:=hk.st.p1;obtain⟨pC,ki⟩:=dQ hk.iU Of (by omega);have VR:∀ z:Int,(z * if h.aZ b=true then 1 else 0)=if h.aZ b=true then z else 0:=fun z=>by split<;>simp
  sizeOf_list_dec
  refine fu { h with gm:=h.endsAt b,aD:=b,aW:=if h.aZ b=true then h.aW+1 else 0 } fw (fun W3 iJ f3=>?_) (e:=by rw[<- VR];with_unfolding_all rfl);have w3:=dZ iJ
  sizeOf_list_dec
  refine fu { h with gm:=h.endsAt b+1,aD:=b,aW:=if h.aZ b=true then h.aW+1 else 0 } iJ fun W4 jU f4=>?_;have w4:=dZ jU
  sizeOf_list_dec
  refine bC pC ?_;have Yt:=fZ ki hk.st.sw hk.st.cw;have q1:=fun(u:HM) (eu:HM.eV { h with gm:=h.endsAt b,aW:=if h.aZ b=true then h.aW+1 else 0 } b t ((rowOf h.rows h.st.place).wrote h.st.aQ h.st.cells)=u) W' (A:At W' (cH a { u with st:=eG (rowOf h.rows h.st.place) h.st,ends:=u.ends+1,gm:=u.gm+1,aD:=b }))=>qs W' (by
   rw[<- eu]at A;exact A)
  unfold HM.row at et;generalize rowOf h.rows h.st.place=r at *
  sizeOf_list_dec
  refine bK ⟨r,_,_,a,_,rfl,ki,jU,hk.st,fun W5 lX Yu=>?_⟩;replace ko:=((ko.fr f3 (by simp[cH])).fr f4 (by simp[cH])).go Yu rfl;clear f3 f4 w2 w3 w4 fw iJ jU wo wl wt Yu q qs;have w5:=dZ lX;have wo:W5 a.ow=some (.lst ((h.bp.map cR).map .im)):=lX.get 3 rfl;have wl:W5 a.la=some (.lst ((h.laid.map eI).map .im)):=lX.get 4 rfl;generalize (if h.aZ b=true then h.aW+1 else 0)=P at *;replace lX:At W5 (cH a { h with gm:=h.endsAt b+1,aD:=b,aW:=P,st:=eG r h.st }):=lX;generalize hwt:r.wrote h.st.aQ h.st.cells=wr at *
  sizeOf_list_dec
  refine ar ?_;rcases wr with _ | ⟨k,x,v⟩<;>rcases t with _ | ⟨k2,x2,v2⟩
  ·dsimp only[fk]
   sizeOf_list_dec
   exact fu { h with gm:=h.endsAt b+1,aD:=b,aW:=P,st:=eG r h.st,ends:=h.ends+1 } lX fun W6 vg f6=>q1 _ rfl W6 vg (ko.fr f6 (by simp[cH]))
  ·cases et
  ·cases et
  ·cases et;dsimp only[fk];cases v2 with
   | none =>
    sizeOf_list_dec
    refine aA (ds:=[.int h.ends,.int x,.int v,.int b]) (by show 4<=sizeLine;decide) ?_
    sizeOf_list_dec
    refine dD wo (by rw[aak,aak];exact cm (by have:=hk.ow;omega)) fun W6 w6 f6=>?_;have vg:At W6 (cH a { h with gm:=h.endsAt b+1,aD:=b,aW:=P,st:=eG r h.st,bp:=h.bp++[(h.ends,x,v,b)] }):=lX.gR 3 rfl f6 (by rw[w6];unfold mq;simp[cR]);have w7:=dZ vg
    sizeOf_list_dec
    exact fu { h with gm:=h.endsAt b+1,aD:=b,aW:=P,st:=eG r h.st,bp:=h.bp++[(h.ends,x,v,b)],ends:=h.ends+1 } vg fun W7 RP f7=>q1 _ rfl W7 RP ((ko.fr f6 (by simp[cH])).fr f7 (by simp[cH]))
   | some v2 =>
    sizeOf_list_dec
    refine dA (fun ek=>?_) (fun ek=>?_)
    ·sizeOf_list_dec
     refine aA (ds:=[.int h.ends,.int x,.int v]) (by show 3<=sizeLine;decide) ?_
     sizeOf_list_dec
     refine dD wl (by rw[aak,aak];exact cm (by have:=hk.la;omega)) fun W6 w6 f6=>?_;have vg:At W6 (cH a { h with gm:=h.endsAt b+1,aD:=b,aW:=P,st:=eG r h.st,laid:=h.laid++[(h.ends,x,v)] }):=lX.gR 4 rfl f6 (by rw[w6];unfold mq;simp[eI]);have w7:=dZ vg
     sizeOf_list_dec
     exact fu { h with gm:=h.endsAt b+1,aD:=b,aW:=P,st:=eG r h.st,laid:=h.laid++[(h.ends,x,v)],ends:=h.ends+1 } vg fun W7 RP f7=>q1 _ (aaE ek) W7 RP ((ko.fr f6 (by simp[cH])).fr f7 (by simp[cH]))
    ·sizeOf_list_dec
     exact fu { h with gm:=h.endsAt b+1,aD:=b,aW:=P,st:=eG r h.st,ends:=h.ends+1 } lX fun W6 vg f6=>q1 _ (aaA ek) W6 vg (ko.fr f6 (by simp[cH]))
end
abbrev Fd:Stmt:=top 52
abbrev Fe:Stmt:=top 53
theorem oY:aB ["mill", "rings", "terms", "now", "beat", "resting", "waits"] ["mill", "rings", "terms", "now"] (defScope Fd):=by ac_rfl
theorem fJ:aB ["bag", "mill", "rings", "terms", "now", "base", "beat", "pick", "waits", "event", "one", "row", "wrote"] ["bag", "mill", "rings", "terms", "now", "base"] (defScope Fe):=by ac_rfl
noncomputable def iI:Option Ev->PyData
 | none=>.none
 | some e=>fm e
noncomputable def Tf(h:HM)(o:Option Ev):Prop:=∀ e,o=some e->jT e/\∀ b pl t,e=.fin b pl t->h.st.place < h.rows.length/\t.jS=kS.jS (h.row.wrote h.st.aQ h.st.cells).told
theorem Og{e:Ev}(hk:eC h)(ho:jT e)(hb:h.bB e=none):Tf h (some e):=by
 rintro _ ⟨⟩;refine⟨ho,?_⟩;rintro b pl t rfl;obtain⟨h1,_,h2⟩:=Fb hb;have:=hk.st.p1;exact⟨by omega,h2⟩
def Kt(t:Addr)(W W':Wd):Prop:=∀ z c,W z=some c->z≠t->W' z=some c
section
variable {t g:Addr}{W1:Wd}{a:sY}
theorem Kt.refl:Kt t W W:=fun _ _ e _=>e
theorem Kt.fr(k:Kt t W W')(f:Fr t W' W1):Kt t W W1:=fun z c e n=>f.at n (k z c e n)
theorem Kt.ks(k:Kt t W W')(k2:Ks W' W1):Kt t W W1:=fun z c e n=>k2 z c (k z c e n)
theorem Kt.trans(k:Kt t W W')(k2:Kt t W' W1):Kt t W W1:=fun z c e n=>k2 z c (k z c e n) n
theorem Kt.ws(k:Kt t W W'){c:Cell}:Kt t W (aH W' t c):=fun z c e n=>(aE n).trans (k z c e n)
theorem Ff(hA:At W (cH a h))(wt:W t=some (.aI g n)):∀ x∈cH a h,x.1≠t:=fun x hx z=>by
 have e:=hA.at_ x hx;rw[z,wt]at e;simp only[cH,aan,abf,acC]at hx;rcases hx with rfl | rfl | rfl | rfl | rfl | rfl<;>cases e
theorem Kt.at_(k:Kt t W W')(hA:At W (cH a h))(wt:W t=some (.aI g n)):At W' (cH a h):=hA.mono fun x hx e=>k _ _ e (Ff hA wt x hx)
end
theorem oZ{b:Bool}{A B:Prop}(h1:b=true->A)(h2:b=false->B):if b=true then A else B:=by
 cases b
 ·exact h2 rfl
 ·exact h1 rfl
theorem Fg{l:List α}{f:α->PyData}{k:Int}(h0:0<=k)(h1:k < l.length):∃ v∈l,iy ((l.map f).map DV.im) k=some (.im (f v)):=by
 obtain⟨j,rfl⟩:=Int.eq_ofNat_of_zero_le h0;have hj:j < l.length:=by omega
 exact⟨l[j],abF hj,bY (by rw[aap,aap,aaG hj];rfl)⟩
theorem Bm{r:Rw}{ce:wn}(h:uU r=true):∃ k x v,r.wrote sp ce=some (k,x,v):=by
 cases r with
 | put d v=>cases h
 | op y d a b=>exact⟨_,_,_,rfl⟩
 | mv y d a n=>unfold Rw.wrote;dsimp only;split<;>exact⟨_,_,_,rfl⟩
 | go a p=>cases h
 | one y=>cases h
noncomputable def Kj:sU:=fun as W R=>∃(a:sY) (h:HM),as=[.im (bO h.rows h.bQ),.im (.list (h.rings.map pairD)),.im (jx h),.pt a.p]/\eC h/\At W (cH a h)/\∀ W' o,Ks W W'->Tf h o->R (.im (iI o)) W'
noncomputable def Kk:sU:=fun as W R=>∃(t g:Addr) (n:Nat) (a:sY) (h:HM) (base:Int),as=[.pt t,.im (bO h.rows h.bQ),.im (.list (h.rings.map pairD)),.im (jx h),.pt a.p,.im (.int base)]/\W t=some (.aI g n)/\n<=999000000/\eC h/\1<=h.width/\At W (cH a h)/\∀ W' n' o,n'<=n+6->W' t=some (.aI g n')->Kt t W W'->Tf h o->R (.im (iI o)) W'
section
variable {K:zn}
theorem Iy(F:cM K "_law_sure" "_law_sure" Fd f fd)(cD:Dn P w K mg base 1 "_law_waits" f1 d1 ["rings", "now", "beat"] (iW K (bg Bg) l0))(eB:Dn P w K mg base 1 "_law_due" f2 d2 ["row", "now"] (iW K (bg Bg) Bk))(bj:mg "len"=none):ba P w K mg base cU 2 f fd ["mill", "rings", "terms", "now"] (iW K (bg Bg) Kj):=by
 exact_mod_cast F.Bv oY bN (fun aK W R zz=>by obtain⟨a,b,e,_⟩:=zz; rw[e];rfl);refine⟨_,(af (aF 4 oY.nd (aJ hr (ah 3) aj))
  (af (aO (ay (bD hu) (aJ hr (ah 3) aj) (bo ag)) (ai (ax (aX (aa aj (aa (ah 4) (aa (ao (ao (aJ hr (ah 3) aj) ae) ae) (aa (ao (ao (aJ hr (ah 3) aj) ae) ae) ag))))))) av)
  (af (aO (ay (bD hu) (aJ hr (ah 3) aj) (bo ag)) (ai (ax (aY ff (aX (aa aj (aa (ah 4) ag))) (ao (aJ hr (ah 3) aj) ae)))) av)
  (af (aF 5 oY.nd (gA (aG hu) (aJ hr (ah 3) aj) (bJ bq bj aaU (aa (ao (ah 0) ae) ag))))
  (af (aO (gN (w_and (jX (nW (ah 5))) (bx (ay i9 (aJ hr (ah 3) aj) (ao (ah 2) ae))))) (ai (aF 4 oY.nd (aY bb (ah 4) ae))) av)
  (af (aF 6 oY.nd (aq cD hr (aa (ah 1) (aa (ah 3) (aa (ah 4) ag)))))
  (af (aO (gN (w_and (ay (bD hu) (ah 6) (bo ag)) (bx (jX (nW (aJ hr (ah 3) aj)))))) (ai (ax (aX (aa aj (aa (ah 4) (aa (ao (ah 6) ae) ag)))))) av)
  (af (aO (nW (ah 5)) (ai (ax cS)) av)
  (ai (ax (aX (aa aj (aa (ah 4) (aa (aJ hr (ah 3) aj) (aa (aq eB hr (aa (ao (ao (ah 0) ae) (aJ hr (ah 3) aj)) (aa (ah 3) ag))) ag))))))))))))))),?_⟩
 clear hu;symm;refine fun O W=>⟨_,inferInstance,?_⟩;rintro aK R ⟨a,h,rfl,hk,hA,q⟩;refine cj [_,_,_,_,none,none,none] rfl ?_;have w0:=dZ hA;have wo:W a.ow=some (.lst ((h.bp.map cR).map .im)):=hA.get 3 rfl;have wl:W a.la=some (.lst ((h.laid.map eI).map .im)):=hA.get 4 rfl;have k0:Ks W W:=fun _ _ e=>e
 sizeOf_list_dec
 refine ar ?_
 sizeOf_list_dec
 refine⟨_,ij wo,lb _,_,rfl,?_⟩;rw[cQ];cases eo:h.bp with
 | cons o r =>
  rw[eo]at wo;refine wH (by simp) ?_
  sizeOf_list_dec
  refine eF (v:=.im (cR o)) wo vf ?_;unfold cR
  sizeOf_list_dec
  refine eF (v:=.im (cR o)) wo vf ?_;unfold cR
  sizeOf_list_dec
  refine aA (ds:=[.str "late",.int h.aD,.int o.1,.int o.2.2.1]) (by show 4<=sizeLine;decide) ?_;exact q _ (some (.gL h.aD o.1 o.2.2.1)) k0 fun e he=>by cases he;exact⟨trivial,fun _ _ _ z=>by cases z⟩
 | nil =>
  sizeOf_list_dec
  refine ar ?_
  sizeOf_list_dec
  refine⟨_,ij wl,jy _ _ fun _ _=>rfl,_,rfl,?_⟩;rw[cQ];cases el:h.laid with
  | cons o r =>
   rw[el]at wl;refine wH (by simp) ?_
   sizeOf_list_dec
   refine aA (ds:=[.str "down",.int h.aD]) (by show 2<=sizeLine;decide) ?_
   sizeOf_list_dec
   refine eF (v:=.im (eI o)) wl vf ?_;refine⟨_,_,rfl,rfl,by show 5<=sizeLine;decide,?_⟩;exact q _ (some (.down h.aD o.1 o.2.1 o.2.2)) k0 fun e he=>by cases he;exact⟨trivial,fun _ _ _ z=>by cases z⟩
  | nil =>
   sizeOf_list_dec
   rw[aak];refine gh (fun ρ W'=>∃ b:Int,W=W'/\ρ=[some (.im (bO h.rows h.bQ)),some (.im (.list (h.rings.map pairD))),some (.im (jx h)),some (.pt a.p),some (.im (.int b)),some (.im (.bool (decide (h.st.place=(h.rows.length:Int))))),none]) (fun kk jn=>?_) ?_
   ·have jn:=fun b=>jn _ W ⟨b,rfl,rfl⟩
    sizeOf_list_dec
    refine og (fun z=>?_) (fun z=>?_)
    ·sizeOf_list_dec
     refine dA (fun z=>?_) (fun z=>?_)
     ·sizeOf_list_dec
      exact jn _
     ·exact jn _
    ·exact jn _
   rintro ρ _ ⟨b,rfl,rfl⟩
   sizeOf_list_dec
   refine bK ⟨a,h,b,rfl,hk.rl,hk.tk,hA,fun W2 p k2 gp wp=>?_⟩;have fw:=k2.at_ hA;have w2:=dZ fw
   sizeOf_list_dec
   refine ar ?_;refine hU (fun k W'=>W2=W'/\k=(!decide (h.df b=[])&&!h.st.cK)) (fun Q jn=>?_) ?_
   ·have jn:=fun k e=>jn k W2 ⟨rfl,e⟩
    sizeOf_list_dec
    refine⟨_,ij wp,dN _,_,rfl,?_⟩;rw[cQ];refine og (fun z=>?_) (fun z=>?_)
    ·sizeOf_list_dec
     exact jn _ (by rw[aat (by simpa using z)];rfl)
    ·exact jn _ (by rw[aa6 (by simpa using z)];rfl)
   rintro k _ ⟨rfl,rfl⟩;generalize h.df b=ws at *;refine oZ (fun z=>?_) (fun z=>?_)
   ·cases ws with
    | nil=>simp at z
    | cons k r =>
     sizeOf_list_dec
     refine eF (v:=.im (.int k)) wp vf ?_
     sizeOf_list_dec
     refine aA (ds:=[.str "bell",.int b,.int k]) (by show 3<=sizeLine;decide) ?_;exact q _ (some (.gx b k)) k2 fun e he=>by cases he;exact⟨trivial,fun _ _ _ z=>by cases z⟩
   ·sizeOf_list_dec
    refine ar ?_
    sizeOf_list_dec
    refine dA (fun z=>?_) (fun z=>?_)
    ·sizeOf_list_dec
     exact q _ none k2 fun e he=>by cases he
    ·have Of:=hk.st.p0;have RH:=hk.st.p1;obtain⟨pC,ki⟩:=dQ hk.iU Of (by omega)
     sizeOf_list_dec
     refine bC pC ?_
     sizeOf_list_dec
     refine bK ⟨rowOf h.rows h.st.place,_,_,a,h,rfl,ki,fw,hk.st,fun W3 k3=>?_⟩;have tw:=sx (fZ ki hk.st.sw hk.st.cw)
     sizeOf_list_dec
     rw[xE];refine aA (ds:=[.str "end",.int b,.int h.st.place,cP _]) (by show 4<=sizeLine;decide) ?_;exact q _ (some (.fin b h.st.place _)) (k2.trans k3) fun e he=>by cases he;exact⟨tw,fun _ _ _ z=>by cases z;exact⟨by omega,rfl⟩⟩
theorem Iz(F:cM K "_law_some" "_law_some" Fe f fd)(ak:Dn P w K mg base 1 "_law_draw" f1 d1 ["bag", "many"] (spT (bg Bg) gu))(cD:Dn P w K mg base 1 "_law_waits" f2 d2 ["rings", "now", "beat"] (iW K (bg Bg) l0))(eB:Dn P w K mg base 1 "_law_due" f3 d3 ["row", "now"] (iW K (bg Bg) Bk))(jz:Dn P w K mg base 3 "_law_cause" f4 d4 ["mill", "rings", "terms", "now", "event"] (iW K (bg Bg) x8))(yb:Dn P w K mg base 2 "_law_sure" f5 d5 ["mill", "rings", "terms", "now"] (iW K (bg Bg) Kj))(bj:mg "len"=none)(qx:mg "max"=none):ba P w K mg base cU 4 f fd ["bag", "mill", "rings", "terms", "now", "base"] (iW K (bg Bg) Kk):=by
 exact_mod_cast F.Bv fJ bN (fun aK W R zz=>by obtain⟨a,b,c,d,g,h,e,_⟩:=zz; rw[e];rfl);refine⟨_,(af (aF 6 fJ.nd (aY bb (bJ (pS rfl) qx PyProof.Rows.boot_max (aa (ah 5) (aa (aJ hr (ah 4) aj) ag))) (ao (bo (aa ae (aa ae (aa ae (aa (aq ak hr (aa (ah 0) (aa ae ag))) ag))))) (aq ak hr (aa (ah 0) (aa ae ag))))))
  (af (aF 7 fJ.nd (aq ak hr (aa (ah 0) (aa ae ag))))
  (af (aF 8 fJ.nd (aq cD hr (aa (ah 2) (aa (ah 4) (aa (ah 6) ag)))))
  (af (aF 9 fJ.nd cS)
  (af (aO (gN (w_and (ay gz (ah 7) ae) (bx (ay (bD hu) (aJ hr (ah 4) aj) (bo ag))))) (af (aF 10 fJ.nd (ao (aJ hr (ah 4) aj) (aq ak hr (aa (ah 0) (aa (bJ bq bj aaU (aa (aJ hr (ah 4) aj) ag)) ag)))))
   (ai (aF 9 fJ.nd (aX (aa aj (aa (ah 6) (aa (ao (ah 10) ae) (aa (ao (ah 10) ae) ag)))))))) (ai (aO (gN (w_and (ay (aG hu) (ah 7) ae) (bx (ay (bD hu) (aJ hr (ah 4) aj) (bo ag))))) (ai (aF 9 fJ.nd (aY ff (aX (aa aj (aa (ah 6) ag))) (ao (aJ hr (ah 4) aj) ae)))) (ai (aO (gN (w_and (pf (iQ hu) (ah 7) (aX (bV rfl))) (w_and (ay (bD hu) (ah 8) (bo ag)) (bx (jX (nW (aJ hr (ah 4) aj))))))) (ai (aF 9 fJ.nd (aX (aa aj (aa (ah 6) (aa (ao (ah 8) ae) ag)))))) (ai (aO (ay gz (aJ hr (ah 4) aj) (bJ bq bj aaU (aa (ao (ah 1) ae) ag))) (af (aF 11 fJ.nd (ao (ao (ah 1) ae) (aJ hr (ah 4) aj)))
      (af (aF 12 fJ.nd (aq eB hr (aa (ah 11) (aa (ah 4) ag))))
      (af (aO (gN (w_and (pf (iQ hu) (ao (ah 11) ae) (aX (bV rfl))) (bx (ay gz (aq ak hr (aa (ah 0) (aa ae ag))) ae)))) (ai (aF 12 fJ.nd (aX (aa (ao (ah 12) ae) (aa (ao (ah 12) ae) (aa cS ag)))))) av)
      (ai (aF 9 fJ.nd (aX (aa aj (aa (ah 6) (aa (aJ hr (ah 4) aj) (aa (ah 12) ag)))))))))) av)))))))
  (af (aO (gN (w_or (fV (ah 9)) (jW (fc (aq jz hr (aa (ah 1) (aa (ah 2) (aa (ah 3) (aa (ah 4) (aa (ah 9) ag)))))))))) (ai (ax (aq yb hr (aa (ah 1) (aa (ah 2) (aa (ah 3) (aa (ah 4) ag))))))) av)
  (ai (ax (ah 9))))))))),?_⟩
 clear hu;symm;refine fun O W=>⟨_,inferInstance,?_⟩;rintro aK R ⟨t,g,n,a,h,base,rfl,wt,hn,hk,hw,hA,q⟩;refine cj [_,_,_,_,_,_,none,none,none,none,none,none,none] rfl ?_;have o7:=hA;have sI:=wt;have w0:=dZ hA
 sizeOf_list_dec
 refine aL wt (by omega) (by omega) (by omega) fun x1 W1 _ _ wt f1=>?_;have kt:=Kt.refl.fr f1;clear f1 w0 hA
 sizeOf_list_dec
 refine bT (ds:=[0,0,1,x1].map PyData.int) (by show 4<=sizeLine;decide) ?_
 sizeOf_list_dec
 refine aL wt (by omega) (by omega) (by omega) fun x2 W2 x20 x21 wt f2=>?_;replace kt:=kt.fr f2;refine dn x20 (by simpa using x21) fun x3 _=>?_;clear f2
 sizeOf_list_dec
 generalize (if h.aD > base then h.aD else base)+x3=b;refine aL wt (by omega) (by omega) (by omega) fun pick W3 _ _ wt f3=>?_;replace kt:=kt.fr f3;clear f3
 sizeOf_list_dec
 refine bK ⟨a,h,b,rfl,hk.rl,hk.tk,kt.at_ o7 sI,fun W4 p k4 gp wp=>?_⟩;replace kt:=kt.ks k4;replace wt:=k4 _ _ wt;clear k4 gp
 sizeOf_list_dec
 refine gh (fun ρ W'=>∃(o:Option Ev) (k:Nat) (u1 u2 u3:Option DV),(∀ e,o=some e->jT e)/\W' t=some (.aI g k)/\k<=n+5/\Kt t W W'/\ρ=[some (.pt t),some (.im (bO h.rows h.bQ)),some (.im (.list (h.rings.map pairD))),some (.im (jx h)),some (.pt a.p),some (.im (.int base)),some (.im (.int b)),some (.im (.int pick)),some (.pt p),some (.im (iI o)),u1,u2,u3]) (fun kk jn=>?_) ?_
 ·have jU:=kt.at_ o7 sI;have w4:=dZ jU;have wo:W4 a.ow=some (.lst ((h.bp.map cR).map .im)):=jU.get 3 rfl;have wl:W4 a.la=some (.lst ((h.laid.map eI).map .im)):=jU.get 4 rfl;refine hU (fun k W'=>W4=W'/\(k=true->h.bp≠[])) (fun Q jn=>?_) ?_
  ·have jn:=fun k e=>jn k W4 ⟨rfl,e⟩
   sizeOf_list_dec
   refine dA (fun _=>?_) (fun _=>?_)
   ·sizeOf_list_dec
    refine⟨_,ij wo,lb _,_,rfl,jn _ fun z=>?_⟩;rw[cQ]at z;simpa using z
   ·exact jn _ fun z=>by cases z
  rintro k _ ⟨rfl,i4⟩;refine oZ (fun z=>?_) (fun z=>?_)
  ·have aag:=acT.mpr (i4 z);have IY:=hk.ow
   sizeOf_list_dec
   rw[aak,aak];have wo5:=Ff jU wt (a.ow,mq (h.bp.map cR)) (by simp[cH]);refine aL wt (by omega) (by omega) (by omega) fun i W5 i0 i1 wt f5=>?_;obtain⟨o,_,ho⟩:=Fg (f:=cR) i0 i1
   sizeOf_list_dec
   refine eF (v:=.im (cR o)) (f5.at wo5 wo) ho ?_;unfold cR
   sizeOf_list_dec
   refine aA (ds:=[.str "late",.int b,.int o.1,.int o.2.2.1]) (by show 4<=sizeLine;decide) ?_;exact jn _ _ ⟨some (.gL b o.1 o.2.2.1),_,_,_,_,(fun e he=>by cases he;trivial),wt,by omega,kt.fr f5,rfl⟩
  refine hU (fun k W'=>W4=W'/\(k=true->h.laid≠[])) (fun Q jn=>?_) ?_
  ·have jn:=fun k e=>jn k W4 ⟨rfl,e⟩
   sizeOf_list_dec
   refine dA (fun _=>?_) (fun _=>?_)
   ·sizeOf_list_dec
    refine⟨_,ij wl,jy _ _ fun _ _=>rfl,_,rfl,jn _ fun z=>?_⟩;rw[cQ]at z;simpa using z
   ·exact jn _ fun z=>by cases z
  rintro k _ ⟨rfl,i4⟩;refine oZ (fun z=>?_) (fun z=>?_)
  ·cases el:h.laid with
   | nil=>exact absurd el (i4 z)
   | cons o r =>
    rw[el]at wl
    sizeOf_list_dec
    refine aA (ds:=[.str "down",.int b]) (by show 2<=sizeLine;decide) ?_
    sizeOf_list_dec
    refine eF (v:=.im (eI o)) wl vf ?_;refine⟨_,_,rfl,rfl,by show 5<=sizeLine;decide,?_⟩
    sizeOf_list_dec
    exact jn _ _ ⟨some (.down b o.1 o.2.1 o.2.2),_,_,_,_,(fun e he=>by cases he;trivial),wt,by omega,kt,rfl⟩
  refine hU (fun k W'=>W4=W'/\(k=true->h.df b≠[])) (fun Q jn=>?_) ?_
  ·have jn:=fun k e=>jn k W4 ⟨rfl,e⟩
   sizeOf_list_dec
   refine dA (fun _=>?_) (fun _=>?_)
   ·sizeOf_list_dec
    refine⟨_,ij wp,dN _,_,rfl,?_⟩;rw[cQ];refine og (fun z=>?_) (fun z=>?_)
    ·sizeOf_list_dec
     exact jn _ fun _=>by simpa using z
    ·exact jn _ fun z=>by cases z
   ·exact jn _ fun z=>by cases z
  rintro k _ ⟨rfl,i4⟩;refine oZ (fun z=>?_) (fun z=>?_)
  ·cases el:h.df b with
   | nil=>exact absurd el (i4 z)
   | cons o r =>
    rw[el]at wp
    sizeOf_list_dec
    refine eF (v:=.im (.int o)) wp vf ?_
    sizeOf_list_dec
    refine aA (ds:=[.str "bell",.int b,.int o]) (by show 3<=sizeLine;decide) ?_;exact jn _ _ ⟨some (.gx b o),_,_,_,_,(fun e he=>by cases he;trivial),wt,by omega,kt,rfl⟩
  sizeOf_list_dec
  rw[aak];refine dA (fun z=>?_) (fun z=>?_)
  ·have Of:=hk.st.p0;obtain⟨pC,ki⟩:=dQ hk.iU Of z
   sizeOf_list_dec
   refine bC pC ?_
   sizeOf_list_dec
   refine bK ⟨_,_,_,a,h,rfl,ki,jU,hk.st,fun W5 k5=>?_⟩;have Yt:=fZ ki hk.st.sw hk.st.cw;have tw:=sx Yt;replace kt:=kt.ks k5;replace wt:=k5 _ _ wt;replace lX:=dZ (k5.at_ jU);clear w4 wo wl k5 wp jU pC;have sl:=E6 ki;have ss:=fun e=>Bm (sp:=h.st.aQ) (ce:=h.st.cells) (r:=rowOf h.rows h.st.place) e;generalize (rowOf h.rows h.st.place).wrote h.st.aQ h.st.cells=wr at *;have er:=(kU ki).1;rw[er]
   sizeOf_list_dec
   refine gh (fun ρ W'=>∃(t1:kS) (k:Nat) (u3:Option DV),t1.jS=wr.told.jS/\W' t=some (.aI g k)/\k<=n+5/\Ko [(t,.part)] W5 W'/\ρ=[some (.pt t),some (.im (bO h.rows h.bQ)),some (.im (.list (h.rings.map pairD))),some (.im (jx h)),some (.pt a.p),some (.im (.int base)),some (.im (.int b)),some (.im (.int pick)),some (.pt p),some (.im .none),none,u3,some (.im (cP t1))]) (fun k2 vJ=>?_) ?_
   ·sizeOf_list_dec
    refine bC vf ?_
    sizeOf_list_dec
    refine dA (fun z=>?_) (fun z=>?_)
    ·obtain⟨k,x,v,rfl⟩:=ss (by rw[sl];exact aa6 z);dsimp only[fk]
     sizeOf_list_dec
     refine aL wt (by omega) (by omega) (by omega) fun d1 W6 _ _ wt f6=>?_
     sizeOf_list_dec
     refine dA (fun z=>?_) (fun z=>?_)
     ·sizeOf_list_dec
      refine aA (ds:=[.str k,.int x,.none]) (by show 3<=sizeLine;decide) ?_;exact vJ _ _ ⟨some (k,x,none),_,_,rfl,wt,by omega,(Ko.of fun _ _ e=>e).fr f6 (by simp),rfl⟩
     ·exact vJ _ _ ⟨some (k,x,some v),_,_,rfl,wt,by omega,(Ko.of fun _ _ e=>e).fr f6 (by simp),rfl⟩
    ·exact vJ _ _ ⟨wr.told,_,_,rfl,wt,by omega,Ko.of fun _ _ e=>e,by rw[<- xE];rfl⟩
   clear wt lX;rintro ρ W6 ⟨t1,k6,u3,et,wt,Td,ko6,rfl⟩;replace kt:Kt t W W6:=fun z c e n=>ko6 z c (kt z c e n) (by simpa using n);have w6:=dZ (kt.at_ o7 sI)
   sizeOf_list_dec
   refine aA (ds:=[.str "end",.int b,.int h.st.place,cP t1]) (by show 4<=sizeLine;decide) ?_;exact jn _ _ ⟨some (.fin b h.st.place t1),_,_,_,_,(fun e he=>by cases he;show jv t1.jS;rw[et];exact tw),wt,by omega,kt,rfl⟩
  ·exact jn _ _ ⟨none,_,_,_,_,(fun e he=>by cases he),wt,by omega,kt,rfl⟩
 clear wt kt wp;rintro ρ W5 ⟨o,k,u1,u2,u3,ho,wt,Yr,kt,rfl⟩;have lX:=kt.at_ o7 sI;refine ar ?_;cases o with
 | none =>
  dsimp only[iI]
  sizeOf_list_dec
  refine bK ⟨a,h,rfl,hk,lX,fun W6 o k6 ho=>?_⟩;exact q W6 k o (by omega) (k6 _ _ wt) (kt.ks k6) ho
 | some e =>
  have i4:isNone (.im (iI (some e)))=false:=by cases e<;>rfl
  sizeOf_list_dec
  rw[i4]
  sizeOf_list_dec
  refine bK ⟨a,h,e,rfl,hk,hw,ho e rfl,lX,fun W6 k6=>?_⟩;replace kt:=kt.ks k6;replace wt:=k6 _ _ wt;cases hb:h.bB e with
  | none =>
   sizeOf_list_dec
   exact q W6 k (some e) (by omega) wt kt (Og hk (ho e rfl) hb)
  | some x =>
   sizeOf_list_dec
   refine bK ⟨a,h,rfl,hk,kt.at_ o7 sI,fun W7 o k7 ho=>?_⟩;exact q W7 k o (by omega) (k7 _ _ wt) (kt.ks k7) ho
end
abbrev Fh:Stmt:=top 54
abbrev Fi:Stmt:=top 55
abbrev Fj:Stmt:=top 56
abbrev sJ:Stmt:=top 57
theorem l5:aB ["bag", "now", "beat", "number", "worth", "pick", "wrote"] ["bag", "now"] (defScope Fh):=by ac_rfl
theorem Fl:aB ["bag", "number", "more"] ["bag", "number"] (defScope Fi):=by ac_rfl
theorem Fm:aB ["bag", "wrote", "due", "pick"] ["bag", "wrote", "due"] (defScope Fj):=by ac_rfl
theorem jA:aB ["bag", "mill", "terms", "now", "event", "pick", "beats", "wrote"] ["bag", "mill", "terms", "now", "event"] (defScope sJ):=by ac_rfl
noncomputable def Fn:sU:=fun as W R=>∃(t g:Addr) (n:Nat) (a:sY) (h:HM),as=[.pt t,.pt a.p]/\W t=some (.aI g n)/\n<=998000000/\At W (cH a h)/\∀ W' n' e,n'<=n+30->W' t=some (.aI g n')->Kt t W W'->jT e->R (.im (fm e)) W'
def zG:sT:=fun n ds R=>∃ i:Int,ds=[.int i]/\n<=998500000/\∀(j:Int) (n':Nat),n'<=n+8->R (.im (.int j)) n'
noncomputable def Kl:sT:=fun n ds R=>∃(t:kS) (w:vH),ds=[cP t,fk w]/\jv t.jS/\(t≠none->w≠none)/\n<=998000000/\∀(t':kS) (n':Nat),jv t'.jS->n'<=n+16->R (.im (cP t')) n'
noncomputable def zH:sU:=fun as W R=>∃(t g:Addr) (n:Nat) (a:sY) (h:HM) (o:Option Ev),as=[.pt t,.im (bO h.rows h.bQ),.im (jx h),.pt a.p,.im (iI o)]/\W t=some (.aI g n)/\n<=990000000/\eC h/\Tf h o/\At W (cH a h)/\∀ W' n' e,n'<=n+6000->W' t=some (.aI g n')->Kt t W W'->jT e->R (.im (fm e)) W'
theorem IA{v:v0}:jv (kS.jS (some ("spot",x,v))):=fun k y e=>by cases e;exact .inl rfl
theorem Oh{v:v0}:jv (kS.jS (some ("cell",x,v))):=fun k y e=>by cases e;exact .inr rfl
section
variable {K:zn}
theorem IB(F:cM K "_law_wild" "_law_wild" Fh f fd)(ak:Dn P w K mg base 1 "_law_draw" f1 d1 ["bag", "many"] (spT (bg Bg) gu))(c9:Dn P w K mg base 2 "_law_far" f2 d2 ["bag"] (spT (bg Bg) xp))(dh:Dn P w K mg base 2 "_law_worth" f3 d3 ["bag"] (spT (bg Bg) oG))(qx:mg "max"=none):ba P w K mg base cU 3 f fd ["bag", "now"] (iW K (bg Bg) Fn):=by
 exact_mod_cast F.Bv l5 bN (fun aK W R zz=>by obtain⟨a,b,c,d,g,e,_⟩:=zz; rw[e];rfl);refine⟨_,(af (aF 2 l5.nd (aY bb (bJ (pS rfl) qx PyProof.Rows.boot_max (aa ae (aa (aY gy (aJ hr (ah 1) aj) (aq ak hr (aa (ah 0) (aa ae ag)))) ag))) (aq ak hr (aa (ah 0) (aa ae ag)))))
  (af (aF 3 l5.nd (ao (bo (aa (aq ak hr (aa (ah 0) (aa ae ag))) (aa (aJ hr (ah 1) aj) (aa (aY gy (Ax lq ae) (aq ak hr (aa (ah 0) (aa ae ag)))) (aa (aq c9 hr (aa (ah 0) ag)) ag))))) (aq ak hr (aa (ah 0) (aa ae ag)))))
  (af (aF 4 l5.nd (aq dh hr (aa (ah 0) ag)))
  (af (aF 5 l5.nd (aq ak hr (aa (ah 0) (aa ae ag))))
  (af (aO (ay (aG hu) (ah 5) ae) (ai (ax (aX (aa aj (aa (ah 2) (aa (ah 3) (aa (ah 4) ag))))))) av)
  (af (aO (ay (aG hu) (ah 5) ae) (ai (ax (aX (aa aj (aa (ah 2) (aa (ah 3) (aa (aq ak hr (aa (ah 0) (aa ae ag))) (aa (ah 4) ag)))))))) av)
  (af (aO (ay (aG hu) (ah 5) ae) (ai (ax (aX (aa aj (aa (ah 2) (aa (ah 3) ag)))))) av)
  (af (aF 6 l5.nd (bo (aa cS (aa (aX (aa aj (aa (aq ak hr (aa (ah 0) (aa ae ag))) (aa (ah 4) ag)))) (aa (aX (aa aj (aa (aq ak hr (aa (ah 0) (aa ae ag))) (aa cS ag)))) (aa (aX (aa aj (aa (ah 3) (aa (ah 4) ag)))) ag))))))
  (ai (ax (aX (aa aj (aa (ah 2) (aa (ao (bo (aa (ah 3) (aa (aJ hr (ah 1) aj) ag))) (aq ak hr (aa (ah 0) (aa ae ag)))) (aa (ao (ah 6) (aq ak hr (aa (ah 0) (aa ae ag)))) ag))))))))))))))),?_⟩
 clear hu;symm;refine fun O W=>⟨_,inferInstance,?_⟩;rintro aK R ⟨t,g,n,a,h,rfl,wt,hn,hA,q⟩;refine cj [_,_,none,none,none,none,none] rfl ?_;have o7:=hA;have sI:=wt;have w0:=dZ hA
 sizeOf_list_dec
 refine aL wt (by omega) (by omega) (by omega) fun x1 W1 _ _ wt f1=>?_;have kt:=Kt.refl.fr f1;clear f1 w0 hA
 sizeOf_list_dec
 refine aL wt (by omega) (by omega) (by omega) fun x2 W2 _ _ wt f2=>?_;replace kt:=kt.fr f2;clear f2
 sizeOf_list_dec
 generalize (if h.aD - x1 > 0 then h.aD - x1 else 0)+x2=b;refine aL wt (by omega) (by omega) (by omega) fun x3 W3 _ _ wt f3=>?_;replace kt:=kt.fr f3;clear f3;have w3:=dZ (kt.at_ o7 sI)
 sizeOf_list_dec
 refine aL wt (by omega) (by omega) (by omega) fun x4 W4 _ _ wt f4=>?_;replace kt:=kt.fr f4;clear f4 w3
 sizeOf_list_dec
 refine cg (ds:=[]) wt ⟨rfl,by omega,fun Bw n4 _ V1=>cG ?_⟩;replace kt:=kt.ws (c:=.aI g n4);replace wt:aH W4 t (.aI g n4) t=some (.aI g n4):=au;generalize aH W4 t (.aI g n4)=W5 at kt wt
 sizeOf_list_dec
 refine bT (ds:=[x3,h.ends,-1 - x4,Bw].map PyData.int) (by show 4<=sizeLine;decide) ?_
 sizeOf_list_dec
 refine aL wt (by omega) (by omega) (by omega) fun x5 W6 RQ RS wt f6=>?_;replace kt:=kt.fr f6;refine dn RQ (by simpa using RS) fun num _=>?_;clear f6
 sizeOf_list_dec
 refine cg (ds:=[]) wt ⟨rfl,by omega,fun v n6 _ Oi=>cG ?_⟩;replace kt:=kt.ws (c:=.aI g n6);replace wt:aH W6 t (.aI g n6) t=some (.aI g n6):=au;generalize aH W6 t (.aI g n6)=W7 at kt wt
 sizeOf_list_dec
 refine aL wt (by omega) (by omega) (by omega) fun pick W8 _ _ wt f8=>?_;replace kt:=kt.fr f8;clear f8
 sizeOf_list_dec
 refine ar ?_
 sizeOf_list_dec
 refine dA (fun z=>?_) (fun z=>?_)
 ·sizeOf_list_dec
  refine aA (ds:=[.str "late",.int b,.int num,.int v]) (by show 4<=sizeLine;decide) ?_;exact q _ _ (.gL b num v) (by omega) wt kt trivial
 sizeOf_list_dec
 refine ar ?_
 sizeOf_list_dec
 refine dA (fun z=>?_) (fun z=>?_)
 ·sizeOf_list_dec
  refine aL wt (by omega) (by omega) (by omega) fun c W9 _ _ wt f9=>?_
  sizeOf_list_dec
  refine aA (ds:=[.str "down",.int b,.int num,.int c,.int v]) (by show 5<=sizeLine;decide) ?_;exact q _ _ (.down b num c v) (by omega) wt (kt.fr f9) trivial
 sizeOf_list_dec
 refine ar ?_
 sizeOf_list_dec
 refine dA (fun z=>?_) (fun z=>?_)
 ·sizeOf_list_dec
  refine aA (ds:=[.str "bell",.int b,.int num]) (by show 3<=sizeLine;decide) ?_;exact q _ _ (.gx b num) (by omega) wt kt trivial
 sizeOf_list_dec
 refine aL wt (by omega) (by omega) (by omega) fun y1 W9 _ _ wt f9=>?_;replace kt:=kt.fr f9;clear f9
 sizeOf_list_dec
 refine aA (ds:=[.str "spot",.int y1,.int v]) (by show 3<=sizeLine;decide) ?_
 sizeOf_list_dec
 refine aL wt (by omega) (by omega) (by omega) fun y2 Yq _ _ wt OJ=>?_;replace kt:=kt.fr OJ;clear OJ
 sizeOf_list_dec
 refine aA (ds:=[.str "spot",.int y2,.none]) (by show 3<=sizeLine;decide) ?_
 sizeOf_list_dec
 refine aA (ds:=[.str "cell",.int num,.int v]) (by show 3<=sizeLine;decide) ?_
 sizeOf_list_dec
 refine bT (ds:=[cP none,cP (some ("spot",y1,some v)),cP (some ("spot",y2,none)),cP (some ("cell",num,some v))]) (by show 4<=sizeLine;decide) ?_;have Xj:=dZ (kt.at_ o7 sI)
 sizeOf_list_dec
 refine bT (ds:=[num,h.st.place].map PyData.int) (by show 2<=sizeLine;decide) ?_
 sizeOf_list_dec
 refine aL wt (by omega) (by omega) (by omega) fun y3 W11 y30 y31 wt RT=>?_;replace kt:=kt.fr RT;refine dn y30 (by simpa using y31) fun pl _=>?_
 sizeOf_list_dec
 refine aL wt (by omega) (by omega) (by omega) fun y4 W12 y40 y41 wt RU=>?_;replace kt:=kt.fr RU;obtain⟨tl,ha,tg⟩:∃ tl:kS,iy [cP none,cP (some ("spot",y1,some v)),cP (some ("spot",y2,none)),cP (some ("cell",num,some v))] y4=some (cP tl)/\jv tl.jS:=by
  obtain rfl | rfl | rfl | rfl:y4=0\/y4=1\/y4=2\/y4=3:=by omega
  ·exact⟨_,rfl,fun _ _ e=>by cases e⟩
  ·exact⟨_,rfl,IA⟩
  ·exact⟨_,rfl,IA⟩
  ·exact⟨_,rfl,Oh⟩
 refine eW ha ?_
 sizeOf_list_dec
 refine aA (ds:=[.str "end",.int b,.int pl,cP tl]) (by show 4<=sizeLine;decide) ?_;exact q _ _ (.fin b pl tl) (by omega) wt kt tg
theorem IC(F:cM K "_law_other_number" "_law_other_number" Fi f fd)(ak:Dn P w K mg base 1 "_law_draw" f1 d1 ["bag", "many"] (spT (bg Bg) gu))(c9:Dn P w K mg base 2 "_law_far" f2 d2 ["bag"] (spT (bg Bg) xp)):ba P w K mg base cU 3 f fd ["bag", "number"] (spT (bg Bg) zG):=by
 exact_mod_cast F.Ha Fl bN rfl (by nofun);refine⟨_,(af (aF 2 Fl.nd (bo (aa (aY bb (ah 1) ae) (aa (aY gy (ah 1) ae) (aa (aY bb (ah 1) ae) (aa (aY bb (ah 1) ae) (aa (aY gy (Ax lq ae) (ah 1)) (aa (aq c9 hr (aa (ah 0) ag)) ag))))))))
  (ai (ax (ao (ah 2) (aq ak hr (aa (ah 0) (aa ae ag))))))),?_⟩
 clear hu;symm;refine fun t g O=>⟨_,inferInstance,?_⟩;rintro n ds R ⟨i,rfl,hn,q⟩;refine cj [_,_,none] rfl ?_;have wt:WT t g n t=some (.aI g n):=au;generalize WT t g n=W at wt
 sizeOf_list_dec
 refine cg (ds:=[]) wt ⟨rfl,by omega,fun Bw n4 _ V1=>cG ?_⟩;replace wt:aH W t (.aI g n4) t=some (.aI g n4):=au;generalize aH W t (.aI g n4)=W5 at wt
 sizeOf_list_dec
 refine bT (ds:=[i+1,i - 1,i+16,i+4294967296,-1 - i,Bw].map PyData.int) (by show 6<=sizeLine;decide) ?_
 sizeOf_list_dec
 refine aL wt (by omega) (by omega) (by omega) fun x5 W6 RQ RS wt f6=>?_;refine dn RQ (by simpa using RS) fun num _=>?_;exact⟨_,wt,q num _ (by omega)⟩
theorem ID(F:cM K "_law_other_wrote" "_law_other_wrote" Fj f fd)(ak:Dn P w K mg base 1 "_law_draw" f1 d1 ["bag", "many"] (spT (bg Bg) gu))(dh:Dn P w K mg base 2 "_law_worth" f2 d2 ["bag"] (spT (bg Bg) oG))(bW:Dn P w K mg base 3 "_law_other_number" f3 d3 ["bag", "number"] (spT (bg Bg) zG))(gK:mg "int"=none):ba P w K mg base cU 4 f fd ["bag", "wrote", "due"] (spT (bg Bg) Kl):=by
 exact_mod_cast F.Ha Fm bN rfl (by nofun);refine⟨_,(af (aF 3 Fm.nd (aq ak hr (aa (ah 0) (aa ae ag))))
  (af (aO (fV (ah 1)) (ai (ax (ao (bo (aa (aX (aa aj (aa (aq ak hr (aa (ah 0) (aa ae ag))) (aa (aq dh hr (aa (ah 0) ag)) ag)))) (aa (aX (aa aj (aa (aq ak hr (aa (ah 0) (aa ae ag))) (aa ae ag)))) ag))) (aY gd (ah 3) ae)))) av)
  (af (aO (ay (aG hu) (ah 3) ae) (ai (ax cS)) av)
  (af (aO (ay (aG hu) (ah 3) ae) (ai (ax (aX (aa (ao (ah 1) ae) (aa (aq bW hr (aa (ah 0) (aa (ao (ah 1) ae) ag))) (aa (ao (ah 1) ae) ag)))))) av)
  (af (aO (gN (w_and (ay (aG hu) (ah 3) ae) (w_and (ay (aG hu) (ao (ah 1) ae) aj) (bx (fc (ao (ah 1) ae)))))) (ai (ax (aX (aa (ao (ah 1) ae) (aa (ao (ah 1) ae) (aa cS ag)))))) av)
  (af (aO (gN (w_and (ay (aG hu) (ah 3) ae) (bx (fc (ao (ah 1) ae))))) (ai (ax (aX (aa (ao (bo (bV rfl)) (cE jE gK abT (aa (gA (aG hu) (ao (ah 1) ae) aj) ag))) (aa (ao (ah 1) ae) (aa (ao (ah 1) ae) ag)))))) av)
  (ai (ax (aX (aa (ao (ah 1) ae) (aa (ao (ah 1) ae) (aa (aq bW hr (aa (ah 0) (aa (ao (ah 2) ae) ag))) ag)))))))))))),?_⟩
 clear hu;symm;refine fun t g O=>⟨_,inferInstance,?_⟩;rintro n ds R ⟨tl,wr,rfl,tg,tw,hn,q⟩;refine cj [_,_,_,none] rfl ?_;have wt:WT t g n t=some (.aI g n):=au;generalize WT t g n=W at wt
 sizeOf_list_dec
 refine aL wt (by omega) (by omega) (by omega) fun pick W1 _ _ wt f1=>?_
 sizeOf_list_dec
 refine ar ?_;rcases tl with _ | ⟨k,x,v⟩
 ·dsimp only[cP]
  sizeOf_list_dec
  refine aL wt (by omega) (by omega) (by omega) fun y1 W2 _ _ wt f2=>?_
  sizeOf_list_dec
  refine cg (ds:=[]) wt ⟨rfl,by omega,fun v n6 _ Oi=>cG ?_⟩;replace wt:aH W2 t (.aI g n6) t=some (.aI g n6):=au;generalize aH W2 t (.aI g n6)=W7 at wt
  sizeOf_list_dec
  refine aA (ds:=[.str "spot",.int y1,.int v]) (by show 3<=sizeLine;decide) ?_
  sizeOf_list_dec
  refine aL wt (by omega) (by omega) (by omega) fun y2 W3 _ _ wt f2=>?_
  sizeOf_list_dec
  refine aA (ds:=[.str "cell",.int y2,.int 0]) (by show 3<=sizeLine;decide) ?_
  sizeOf_list_dec
  refine bT (ds:=[cP (some ("spot",y1,some v)),cP (some ("cell",y2,some 0))]) (by show 2<=sizeLine;decide) ?_
  sizeOf_list_dec
  obtain⟨tl,ha,tg⟩:∃ tl:kS,iy [cP (some ("spot",y1,some v)),cP (some ("cell",y2,some 0))] (pick % 2)=some (cP tl)/\jv tl.jS:=by
   obtain e | e:pick % 2=0\/pick % 2=1:=by omega
   ·rw[e];exact⟨_,rfl,IA⟩
   ·rw[e];exact⟨_,rfl,Oh⟩
  refine eW ha ?_;exact⟨_,wt,q tl _ tg (by omega)⟩
 obtain⟨⟨k2,x2,v2⟩,rfl⟩:∃ y,wr=some y:=by
  cases wr with
  | none=>exact absurd rfl (tw (by simp))
  | some y=>exact⟨y,rfl⟩
 have tk:∀ y u,jv (kS.jS (some (k,y,u))):=fun y u k' x' e=>by cases e;exact tg k x rfl
 clear tw;dsimp only[cP,fk]
 sizeOf_list_dec
 refine ar ?_
 sizeOf_list_dec
 refine dA (fun z=>?_) (fun z=>?_)
 ·sizeOf_list_dec
  exact⟨_,wt,q none _ (fun _ _ e=>by cases e) (by omega)⟩
 sizeOf_list_dec
 refine ar ?_
 sizeOf_list_dec
 refine dA (fun z=>?_) (fun z=>?_)
 ·sizeOf_list_dec
  refine cg (ds:=[.int x]) wt ⟨x,rfl,by omega,fun j n6 Oi=>cG ?_⟩
  sizeOf_list_dec
  refine aA (ds:=[.str k,.int j,mE v]) (by show 3<=sizeLine;decide) ?_;exact⟨_,au,q (some (k,j,v)) _ (tk _ _) (by omega)⟩
 have fin:∀(W':Wd) (n':Nat) (t':kS),W' t=some (.aI g n')->jv t'.jS->n'<=n+16->(Mw t g R).rt (.im (cP t')) W':=fun W' n' t' h1 h2 h3=>⟨_,h1,q t' n' h2 h3⟩
 sizeOf_list_dec
 refine ar ?_;refine hU (fun _ W'=>W1=W') (fun Q jn=>?_) ?_
 ·have jn:=fun k=>jn k W1 rfl
  sizeOf_list_dec
  refine dA (fun _=>?_) (fun _=>jn _)
  sizeOf_list_dec
  refine dA (fun _=>?_) (fun _=>jn _);cases v<;>dsimp only[mE]<;>sizeOf_list_dec<;>exact jn _
 rintro b _ rfl;refine oZ (fun _=>?_) (fun _=>?_)
 ·sizeOf_list_dec
  refine aA (ds:=[.str k,.int x,.none]) (by show 3<=sizeLine;decide) ?_;exact fin _ _ (some (k,x,none)) wt (tk _ _) (by omega)
 sizeOf_list_dec
 refine ar ?_;refine hU (fun _ W'=>W1=W') (fun Q jn=>?_) ?_
 ·have jn:=fun k=>jn k W1 rfl
  sizeOf_list_dec
  refine dA (fun _=>?_) (fun _=>jn _);cases v<;>dsimp only[mE]<;>sizeOf_list_dec<;>exact jn _
 rintro b _ rfl;refine oZ (fun _=>?_) (fun _=>?_)
 ·sizeOf_list_dec
  refine bT (ds:=[.str "spot",.str "cell"]) (by show 2<=sizeLine;decide) ?_
  sizeOf_list_dec
  by_cases ek:k = "spot"
  ·rw[aa6 ek];refine eW (D:=.str "cell") rfl ?_
   sizeOf_list_dec
   refine aA (ds:=[.str "cell",.int x,mE v]) (by show 3<=sizeLine;decide) ?_;exact fin _ _ (some ("cell",x,v)) wt Oh (by omega)
  ·rw[aat ek];refine eW (D:=.str "spot") rfl ?_
   sizeOf_list_dec
   refine aA (ds:=[.str "spot",.int x,mE v]) (by show 3<=sizeLine;decide) ?_;exact fin _ _ (some ("spot",x,v)) wt IA (by omega)
 sizeOf_list_dec
 refine cg (ds:=[.int v2]) wt ⟨v2,rfl,by omega,fun j n6 Oi=>cG ?_⟩
 sizeOf_list_dec
 refine aA (ds:=[.str k,.int x,.int j]) (by show 3<=sizeLine;decide) ?_;exact fin _ _ (some (k,x,some j)) au (tk _ _) (by omega)
theorem Bn(F:cM K "_law_spoilt" "_law_spoilt" sJ f fd)(ak:Dn P w K mg base 1 "_law_draw" f1 d1 ["bag", "many"] (spT (bg Bg) gu))(c9:Dn P w K mg base 2 "_law_far" f2 d2 ["bag"] (spT (bg Bg) xp))(iV:Dn P w K mg base 3 "_law_wild" f3 d3 ["bag", "now"] (iW K (bg Bg) Fn))(bW:Dn P w K mg base 3 "_law_other_number" f4 d4 ["bag", "number"] (spT (bg Bg) zG))(lh:Dn P w K mg base 4 "_law_other_wrote" f5 d5 ["bag", "wrote", "due"] (spT (bg Bg) Kl))(eB:Dn P w K mg base 1 "_law_due" f6 d6 ["row", "now"] (iW K (bg Bg) Bk))(bj:mg "len"=none):ba P w K mg base cU 5 f fd ["bag", "mill", "terms", "now", "event"] (iW K (bg Bg) zH):=by
 exact_mod_cast F.Bv jA bN (fun aK W R zz=>by obtain⟨a,b,c,d,g,h,e,_⟩:=zz; rw[e];rfl);refine⟨_,(af (aF 5 jA.nd (aq ak hr (aa (ah 0) (aa ae ag))))
  (af (aO (gN (w_or (fV (ah 4)) (jW (ay (aG hu) (ah 5) ae)))) (ai (ax (aq iV hr (aa (ah 0) (aa (ah 3) ag))))) av)
  (af (aO (ay (aG hu) (ah 5) ae) (af (aF 6 jA.nd (bo (aa (aY gy (aJ hr (ah 3) aj) ae) (aa (aY bb (aY bb (ao (ah 4) ae) ae) (aq ak hr (aa (ah 0) (aa ae ag)))) (aa (aY bb (ao (ah 4) ae) (aq c9 hr (aa (ah 0) ag))) ag)))))
   (af (aF 6 jA.nd (aY Cs (ah 6) (eU (N':=["one", "bag", "terms"]) (ix:=[none,some 0,some 2]) ⟨rfl,rfl,rfl,rfl,rfl,rfl⟩ (eJ (aJ hr (ah 3) aj)) (fun _ _ _ _=>(bf 0 (show List.Nodup (["one", "bag", "terms"]:wv) by decide +kernel))) (fun _ _ _ _=>j4) (fun _ _ _ _=>(aY bb (aY bb (ao (ah 0) ae) (ao (ah 2) ae)) (aq ak hr (aa (ah 1) (aa ae ag))))))))
   (ai (ax (aY ff (aX (aa (ao (ah 4) ae) (aa (ao (ah 6) (aq ak hr (aa (ah 0) (aa (bJ bq bj aaU (aa (ah 6) ag)) ag)))) ag))) (j3 g9 (ah 4) (eM ae) fe)))))) av)
  (af (aO (gN (w_and (ay (aG hu) (ah 5) ae) (bx (ay (bD hu) (ao (ah 4) ae) aj)))) (ai (ax (aY ff (j3 g9 (ah 4) fe (eM (Ax lq ae))) (aX (aa (aq bW hr (aa (ah 0) (aa (ao (ah 4) (Ax lq ae)) ag))) ag))))) av)
  (af (aO (gN (w_and (ay (aG hu) (ah 5) ae) (bx (ay (aG hu) (ao (ah 4) ae) aj)))) (ai (ax (aY ff (j3 g9 (ah 4) fe (eM ae)) (aX (aa (aq bW hr (aa (ah 0) (aa (ao (ah 4) ae) ag))) (aa (ao (ah 4) ae) ag)))))) av)
  (af (aO (gN (w_or (ay (bD hu) (ao (ah 4) ae) aj) (jW (ay (aG hu) (ah 5) ae)))) (ai (ax (aY ff (aY ff (j3 g9 (ah 4) fe (eM ae)) (aX (aa (aq bW hr (aa (ah 0) (aa (ao (ah 4) ae) ag))) ag))) (j3 g9 (ah 4) (eM ae) fe)))) av)
  (af (aF 7 jA.nd (aq lh hr (aa (ah 0) (aa (ao (ah 4) ae) (aa (aq eB hr (aa (ao (ao (ah 1) ae) (aJ hr (ah 3) aj)) (aa (ah 3) ag))) ag)))))
  (ai (ax (aX (aa aj (aa (ao (ah 4) ae) (aa (ao (ah 4) ae) (aa (ah 7) ag)))))))))))))),?_⟩
 clear hu;symm;refine fun O W=>⟨_,inferInstance,?_⟩;rintro aK R ⟨t,g,n,a,h,o,rfl,wt,hn,hk,ho,hA,q⟩;refine cj [_,_,_,_,_,none,none,none] rfl ?_;have o7:=hA;have sI:=wt
 sizeOf_list_dec
 refine aL wt (by omega) (by omega) (by omega) fun pick W1 _ _ wt f1=>?_;have kt:=Kt.refl.fr f1;clear f1 hA
 sizeOf_list_dec
 refine ar ?_;refine hU (fun k W'=>W1=W'/\(k=false->∃ e,o=some e)) (fun Q jn=>?_) ?_
 ·have jn:=fun k e=>jn k W1 ⟨rfl,e⟩;cases o with
  | none =>
   dsimp only[iI]
   sizeOf_list_dec
   exact jn _ fun z=>by cases z
  | some e =>
   have i4:isNone (.im (iI (some e)))=false:=by cases e<;>rfl
   sizeOf_list_dec
   rw[i4]
   sizeOf_list_dec
   exact jn _ fun _=>⟨_,rfl⟩
 rintro b _ ⟨rfl,ex⟩;refine oZ (fun _=>?_) (fun z=>?_)
 ·sizeOf_list_dec
  refine bK ⟨t,g,_,a,h,rfl,wt,by omega,kt.at_ o7 sI,fun W2 n2 e Gk vI k2 he=>?_⟩;exact q W2 n2 e (by omega) vI (kt.trans k2) he
 obtain⟨e,rfl⟩:=ex z;obtain⟨he,hf⟩:=ho e rfl;dsimp only[iI];clear ex ho;have on:∀(i:Int) (Q:DK),(∀ j W' n',n'<=n+9->W' t=some (.aI g n')->Kt t W W'->Q (.im (.int j)) W')->qa zG [.pt t,.im (.int i)] W1 Q:=fun i Q h =>
  cg (ds:=[.int i]) wt ⟨i,rfl,by omega,fun j n6 Oi=>cG (h j _ n6 (by omega) au kt.ws)⟩
 sizeOf_list_dec
 refine ar ?_
 sizeOf_list_dec
 refine dA (fun _=>?_) (fun _=>?_)
 ·obtain⟨x,rr,ex,hrr,eb⟩:∃ x rr,fm e=.tuple (.str x::.int e.aD::rr)/\rr.length<=3/\∀ b',∃ e',fm e'=.tuple (.str x::.int b'::rr)/\jT e':=by
   cases e with
   | fin b pl t=>exact⟨_,_,rfl,by simp,fun b'=>⟨.fin b' pl t,rfl,he⟩⟩
   | gL b n v=>exact⟨_,_,rfl,by simp,fun b'=>⟨.gL b' n v,rfl,trivial⟩⟩
   | down b n c v=>exact⟨_,_,rfl,by simp,fun b'=>⟨.down b' n c v,rfl,trivial⟩⟩
   | gx b k=>exact⟨_,_,rfl,by simp,fun b'=>⟨.gx b' k,rfl,trivial⟩⟩
  have OI:iy (PyData.str x::PyData.int e.aD::rr) 1=some (.int e.aD):=show iy (PyData.str x::PyData.int e.aD::rr) ((1:Nat):Int)=some (.int e.aD) from bY rfl;rw[ex];clear ex hf;have w1:=dZ (kt.at_ o7 sI)
  sizeOf_list_dec
  refine bC OI ?_
  sizeOf_list_dec
  refine aL wt (by omega) (by omega) (by omega) fun y1 W2 _ _ wt f2=>?_;replace kt:=kt.fr f2;clear f2 w1 on
  sizeOf_list_dec
  refine bC OI ?_
  sizeOf_list_dec
  refine cg (ds:=[]) wt ⟨rfl,by omega,fun Bw n4 _ V1=>cG ?_⟩;replace kt:=kt.ws (c:=.aI g n4);replace wt:aH W2 t (.aI g n4) t=some (.aI g n4):=au;generalize aH W2 t (.aI g n4)=W3 at kt wt
  sizeOf_list_dec
  refine bT (ds:=[h.aD - 1,e.aD+1+y1,e.aD+Bw].map PyData.int) (by show 3<=sizeLine;decide) ?_;have iJ:=kt.at_ o7 sI;have w3:=dZ iJ;have wo:∀ W',Kt t W W'->W' a.ow=some (.lst ((h.bp.map cR).map .im)):=fun W' k=>(k.at_ o7 sI).get 3 rfl;have wo3:=wo _ kt;have IY:=hk.ow
  sizeOf_list_dec
  refine fi (fun i ys W'=>∃(bs:wn) (k:Nat),ys=(bs.map PyData.int).map .im/\bs.length=i/\W' t=some (.aI g k)/\k<=n+20+i/\Kt t W W') (by rw[aak];exact aaH (cm (by omega))) ⟨[],n4,rfl,rfl,wt,by omega,kt⟩ (by rintro _ _ _ ⟨_,_,_,_,_,_,k⟩;exact wo _ k) ?_ ?_
  ·rintro j d ys W4 hd _ ⟨bs,k,rfl,hl,wt,hk,kt⟩;rw[aap]at hd;obtain⟨o,ho,rfl⟩:=aaw.mp hd;have:=(aas.mp ho).1;unfold cR
   sizeOf_list_dec
   refine aL wt (by omega) (by omega) (by omega) fun y W5 _ _ wt f5=>?_
   sizeOf_list_dec
   exact⟨bs++[o.2.2.2+h.longest+y],_,by simp,by simp[hl],wt,by omega,kt.fr f5⟩
  clear wt kt w3 wo3 iJ;rintro ys W4 ⟨bs,k,rfl,hl,wt,hk4,kt⟩;rw[aak]at hl hk4;refine dB ?_
  sizeOf_list_dec
  refine JO (vs:=([h.aD - 1,e.aD+1+y1,e.aD+Bw].map PyData.int).map .im) (us:=(bs.map PyData.int).map .im) rfl rfl (by rw[aak,aak,aak,aak];exact aaH (cm (by show 3+bs.length<=_;omega))) ?_;rw[<- ab3,<- ab3];refine dB ?_
  sizeOf_list_dec
  refine bC vf ?_
  sizeOf_list_dec
  rw[aak];have hl3:([h.aD - 1,e.aD+1+y1,e.aD+Bw]++bs).length=3+bs.length:=by simp;omega
  refine aL wt (by omega) (by omega) (by omega) fun i W5 i0 i1 wt f5=>?_;refine dn i0 i1 fun b' _=>?_
  sizeOf_list_dec
  refine aA (ds:=[.str x,.int b']) (by show 2<=sizeLine;decide) ?_
  sizeOf_list_dec
  refine⟨_,rfl,?_⟩;obtain⟨e',ee,Us⟩:=eb b';rw[show cutD (PyData.str x::PyData.int e.aD::rr) (some 2) none=rr from uJ (k:=1)];refine⟨_,_,rfl,rfl,aaH (cm (by show 2+rr.length<=_;omega)),?_⟩;show R (.im (.tuple (PyData.str x::.int b'::rr))) W5;rw[<- ee];exact q W5 _ e' (by omega) wt (kt.fr f5) Us
 cases e with
 | gL b m v =>
  sizeOf_list_dec
  refine ar ?_
  sizeOf_list_dec
  refine dA (fun _=>?_) (fun _=>?_)
  ·sizeOf_list_dec
   refine⟨_,rfl,?_⟩
   sizeOf_list_dec
   refine on _ _ fun j W' n' hn wt kt=>?_
   sizeOf_list_dec
   refine aA (ds:=[.int j]) (by show 1<=sizeLine;decide) ?_;refine⟨_,_,rfl,rfl,by show 4<=sizeLine;decide,?_⟩;exact q W' n' (.gL b m j) (by omega) wt kt trivial
  sizeOf_list_dec
  refine ar ?_;refine hU (fun k W'=>W1=W'/\k=false) (fun Q jn=>?_) ?_
  ·have jn:=jn _ W1 ⟨rfl,rfl⟩
   sizeOf_list_dec
   refine dA (fun _=>?_) (fun _=>?_)<;>sizeOf_list_dec<;>exact jn
  rintro k _ ⟨rfl,rfl⟩
  sizeOf_list_dec
  refine ar ?_
  sizeOf_list_dec
  refine⟨_,rfl,?_⟩
  sizeOf_list_dec
  refine on _ _ fun j W' n' hn wt kt=>?_
  sizeOf_list_dec
  refine aA (ds:=[.int j]) (by show 1<=sizeLine;decide) ?_;refine⟨_,_,rfl,rfl,by show 3<=sizeLine;decide,?_⟩
  sizeOf_list_dec
  refine⟨_,rfl,?_⟩;refine⟨_,_,rfl,rfl,by show 4<=sizeLine;decide,?_⟩;exact q W' n' (.gL b j v) (by omega) wt kt trivial
 | gx b k =>
  sizeOf_list_dec
  refine ar ?_
  sizeOf_list_dec
  refine dA (fun _=>?_) (fun _=>?_)
  ·sizeOf_list_dec
   refine⟨_,rfl,?_⟩
   sizeOf_list_dec
   refine on _ _ fun j W' n' hn wt kt=>?_
   sizeOf_list_dec
   refine aA (ds:=[.int j]) (by show 1<=sizeLine;decide) ?_;refine⟨_,_,rfl,rfl,by show 3<=sizeLine;decide,?_⟩;exact q W' n' (.gx b j) (by omega) wt kt trivial
  sizeOf_list_dec
  refine ar ?_;refine hU (fun k2 W'=>W1=W'/\k2=false) (fun Q jn=>?_) ?_
  ·have jn:=jn _ W1 ⟨rfl,rfl⟩
   sizeOf_list_dec
   refine dA (fun _=>?_) (fun _=>?_)<;>sizeOf_list_dec<;>exact jn
  rintro k2 _ ⟨rfl,rfl⟩
  sizeOf_list_dec
  refine ar ?_
  sizeOf_list_dec
  refine⟨_,rfl,?_⟩
  sizeOf_list_dec
  refine on _ _ fun j W' n' hn wt kt=>?_
  sizeOf_list_dec
  refine aA (ds:=[.int j]) (by show 1<=sizeLine;decide) ?_;refine⟨_,_,rfl,rfl,by show 3<=sizeLine;decide,?_⟩
  sizeOf_list_dec
  refine⟨_,rfl,?_⟩;refine⟨_,_,rfl,rfl,by show 3<=sizeLine;decide,?_⟩;exact q W' n' (.gx b j) (by omega) wt kt trivial
 | down b m c v =>
  sizeOf_list_dec
  refine ar ?_
  sizeOf_list_dec
  refine dA (fun _=>?_) (fun _=>?_)
  ·sizeOf_list_dec
   refine⟨_,rfl,?_⟩
   sizeOf_list_dec
   refine on _ _ fun j W' n' hn wt kt=>?_
   sizeOf_list_dec
   refine aA (ds:=[.int j]) (by show 1<=sizeLine;decide) ?_;refine⟨_,_,rfl,rfl,by show 5<=sizeLine;decide,?_⟩;exact q W' n' (.down b m c j) (by omega) wt kt trivial
  sizeOf_list_dec
  refine ar ?_
  sizeOf_list_dec
  refine dA (fun _=>?_) (fun _=>?_)
  ·sizeOf_list_dec
   refine⟨_,rfl,?_⟩
   sizeOf_list_dec
   refine on _ _ fun j W' n' hn wt kt=>?_
   sizeOf_list_dec
   refine aA (ds:=[.int j,.int v]) (by show 2<=sizeLine;decide) ?_;refine⟨_,_,rfl,rfl,by show 5<=sizeLine;decide,?_⟩;exact q W' n' (.down b m j v) (by omega) wt kt trivial
  sizeOf_list_dec
  refine ar ?_
  sizeOf_list_dec
  refine⟨_,rfl,?_⟩
  sizeOf_list_dec
  refine on _ _ fun j W' n' hn wt kt=>?_
  sizeOf_list_dec
  refine aA (ds:=[.int j]) (by show 1<=sizeLine;decide) ?_;refine⟨_,_,rfl,rfl,by show 3<=sizeLine;decide,?_⟩
  sizeOf_list_dec
  refine⟨_,rfl,?_⟩;refine⟨_,_,rfl,rfl,by show 5<=sizeLine;decide,?_⟩;exact q W' n' (.down b j c v) (by omega) wt kt trivial
 | fin b pl tl =>
  sizeOf_list_dec
  refine ar ?_;refine hU (fun k W'=>W1=W'/\k=false) (fun Q jn=>?_) ?_
  ·have jn:=jn _ W1 ⟨rfl,rfl⟩
   sizeOf_list_dec
   refine dA (fun _=>?_) (fun _=>?_)<;>sizeOf_list_dec<;>exact jn
  rintro k _ ⟨rfl,rfl⟩
  sizeOf_list_dec
  refine ar ?_;refine hU (fun k W'=>W1=W'/\k=false) (fun Q jn=>?_) ?_
  ·have jn:=jn _ W1 ⟨rfl,rfl⟩
   sizeOf_list_dec
   refine dA (fun _=>?_) (fun _=>?_)<;>sizeOf_list_dec<;>exact jn
  rintro k _ ⟨rfl,rfl⟩
  sizeOf_list_dec
  refine ar ?_
  sizeOf_list_dec
  refine dA (fun _=>?_) (fun _=>?_)
  ·sizeOf_list_dec
   refine⟨_,rfl,?_⟩
   sizeOf_list_dec
   refine on _ _ fun j W' n' hn wt kt=>?_
   sizeOf_list_dec
   refine aA (ds:=[.int j]) (by show 1<=sizeLine;decide) ?_;refine⟨_,_,rfl,rfl,by show 3<=sizeLine;decide,?_⟩
   sizeOf_list_dec
   refine⟨_,rfl,?_⟩;refine⟨_,_,rfl,rfl,by show 4<=sizeLine;decide,?_⟩;exact q W' n' (.fin b j tl) (by omega) wt kt he
  obtain⟨hp,ht⟩:=hf b pl tl rfl;obtain⟨pC,ki⟩:=dQ hk.iU hk.st.p0 hp;have qo:=kt.at_ o7 sI;have w1:=dZ qo
  sizeOf_list_dec
  refine bC pC ?_
  sizeOf_list_dec
  refine bK ⟨_,_,_,a,h,rfl,ki,qo,hk.st,fun W2 k2=>?_⟩
  sizeOf_list_dec
  refine cg (ds:=[cP tl,fk _]) (k2 _ _ wt) ⟨tl,_,rfl,he,fun c d=>c (by
   have ht:tl.jS=kS.jS (vH.told ((rowOf h.rows h.st.place).wrote h.st.aQ h.st.cells)):=ht;rw[d]at ht;cases tl with
   | none=>rfl
   | some y=>cases ht),by omega,fun t' n6 tg Oi=>cG ?_⟩
  sizeOf_list_dec
  refine aA (ds:=[.str "end",.int b,.int pl,cP t']) (by show 4<=sizeLine;decide) ?_;exact q _ n6 (.fin b pl t') (by omega) au (kt.ks k2).ws tg
end
abbrev Fo:Stmt:=top 58
theorem kh:aB ["bag", "mill", "rings", "terms", "now", "base", "at", "diary", "turn", "event", "cause"] ["bag", "mill", "rings", "terms", "now", "base"] (defScope Fo):=by ac_rfl
noncomputable def Km:sU:=fun as W R=>∃(t g:Addr) (n:Nat) (a:sY) (h:HM) (base:Int),as=[.pt t,.im (bO h.rows h.bQ),.im (.list (h.rings.map pairD)),.im (jx h),.pt a.p,.im (.int base)]/\W t=some (.aI g n)/\n<=900000000/\eC h/\u9 h 0/\1<=h.width/\h.cause=none/\h.events=0/\At W (cH a h)/\∀ W' es,(∀ e∈es,jT e)->es.length<=50->R (.im (.tuple [.list (es.map fm),uM (iH h es)])) W'
theorem Fp(e:W p=some (.lst (ds.map .im))):jV (n+1) W (.pt p)=some (.list ds,j6 W p):=by
 unfold jV;rw[e];show(gQ (jV n) (j6 W p) (ds.map .im)).map _=_;rw[fg (fun W d=>by cases n<;>rfl)];rfl
structure Sm(h h':HM):Prop where
 e:h'.rows=h.rows/\h'.bQ=h.bQ/\h'.rings=h.rings/\jx h'=jx h/\h'.width=h.width
theorem RV(h:HM)(e:Ev):Sm h (h.cB e):=by
 cases e with
 | fin b pl t=>refine⟨?_⟩;show(HM.iY _ b t).rows=_/\(HM.iY _ b t).bQ=_/\(HM.iY _ b t).rings=_/\jx (HM.iY _ b t)=_/\(HM.iY _ b t).width=_;unfold HM.iY HM.eV;dsimp only;split<;>(try split)<;>exact⟨rfl,rfl,rfl,rfl,rfl⟩
 | gL b n v=>exact⟨rfl,rfl,rfl,rfl,rfl⟩
 | down b n c v=>exact⟨rfl,rfl,rfl,rfl,rfl⟩
 | gx b k=>exact⟨rfl,rfl,rfl,rfl,rfl⟩
theorem Kn(h:At W L)(f:Fr p W W')(n:p ∉ L.map (·.1)):At W' L:=h.mono fun x hx e=>f.at (fun z=>n (aa8.mpr ⟨x,hx,z⟩)) e
section
variable {K:zn}
theorem IE(F:cM K "_law_tale" "_law_tale" Fo f fd)(ak:Dn P w K mg base 1 "_law_draw" f1 d1 ["bag", "many"] (spT (bg Bg) gu))(yc:Dn P w K mg base 4 "_law_some" f2 d2 ["bag", "mill", "rings", "terms", "now", "base"] (iW K (bg Bg) Kk))(sL:Dn P w K mg base 5 "_law_spoilt" f3 d3 ["bag", "mill", "terms", "now", "event"] (iW K (bg Bg) zH))(jz:Dn P w K mg base 3 "_law_cause" f4 d4 ["mill", "rings", "terms", "now", "event"] (iW K (bg Bg) x8))(iV:Dn P w K mg base 3 "_law_wild" f5 d5 ["bag", "now"] (iW K (bg Bg) Fn))(pD:Dn P w K mg base 3 "_law_take_up" f6 d6 ["mill", "rings", "now", "event"] (iW K (bg Bg) E9))(bP:mg "range"=none)(bj:mg "len"=none):ba P w K mg base cU 6 f fd ["bag", "mill", "rings", "terms", "now", "base"] (iW K (bg Bg) Km):=by
 exact_mod_cast F.Bv kh bN (fun aK W R zz=>by obtain⟨a,b,c,d,g,h,e,_⟩:=zz; rw[e];rfl);refine⟨_,(af (aF 6 kh.nd (ao (bo (aa (aq ak hr (aa (ah 0) (aa ae ag))) (aa (aq ak hr (aa (ah 0) (aa ae ag))) (aa ae ag)))) (aq ak hr (aa (ah 0) (aa ae ag)))))
  (af (aF 7 kh.nd (bo ag))
  (af (kD (fb bP (aa (aY bb ae (aq ak hr (aa (ah 0) (aa (ao (bo (bV rfl)) (aq ak hr (aa (ah 0) (aa ae ag)))) ag)))) ag)) (bf 8 kh.nd) (af (aF 9 kh.nd (aq yc hr (aa (ah 0) (aa (ah 1) (aa (ah 2) (aa (ah 3) (aa (ah 4) (aa (ah 5) ag))))))))
   (af (aO (ay i9 (ah 8) (ah 6)) (ai (aF 9 kh.nd (aq sL hr (aa (ah 0) (aa (ah 1) (aa (ah 3) (aa (ah 4) (aa (ah 9) ag)))))))) av)
   (af (aO (fV (ah 9)) (ai (ax (aX (aa (ah 7) (aa cS ag))))) av)
   (af (aF 10 kh.nd (aq jz hr (aa (ah 1) (aa (ah 2) (aa (ah 3) (aa (ah 4) (aa (ah 9) ag)))))))
   (af (dO (jN aaJ aaS aaT cY (ah 7) (aa (ah 9) ag)))
   (af (aO (fc (ah 10)) (ai (ax (aX (aa (aY Cs (ah 7) (bo (aa (aq iV hr (aa (ah 0) (aa (ah 4) ag))) (aa (aq iV hr (aa (ah 0) (aa (ah 4) ag))) ag)))) (aa (aX (aa (aY gy (bJ bq bj aaU (aa (ah 7) ag)) ae) (aa (ah 10) ag))) ag))))) av)
   (ai (dO (aq pD hr (aa (ah 1) (aa (ah 2) (aa (ah 4) (aa (ah 9) ag))))))))))))))
  (ai (ax (aX (aa (ah 7) (aa cS ag)))))))),?_⟩
 clear hu;symm;refine fun O W=>⟨_,inferInstance,?_⟩;rintro aK R ⟨t,g,n,a,h,base,rfl,wt,hn,hk,V2,hw,hc,hv,hA,q⟩;refine cj [_,_,_,_,_,_,none,none,none,none,none] rfl ?_;have o7:=hA;have sI:=wt
 sizeOf_list_dec
 refine aL wt (by omega) (by omega) (by omega) fun x1 W1 _ _ wt f1=>?_;have kt:=Kt.refl.fr f1
 sizeOf_list_dec
 refine aL wt (by omega) (by omega) (by omega) fun x2 W2 _ _ wt f2=>?_;replace kt:=kt.fr f2
 sizeOf_list_dec
 refine bT (ds:=[x1,x2,40].map PyData.int) (by show 3<=sizeLine;decide) ?_
 sizeOf_list_dec
 refine aL wt (by omega) (by omega) (by omega) fun x3 W3 x30 x31 wt f3=>?_;replace kt:=kt.fr f3;refine dn x30 (by simpa using x31) fun aw _=>?_;clear f1 f2 f3
 sizeOf_list_dec
 refine gH (aaK _) fun l W4 gl wl fl=>?_;have jU:=Kn (kt.at_ o7 sI) fl fun z=>by
  obtain⟨x,hx,e⟩:=aa8.mp z;have:=(kt.at_ o7 sI).at_ x hx;rw[e,gl]at this;cases this
 have nl:l ∉ (cH a h).map (·.1):=fun z=>by
  obtain⟨x,hx,e⟩:=aa8.mp z;have:=(kt.at_ o7 sI).at_ x hx;rw[e,gl]at this;cases this
 have lt:l≠t:=fun z=>by rw[z,wt]at gl;cases gl
 replace wt:=fl.at (acf lt) wt;clear fl gl kt hA o7 sI
 sizeOf_list_dec
 refine ar ?_
 sizeOf_list_dec
 refine bT (ds:=[12,40].map PyData.int) (by show 2<=sizeLine;decide) ?_
 sizeOf_list_dec
 refine aL wt (by omega) (by omega) (by omega) fun x5 W5 RQ RS wt f5=>?_;refine dn RQ (by simpa using RS) fun x6 Yv=>?_;have Yv:1<=x6/\x6<=40:=by simp at Yv;omega
 sizeOf_list_dec
 refine aL wt (by omega) (by omega) (by omega) fun m W6 m0 m1 wt f6=>?_;have vg:=Kt.at_ ((Kt.refl.fr f5).fr f6) jU (by assumption);have V3:=f6.at lt (f5.at lt wl);clear f5 f6 jU wl
 sizeOf_list_dec
 refine kL (fun i ρ W'=>∃(h1:HM) (a1:sY) (es:List Ev) (k:Nat) (u1 u2 u3:Option DV),ρ=[some (.pt t),some (.im (bO h1.rows h1.bQ)),some (.im (.list (h1.rings.map pairD))),some (.im (jx h1)),some (.pt a1.p),some (.im (.int base)),some (.im (.int aw)),some (.pt l),u1,u2,u3]/\es.length=i/\(∀ e∈es,jT e)/\W' l=some (.lst ((es.map fm).map .im))/\W' t=some (.aI g k)/\k<=n+6+6100 * i/\At W' (cH a1 h1)/\l ∉ (cH a1 h1).map (·.1)/\kY h es=some h1/\h1.events=(es.length:Int)/\u9 h1 i/\eC h1/\1<=h1.width) ⟨h,a,[],_,_,_,_,rfl,rfl,(fun e he=>by cases he),V3,wt,by omega,vg,nl,rfl,hv,V2,hk,hw⟩ ?_ ?_
 ·clear vg V3 wt nl hk hw V2;rintro i ρ W1 hi ⟨h1,a1,es,k,u1,u2,u3,rfl,DD,vx,wl,wt,hkk,hA,nl,RW,V4,RA,hk,hw⟩;have aah:i < 40:=by omega
  rw[Int.zero_add]
  sizeOf_list_dec
  refine bK ⟨t,g,k,a1,h1,base,rfl,wt,by omega,hk,hw,hA,fun W2 k2 o Nh vI V5 ho=>?_⟩;have fw:=V5.at_ hA wt;have Yw:=V5 _ _ wl lt;clear V5
  sizeOf_list_dec
  refine gh (fun ρ W'=>∃(o:Option Ev) (k3:Nat),(∀ e,o=some e->jT e)/\W' t=some (.aI g k3)/\k3<=k+6010/\Kt t W2 W'/\ρ=[some (.pt t),some (.im (bO h1.rows h1.bQ)),some (.im (.list (h1.rings.map pairD))),some (.im (jx h1)),some (.pt a1.p),some (.im (.int base)),some (.im (.int aw)),some (.pt l),some (.im (.int i)),some (.im (iI o)),u3]) (fun kk jn=>?_) ?_
  ·sizeOf_list_dec
   refine dA (fun _=>?_) (fun _=>?_)
   ·sizeOf_list_dec
    refine bK ⟨t,g,k2,a1,h1,o,rfl,vI,by omega,hk,ho,fw,fun W3 k3 e hk3 Tg RX he=>?_⟩
    sizeOf_list_dec
    exact jn _ _ ⟨some e,k3,(fun _ z=>by cases z;exact he),Tg,by omega,RX,rfl⟩
   ·exact jn _ _ ⟨o,k2,(fun e z=>(ho e z).1),vI,by omega,Kt.refl,rfl⟩
  clear ho;rintro ρ W3 ⟨o,k3,ho,Tg,hk3,RX,rfl⟩;have iJ:=RX.at_ fw vI;have V6:=RX _ _ Yw lt;clear RX vI fw Yw wl wt hA;refine ar ?_;cases o with
  | none =>
   dsimp only[iI]
   sizeOf_list_dec
   refine Dj (ds:=[.list (es.map fm),.none]) (W2:=j6 W3 l) (by show 2<=sizeLine;decide) (by unfold gQ;rw[Fp V6];rfl) ?_;have:=(jM (r:=[]) hc RW).1;rw[ab0]at this;have q1:=q (j6 W3 l) es vx (by omega);rw[this]at q1;exact q1
  | some e =>
   have he:=ho e rfl;have i4:isNone (.im (iI (some e)))=false:=by cases e<;>rfl
   sizeOf_list_dec
   rw[i4];dsimp only[iI]
   sizeOf_list_dec
   refine bK ⟨a1,h1,e,rfl,hk,hw,he,iJ,fun W4 k4=>?_⟩;have jU:=k4.at_ iJ;have V0:=k4 _ _ V6;have Yx:=k4 _ _ Tg;clear k4 iJ V6 Tg
   sizeOf_list_dec
   refine dD V0 (by rw[aak,aak];exact dR (by omega)) fun W5 w5 f5=>?_;have lX:=Kn jU f5 nl;have Th:=f5.at (acf lt) Yx;replace w5:W5 l=some (.lst (((es++[e]).map fm).map .im)):=by rw[w5];simp
   clear f5 Yx jU V0
   sizeOf_list_dec
   refine ar ?_;cases hb:h1.bB e with
   | some x =>
    sizeOf_list_dec
    refine bK ⟨t,g,k3,a1,h1,rfl,Th,by omega,lX,fun W6 n6 e1 Oi wt6 Yy he1=>?_⟩
    sizeOf_list_dec
    refine bK ⟨t,g,n6,a1,h1,rfl,wt6,by omega,Yy.at_ lX Th,fun W7 n7 e2 hn7 wt7 kt7 he2=>?_⟩;have w7:=kt7 _ _ (Yy _ _ w5 lt) lt
    sizeOf_list_dec
    refine bT (ds:=[fm e1,fm e2]) (by show 2<=sizeLine;decide) ?_;refine JO (kJ w7) (by rfl) (by simp;exact aaH (dR (by omega))) ?_;rw[<- ab3];refine dB ?_
    sizeOf_list_dec
    refine aA (ds:=[.int _,.str x]) (by show 2<=sizeLine;decide) ?_
    sizeOf_list_dec
    refine aA (ds:=[.list _,.tuple [.int _,.str x]]) (by show 2<=sizeLine;decide) ?_;have q1:=q W7 (es++e::[e1,e2]) (fun z hz=>?_) (by simp;omega)
    ·rw[(jM hc RW).1,vd hb,V4]at q1;rw[show(((((es++[e]).map fm).map DV.im).length:Nat):Int) - 1=(es.length:Int) by simp,show(es++[e]).map fm++[fm e1,fm e2]=(es++e::[e1,e2]).map fm by simp];exact q1
    ·rcases abo.mp hz with c | c
     ·exact vx z c
     ·simp at c;rcases c with rfl | rfl | rfl
      ·exact he
      ·exact he1
      ·exact he2
   | none =>
    sizeOf_list_dec
    refine bK ⟨a1,h1,e,rfl,hk,he,hb,lX,fun W6 a6 ep vg ko nw=>?_⟩;obtain⟨Td,hl6,_,hv6⟩:=Kb hk hb RA (by omega);obtain⟨⟨s1,s2,s3,s4,s5⟩⟩:=RV h1 e
    sizeOf_list_dec
    refine⟨h1.cB e,a6,es++[e],k3,_,_,_,by rw[s1,s2,s3,s4,ep];rfl,by simp[DD],fun z hz=>?_,ko _ _ w5 nl,ko _ _ Th (fun z=>?_),by omega,vg,fun z=>?_,qu RW hb,by rw[hv6,V4];simp,hl6,Td,by rw[s5];exact hw⟩
    ·rcases abo.mp hz with c | c
     ·exact vx z c
     ·rw[abd.mp c];exact he
    ·obtain⟨x,hx,e'⟩:=aa8.mp z;exact Ff lX Th x hx e'
    ·rcases nw _ z with c | c
     ·exact nl c
     ·rw[w5]at c;cases c
 ·clear vg V3 wt nl hk hw V2;rintro ρ W1 ⟨h1,a1,es,k,u1,u2,u3,rfl,DD,vx,wl,wt,hkk,hA,nl,RW,V4,RA,hk,hw⟩
  sizeOf_list_dec
  refine Dj (ds:=[.list (es.map fm),.none]) (W2:=j6 W1 l) (by show 2<=sizeLine;decide) (by unfold gQ;rw[Fp wl];rfl) ?_;have:=(jM (r:=[]) hc RW).1;rw[ab0]at this;have q1:=q (j6 W1 l) es vx (by omega);rw[this]at q1;exact q1
end
abbrev yd:Stmt:=top 43
abbrev sTerms:Stmt:=top 44
theorem ny:aB ["bag", "mill", "base", "rings", "turn", "at"] ["bag", "mill", "base"] (defScope yd):=by ac_rfl
theorem sM:aB ["bag", "small", "k"] ["bag"] (defScope sTerms):=by ac_rfl
def Fq:sT:=fun n ds R=>∃(rs:List Rw) (bs:wn) (base:Int),ds=[bO rs bs,.int base]/\bs.length<=4/\n<=990000000/\∀(ps:ut) (n':Nat),ps.length<=60->(∀ p∈ps,0<=p.2/\p.2 < bs.length)->n'<=n+1000->R (.nw (ps.map pairD)) n'
def zI:sT:=fun n ds R=>ds=[]/\n<=990000000/\∀(a b c d e:Int) (n':Nat),1<=a->n'<=n+100->R (.im (.tuple [.int a,.int b,.int c,.int d,.int e])) n'
section
variable {K:zn}
theorem Fs{fF:Addr}{V7:wT}(F:cM K "_law_rings" "_law_rings" yd f fd)(ak:Dn P w K mg base 1 "_law_draw" fD NB ["bag", "many"] (spT (bg Bg) gu))(c9:Dn P w K mg base 2 "_law_far" fF V7 ["bag"] (spT (bg Bg) xp))(bP:mg "range"=none)(bj:mg "len"=none):ba P w K mg base cU 3 f fd ["bag", "mill", "base"] (spT (bg Bg) Fq):=by
 exact_mod_cast F.Ha ny bN rfl (by nofun);refine⟨_,(af (aF 3 ny.nd (bo ag))
  (af (aO (ay (bD hu) (ao (ah 1) ae) (aX ag)) (ai (kD (fb bP (aa (aq ak hr (aa (ah 0) (aa (ao (bo (bV rfl)) (aq ak hr (aa (ah 0) (aa ae ag)))) ag))) ag)) (bf 4 ny.nd) (af (aF 5 ny.nd (bo (aa (aY bb (ah 2) (aq ak hr (aa (ah 0) (aa ae ag)))) (aa (aq ak hr (aa (ah 0) (aa ae ag))) (aa (aY bb (aY bb (ah 2) ae) (aq c9 hr (aa (ah 0) ag))) ag)))))
    (ai (dO (jN aaJ aaS aaT cY (ah 3) (aa (aX (aa (ao (ah 5) (ao (bo (bV rfl)) (aq ak hr (aa (ah 0) (aa ae ag))))) (aa (aq ak hr (aa (ah 0) (aa (bJ bq bj aaU (aa (ao (ah 1) ae) ag)) ag))) ag))) ag))))))) av)
  (ai (ax (ah 3))))),?_⟩
 clear hu;symm;refine fun t g O=>⟨_,inferInstance,?_⟩;rintro n ds R ⟨rs,bs,bt,rfl,b4,hn,q⟩;refine cj [_,_,_,none,none,none] rfl ?_;have wt:WT t g n t=some (.aI g n):=au;generalize WT t g n=W at wt
 sizeOf_list_dec
 refine gH (aaK _) fun p W1 hp wp fp=>?_;replace wt:=fp.at (Dg wt hp) wt;have Bx:p≠t:=fun z=>by rw[z,wt]at wp;cases wp
 clear hp fp
 sizeOf_list_dec
 refine ar ?_
 sizeOf_list_dec
 refine aA (ds:=[]) (aaK _) ?_;refine JL dE dE (.inr ⟨dN _,rfl,aaq (acI ..) (by decide)⟩) ?_;rw[show PyData.eqv (.tuple (bs.map .int)) (.tuple [])=decide (bs=[]) by cases bs<;>rfl]
 sizeOf_list_dec
 refine og (fun i4=>?_) (fun _=>?_)
 ·have b1:=acT.mpr i4
  sizeOf_list_dec
  refine bT (ds:=[9,9,9,61].map PyData.int) (by show 4<=sizeLine;decide) ?_
  sizeOf_list_dec
  refine aL wt (by omega) (by omega) (by omega) fun c W2 c0 c1 vI f2=>?_;replace wp:=f2.at Bx wp;refine dn c0 (by simpa using c1) fun v hv=>?_;have hv:v=9\/v=61:=by simp at hv;omega
  sizeOf_list_dec
  refine aL vI (by omega) (by omega) (by omega) fun m W3 m0 m1 wt f3=>?_;replace wp:=f3.at Bx wp;clear f2 f3 vI
  sizeOf_list_dec
  refine kL (fun i ρ W=>∃(ps:ut) (u4 u5:Option DV) (k:Nat),ρ=[some (.pt t),some (.im (bO rs bs)),some (.im (.int bt)),some (.pt p),u4,u5]/\ps.length<=i/\(∀ p∈ps,0<=p.2/\p.2 < (bs.length:Int))/\W p=some (.lst ((ps.map pairD).map .im))/\W t=some (.aI g k)/\k<=n+2+11 * i) ⟨[],_,_,_,rfl,aao _,(fun p hp=>by cases hp),wp,wt,by omega⟩ ?_ ?_
  ·clear wp wt;rintro i ρ W hi ⟨ps,u4,u5,k,rfl,hl,hb,wp,wt,hk⟩;have aai:i < 60:=by omega
   sizeOf_list_dec
   refine aL wt (by omega) (by omega) (by omega) fun x1 W6 _ _ wt f6=>?_;replace wp:=f6.at Bx wp
   sizeOf_list_dec
   refine aL wt (by omega) (by omega) (by omega) fun x2 W7 _ _ wt f7=>?_;replace wp:=f7.at Bx wp
   sizeOf_list_dec
   refine cg (ds:=[]) wt ⟨rfl,by omega,fun x3 n3 _ hn3=>?_⟩;replace wp:=(show aH W7 t (.aI g n3) p=_ from (aE Bx).trans wp);have vI:aH W7 t (.aI g n3) t=some (.aI g n3):=au;refine cG ?_
   sizeOf_list_dec
   generalize aH W7 t (.aI g n3)=W8 at wp vI ⊢;refine bT (ds:=[bt+x1,x2,bt+30+x3].map PyData.int) (by show 3<=sizeLine;decide) ?_
   sizeOf_list_dec
   refine bT (ds:=[0,0,0,1,2].map PyData.int) (by show 5<=sizeLine;decide) ?_
   sizeOf_list_dec
   refine aL vI (by omega) (by omega) (by omega) fun kc W4 a0 a1 wt f4=>?_;replace wp:=f4.at Bx wp;refine dn a0 (by simpa using a1) fun kd FR=>?_;have FR:0<=kd/\kd < 3:=by simp at FR;omega
   sizeOf_list_dec
   refine dn FR.1 FR.2 fun z _=>?_
   sizeOf_list_dec
   rw[aak];refine aL wt (by omega) (by omega) (by omega) fun kb W5 e0 e1 wt f5=>?_;replace wp:=f5.at Bx wp
   sizeOf_list_dec
   refine aA (ds:=[.int z,.int kb]) (by show 2<=sizeLine;decide) ?_
   sizeOf_list_dec
   refine dD wp (by rw[aak,aak];exact cm (by omega)) fun W9 w9 f9=>?_;refine⟨ps++[(z,kb)],_,_,_,rfl,by rw[aaQ];simp;omega,fun x hx=>?_,by rw[w9];simp[pairD],f9.at Bx.symm wt,by omega⟩;rcases abo.mp hx with h | h
   ·exact hb x h
   ·rw[abd.mp h];exact⟨e0,by omega⟩
  ·clear wp wt;rintro ρ W ⟨ps,u4,u5,k,rfl,hl,hb,wp,wt,hk⟩
   sizeOf_list_dec
   exact⟨_,wt,oo wp (q ps k (by omega) hb (by omega))⟩
 ·sizeOf_list_dec
  exact⟨_,wt,oo (ds:=[]) wp (q [] n (aaK _) (fun p hp=>by cases hp) (by omega))⟩
theorem Ft{fF:Addr}{V7:wT}(F:cM K "_law_terms" "_law_terms" sTerms f fd)(ak:Dn P w K mg base 1 "_law_draw" fD NB ["bag", "many"] (spT (bg Bg) gu))(c9:Dn P w K mg base 2 "_law_far" fF V7 ["bag"] (spT (bg Bg) xp))(bP:mg "range"=none)(dF:mg "tuple"=none):ba P w K mg base cU 3 f fd ["bag"] (spT (bg Bg) zI):=by
 exact_mod_cast F.Ha sM bN rfl (by nofun);refine⟨_,(af (aF 1 sM.nd (bo (aa (aY bb ae (aq ak hr (aa (ah 0) (aa ae ag)))) (aa (aq ak hr (aa (ah 0) (aa ae ag))) (aa (aY bb ae (aq ak hr (aa (ah 0) (aa ae ag)))) (aa (aq ak hr (aa (ah 0) (aa ae ag))) (aa (aq ak hr (aa (ah 0) (aa ae ag))) ag)))))))
  (af (kD (fb bP (aa ae ag)) (bf 2 sM.nd) (ai (aO (ay (aG hu) (aq ak hr (aa (ah 0) (aa ae ag))) ae) (ai (tX (aY bb ae (aq c9 hr (aa (ah 0) ag))) (yH (ah 1) (ah 2) set_list))) av)))
  (ai (ax (cE iD dF abu (aa (ah 1) ag)))))),?_⟩
 clear hu;symm;refine fun t g O=>⟨_,inferInstance,?_⟩;rintro n ds R ⟨rfl,hn,q⟩;refine cj [_,none,none] rfl ?_;have wt:WT t g n t=some (.aI g n):=au;generalize WT t g n=W at wt
 sizeOf_list_dec
 refine aL wt (by omega) (by omega) (by omega) fun y1 W1 _ _ wt _=>?_
 sizeOf_list_dec
 refine aL wt (by omega) (by omega) (by omega) fun y2 W2 _ _ wt _=>?_
 sizeOf_list_dec
 refine aL wt (by omega) (by omega) (by omega) fun y3 W3 _ _ wt _=>?_
 sizeOf_list_dec
 refine aL wt (by omega) (by omega) (by omega) fun y4 W4 _ _ wt _=>?_
 sizeOf_list_dec
 refine aL wt (by omega) (by omega) (by omega) fun y5 W5 _ _ wt _=>?_
 sizeOf_list_dec
 refine gH (by show 5<=sizeLine;decide) fun p W6 hp wp fp=>?_;replace wt:=fp.at (Dg wt hp) wt;have Bx:p≠t:=fun z=>by rw[z,wt]at wp;cases wp
 clear hp fp
 sizeOf_list_dec
 refine ar ?_
 sizeOf_list_dec
 refine kL (fun i ρ W=>∃(xs:wn) (u2:Option DV) (k:Nat),ρ=[some (.pt t),some (.pt p),u2]/\xs.length=5/\1<=xs.headD 1/\W p=some (.lst ((xs.map PyData.int).map .im))/\W t=some (.aI g k)/\k<=n+5+8 * i) ⟨[1+y1,y2,1+y3,y4,y5],_,_,rfl,rfl,by show 1<=1+y1;omega,wp,wt,by omega⟩ ?_ ?_
 ·clear wp wt;rintro i ρ W hi ⟨xs,u2,k,rfl,hl,h1,wp,wt,hk⟩;have hi5:i < 5:=hi;rw[Int.zero_add]
  sizeOf_list_dec
  refine aL wt (by omega) (by omega) (by omega) fun z W7 _ _ wt f7=>?_;replace wp:=f7.at Bx wp
  sizeOf_list_dec
  refine dA (fun _=>?_) (fun _=>?_)
  ·sizeOf_list_dec
   refine cg (ds:=[]) wt ⟨rfl,by omega,fun Bw n3 f0 hn3=>?_⟩;replace wp:=(show aH W7 t (.aI g n3) p=_ from (aE Bx).trans wp);have vI:aH W7 t (.aI g n3) t=some (.aI g n3):=au;refine cG ?_
   sizeOf_list_dec
   refine xX wp (by omega) (by omega) fun W8 w8 f8=>?_;refine⟨xs.set i (1+Bw),_,_,rfl,by simp[hl],?_,w8,f8.at (acf Bx) vI,by omega⟩
   match xs,hl with
   | x::r,_=>cases i with
    | zero=>show 1<=1+Bw;omega
    | succ i=>exact h1
  ·exact⟨xs,_,_,rfl,hl,h1,wp,wt,by omega⟩
 ·clear wp wt;rintro ρ W ⟨xs,u2,k,rfl,hl,h1,wp,wt,hk⟩
  sizeOf_list_dec
  match xs,hl with
  | [x1,x2,x3,x4,x5],_ =>
   refine⟨_,rfl,.inl ⟨_,[x1,x2,x3,x4,x5].map .int,W,kJ wp,fg (fun _ _=>rfl) _,?_⟩⟩;exact⟨_,wt,q x1 x2 x3 x4 x5 k h1 (by have:(5:Int).toNat=5:=rfl;omega)⟩
end
def vK(K:zn)(C:Addr)(x q:Str)(st:Stmt):Prop:=∃ f fd,cM K x q st f fd/\Meth K C x f
theorem gM{K:zn}{x q:Str}{st:Stmt}{oc:Value}{od an:wS}{vX:Array wP}{kV doc pm bz ct:Value}(a:autoParam (PySem.W.findIn K (.ref C) x=some (some (.ref f))) ra6)(l:autoParam (K.lookup f=some ⟨oc,od,.func (PySem.W.fnOf x q (defArgs st) (defBody st) (defScope st) .none kV doc pm an bz ct),vX⟩) ra6)(c:autoParam (PySem.W.codeIn K bz q=true) ra6)(k:autoParam (PySem.W.keepIn K (.ref f)=true) ra6)(n:PySem.W.isFn K (.ref f)=true:=by first | k_is | kernel_rfl):vK K C x q st:=⟨_,_,ly l c k,a,n,k⟩
def Yz(K:zn)(C:Addr)(q:Str)(st:Stmt):Prop:=∃ f fd,cM K "__init__" q st f fd/\Mk K C f
theorem Oj{K:zn}{q:Str}{st:Stmt}{oc:Value}{od an:wS}{vX:Array wP}{kV doc pm bz ct:Value}(m:PySem.W.makesIn K C=true)(a:PySem.W.findIn K (.ref C) "__init__"=some (some (.ref f)))(l:K.lookup f=some ⟨oc,od,.func (PySem.W.fnOf "__init__" q (defArgs st) (defBody st) (defScope st) .none kV doc pm an bz ct),vX⟩)(c:PySem.W.codeIn K bz q=true)(k:PySem.W.keepIn K (.ref f)=true)(n:PySem.W.isFn K (.ref f)=true)(kc:PySem.W.keepIn K (.ref C)=true):Yz K C q st:=⟨_,_,ly l c k,m,a,n,kc⟩
def Fu(K:zn)(C:Addr):wv->Prop
 | []=>True
 | f::r=>cI K C f/\Fu K C r
theorem Fu.mem{K:zn}{C:Addr}:∀{ns:wv},Fu K C ns->∀ f∈ns,cI K C f
 | _::_,h,f,hf=>by
  rcases aan.mp hf with z | z
  ·rw[z];exact h.1
  ·exact Fu.mem h.2 f z
theorem IF{K:zn}{ns:wv}(pg:PySem.W.plainGet K C Str.empty=true)(hd:PySem.W.hasDictIn K C=true)(po:PySem.W.plainOver K C=true)(sa:PySem.W.findIn K (.ref C) "__setattr__"=some (some (.builtin "object.__setattr__")))(na:Fu K C ns):gk K C ns:=⟨⟨pg,hd,po,sa⟩,fun f hf=>na.mem f hf⟩
structure sN(K:zn)(C:Addr):Prop where
 cls:gk K C bL
 S8:Yz K C "Holder.__init__" xS
 m1:vK K C "tell" "Holder.tell" ER
 m2:vK K C "first_broken" "Holder.first_broken" sA
 m3:vK K C "broken_by_end" "Holder.broken_by_end" xN
 m4:vK K C "broken_by_wrote" "Holder.broken_by_wrote" oR
 m5:vK K C "broken_by_late" "Holder.broken_by_late" sq
 m6:vK K C "broken_by_down" "Holder.broken_by_down" sr
 m7:vK K C "broken_by_bell" "Holder.broken_by_bell" su
 m8:vK K C "row_now" "Holder.row_now" ED
 m9:vK K C "waiting_by" "Holder.waiting_by" se
 V8:vK K C "is_pressed" "Holder.is_pressed" oO
 V9:vK K C "ends_at" "Holder.ends_at" sf
 Wb:vK K C "take_up" "Holder.take_up" sE
 Wc:vK K C "take_end" "Holder.take_end" oV
 We:vK K C "take_bell" "Holder.take_bell" lV
 Wf:vK K C "parted" "Holder.parted" sg
section
variable {K:zn}
theorem Mr{us:List α}(h:us.length=1):∃ a,us=[a]:=match us,h with | [a],_=>⟨a,rfl⟩
theorem vE{us:List α}(h:us.length=2):∃ a b,us=[a,b]:=match us,h with | [a,b],_=>⟨a,b,rfl⟩
theorem YA{us:List α}(h:us.length=3):∃ a b c,us=[a,b,c]:=match us,h with | [a,b,c],_=>⟨a,b,c,rfl⟩
theorem us5{us:List α}(h:us.length=5):∃ a b c d e,us=[a,b,c,d,e]:=match us,h with | [a,b,c,d,e],_=>⟨a,b,c,d,e,rfl⟩
theorem IG{aN g1 g2 g3 g4 g5 g6 g7 g8:Addr}{e1 e2 e3 e4 e5 e6 e7 e8:wT}(F:cM K "parting" "parting" kX f fd)(h:sN K kH)(o4:mg "Holder"=some (.ref kH))(Kq:Dn P w K mg base 4 "step" g1 e1 ["mill", "state"] (j9 (eZ (SStep aR))))(RY:Dn P w K mg base 2 "bell" g2 e2 ["mill", "state", "k"] (j9 (eZ (Eg aN aS))))(Ol:Dn P w K mg base 1 "thing_of" g3 e3 ["wrote"] (eZ xF))(RZ:Dn P w K mg base 1 "is_slow" g4 e4 ["row"] (eZ Er))(R0:Dn P w K mg base 2 "bells_waiting" g5 e5 ["rings", "taken", "beat"] (eZ Ep))(Om:Dn P w K mg base 1 "rests" g6 e6 ["mill", "state"] (eZ rW))(Oo:Dn P w K mg base 1 "spots_read" g7 e7 ["row"] (eZ xC))(R3:Dn P w K mg base 1 "spot_written" g8 e8 ["row"] (eZ zw))(bj:mg "len"=none)(mr:mg "any"=none)(eQ:mg "list"=none):ba P w K mg base cU 9 f fd ["mill", "state", "rings", "terms", "diary"] (eZ oW):=by
 obtain⟨f1,d1,F1,M1⟩:=h.m1;obtain⟨f2,d2,F2,M2⟩:=h.m2;obtain⟨f3,d3,F3,M3⟩:=h.m3;obtain⟨f4,d4,F4,M4⟩:=h.m4;obtain⟨f5,d5,F5,M5⟩:=h.m5;obtain⟨f6,d6,F6,M6⟩:=h.m6;obtain⟨f7,d7,F7,M7⟩:=h.m7;obtain⟨f8,d8,F8,M8⟩:=h.m8;obtain⟨f9,d9,F9,M9⟩:=h.m9;obtain⟨OJ,Wh,Ti,M10⟩:=h.V8;obtain⟨RT,Wi,Tj,M11⟩:=h.V9;obtain⟨RU,Wj,Tn,M12⟩:=h.Wb;obtain⟨Wk,Wl,To,M13⟩:=h.Wc;obtain⟨Wm,Wn,Tq,M14⟩:=h.We;obtain⟨Wo,Wq,Tr,M15⟩:=h.Wf;obtain⟨f0,d0,F0,M0⟩:=h.S8;have c:=h.cls.c;have cN:=h.cls;have N8:jm P w K mg base 1 kH "row_now" f8 d8 ["self"] (fv K (EC kH)):=⟨c,M8,HX F8 cN,F8.binds fun _ _ _ _ _ _ us hl=>by obtain⟨_,rfl⟩:=Mr hl;rfl⟩;have N9:jm P w K mg base 3 kH "waiting_by" f9 d9 ["self", "beat"] (fv K (nr kH)):=⟨c,M9,A6 F9 cN R0,F9.binds fun _ _ _ _ _ _ us hl=>by obtain⟨_,_,rfl⟩:=vE hl;rfl⟩;have YB:jm P w K mg base 4 kH "is_pressed" OJ Wh ["self", "beat"] (fv K (kW kH)):=⟨c,M10,xJ Ti cN N9 bj,Ti.binds fun _ _ _ _ _ _ us hl=>by obtain⟨_,_,rfl⟩:=vE hl;rfl⟩;have YC:jm P w K mg base 1 kH "ends_at" RT Wi ["self", "beat"] (fv K (nu kH)):=⟨c,M11,A7 Tj cN,Tj.binds fun _ _ _ _ _ _ us hl=>by obtain⟨_,_,rfl⟩:=vE hl;rfl⟩;have N15:jm P w K mg base 1 kH "parted" Wo Wq ["self"] (fv K (sd kH)):=⟨c,M15,A8 Tr cN,Tr.binds fun _ _ _ _ _ _ us hl=>by obtain⟨_,rfl⟩:=Mr hl;rfl⟩;have N4:jm P w K mg base 5 kH "broken_by_wrote" f4 d4 ["self", "row", "wrote"] (fv K (oQ kH)):=⟨c,M4,xK F4 cN Kq Ol RZ bj,F4.binds fun _ _ _ _ _ _ us hl=>by obtain⟨_,_,_,rfl⟩:=YA hl;rfl⟩;have N5:jm P w K mg base 1 kH "broken_by_late" f5 d5 ["self", "event"] (fv K (si kH)):=⟨c,M5,A9 F5 cN bj,F5.binds fun _ _ _ _ _ _ us hl=>by obtain⟨_,_,rfl⟩:=vE hl;rfl⟩;have N6:jm P w K mg base 1 kH "broken_by_down" f6 d6 ["self", "event"] (fv K (sj kH)):=⟨c,M6,Ba F6 cN bj,F6.binds fun _ _ _ _ _ _ us hl=>by obtain⟨_,_,rfl⟩:=vE hl;rfl⟩;have N7:jm P w K mg base 4 kH "broken_by_bell" f7 d7 ["self", "event"] (fv K (sk kH)):=⟨c,M7,Bb F7 cN N9,F7.binds fun _ _ _ _ _ _ us hl=>by obtain⟨_,_,rfl⟩:=vE hl;rfl⟩;have N3:jm P w K mg base 6 kH "broken_by_end" f3 d3 ["self", "event"] (fv K (xM kH)):=⟨c,M3,EK F3 cN Om YC YB N8 Oo R3 N4 mr,F3.binds fun _ _ _ _ _ _ us hl=>by obtain⟨_,_,rfl⟩:=vE hl;rfl⟩;have N2:jm P w K mg base 7 kH "first_broken" f2 d2 ["self", "event"] (fv K (sy kH)):=⟨c,M2,Bc F2 cN N3 N5 N6 N7 mr,F2.binds fun _ _ _ _ _ _ us hl=>by obtain⟨_,_,rfl⟩:=vE hl;rfl⟩;have N13:jm P w K mg base 5 kH "take_end" Wk Wl ["self", "beat", "wrote"] (fv K (oU kH)):=⟨c,M13,xP To cN YB Kq,To.binds fun _ _ _ _ _ _ us hl=>by obtain⟨_,_,_,rfl⟩:=YA hl;rfl⟩;have N14:jm P w K mg base 3 kH "take_bell" Wm Wn ["self", "k"] (fv K (lU kH)):=⟨c,M14,u0 Tq cN RY,Tq.binds fun _ _ _ _ _ _ us hl=>by obtain⟨_,_,rfl⟩:=vE hl;rfl⟩;have N12:jm P w K mg base 6 kH "take_up" RU Wj ["self", "event"] (fv K (sD kH)):=⟨c,M12,Bd Tn cN YC N13 N14,Tn.binds fun _ _ _ _ _ _ us hl=>by obtain⟨_,_,rfl⟩:=vE hl;rfl⟩;have N1:jm P w K mg base 8 kH "tell" f1 d1 ["self", "event"] (fv K (EN kH)):=⟨c,M1,Ic F1 cN N2 N12,F1.binds fun _ _ _ _ _ _ us hl=>by obtain⟨_,_,rfl⟩:=vE hl;rfl⟩;have C0:Vk P w K mg base 1 kH "Holder" f0 d0 ["self", "mill", "state", "rings", "terms"] (fv K (xR kH)):=⟨M0,EU F0 cN eQ,F0.binds fun _ _ _ _ _ _ us hl=>by obtain⟨_,_,_,_,_,rfl⟩:=us5 hl;rfl,o4⟩;exact xT F cN C0 N1 N15
end
abbrev sO:Stmt:=top 60
theorem iZ:aB ["script", "bag", "mill", "state", "base", "rings", "terms", "diary", "due", "told", "handed", "found"] ["script"] (defScope sO):=by ac_rfl
section
variable {K:zn}
theorem Oq{f7 f8 f9 g1:Addr}{d7 d8 d9 e1:wT}(F:cM K "law" "law" sO f fd)(Bo:Dn P w K mg base 1 "_law_bag" f1 d1 ["script"] (Hd K (bg Bg)))(ak:Dn P w K mg base 1 "_law_draw" f2 d2 ["bag", "many"] (spT (bg Bg) gu))(c9:Dn P w K mg base 2 "_law_far" f3 d3 ["bag"] (spT (bg Bg) xp))(ye:Dn P w K mg base 4 "_law_mill" f4 d4 ["bag"] (spT (bg Bg) Kd))(vh:Dn P w K mg base 3 "_law_state" f5 d5 ["bag", "mill"] (spT (bg Bg) EW))(vi:Dn P w K mg base 3 "_law_rings" f6 d6 ["bag", "mill", "base"] (spT (bg Bg) Fq))(vj:Dn P w K mg base 3 "_law_terms" f7 d7 ["bag"] (spT (bg Bg) zI))(vk:Dn P w K mg base 1 "_law_begin" f8 d8 ["state"] (iW K (bg Bg) E1))(yf:Dn P w K mg base 6 "_law_tale" f9 d9 ["bag", "mill", "rings", "terms", "now", "base"] (iW K (bg Bg) Km))(Fv:Dn P w K mg base 9 "parting" g1 e1 ["mill", "state", "rings", "terms", "diary"] (eZ oW)){g2:Addr}{e2:wT}(vm:Dn P w K mg base 1 "_law_right" g2 e2 ["found", "due"] (eZ DM))(eQ:mg "list"=none):ba P w K mg base cU 10 f fd ["script"] (zo K):=by
 exact_mod_cast F.QH iZ (bN (Iv:=Bg));refine⟨_,(af (aF 1 iZ.nd (aq Bo hr (aa (ah 0) ag)))
  (af (aF 2 iZ.nd (aq ye hr (aa (ah 1) ag)))
  (af (aF 3 iZ.nd (aq vh hr (aa (ah 1) (aa (ah 2) ag))))
  (af (aF 4 iZ.nd (ao (bo (aa ae (aa ae (aa (aq ak hr (aa (ah 1) (aa ae ag))) (aa (aq c9 hr (aa (ah 1) ag)) ag))))) (aq ak hr (aa (ah 1) (aa ae ag)))))
  (af (aF 5 iZ.nd (aq vi hr (aa (ah 1) (aa (ah 2) (aa (ah 4) ag)))))
  (af (aF 6 iZ.nd (aq vj hr (aa (ah 1) ag)))
  (af (tX (aq yf hr (aa (ah 1) (aa (ah 2) (aa (ah 5) (aa (ah 6) (aa (aq vk hr (aa (ah 3) ag)) (aa (ah 4) ag))))))) (jl (n:=2) (bU (bf 7 iZ.nd) (bU (bf 8 iZ.nd) jd))))
  (af (aF 9 iZ.nd (cE fE eQ aby (aa (ah 7) ag)))
  (af (aF 10 iZ.nd (cE fE eQ aby (aa (ah 5) ag)))
  (af (aF 11 iZ.nd (aq Fv hr (aa (ah 2) (aa (ah 3) (aa (ah 10) (aa (ah 6) (aa (ah 9) ag)))))))
  (ai (ax (tZ (aq vm hr (aa (ah 11) (aa (ah 8) ag))) (tZ (gA (aG hu) (ah 9) (ah 7)) (tY (gA (aG hu) (ah 10) (ah 5))))))))))))))))),?_⟩
 clear hu;symm;refine⟨_,inferInstance,fun ns JK=>?_⟩;refine cj [_,none,none,none,none,none,none,none,none,none,none,none] rfl ?_
 sizeOf_list_dec
 refine⟨ns,rfl,JK,fun a z=>z,fun t g ht hg gt=>?_⟩;have wt:aH (aH W0 g .part) t (.aI g 0) t=some (.aI g 0):=au;generalize aH (aH W0 g .part) t (.aI g 0)=W1 at wt
 sizeOf_list_dec
 refine cg (ds:=[]) wt ⟨rfl,by omega,fun rs bs n1 RI hn1=>cG ?_⟩;replace wt:aH W1 t (.aI g n1) t=some (.aI g n1):=au;generalize aH W1 t (.aI g n1)=W2 at wt
 sizeOf_list_dec
 refine cg (ds:=[bO rs bs]) wt ⟨rs,bs,rfl,RI.r2,by omega,fun st n2 uR Gk=>cG ?_⟩;replace wt:aH W2 t (.aI g n2) t=some (.aI g n2):=au;generalize aH W2 t (.aI g n2)=W3 at wt
 sizeOf_list_dec
 refine aL wt (by omega) (by decide) (by decide) fun b1 W4 _ _ wt _=>?_
 sizeOf_list_dec
 refine cg (ds:=[]) wt ⟨rfl,by omega,fun Bw n4 _ V1=>cG ?_⟩;replace wt:aH W4 t (.aI g n4) t=some (.aI g n4):=au;generalize aH W4 t (.aI g n4)=W5 at wt
 sizeOf_list_dec
 refine bT (ds:=[0,0,b1,Bw].map PyData.int) (by show 4<=sizeLine;decide) ?_
 sizeOf_list_dec
 refine aL wt (by omega) (by decide) (by decide) fun b2 W6 Wt Wu wt _=>?_;refine dn Wt (by simpa using Wu) fun bt _=>?_
 sizeOf_list_dec
 refine cg (ds:=[bO rs bs,.int bt]) wt ⟨rs,bs,bt,rfl,RI.b1,by omega,fun ps n5 nL hpb hn5=>za ?_⟩;replace wt:aH W6 t (.aI g n5) t=some (.aI g n5):=au;generalize aH W6 t (.aI g n5)=W7 at wt
 sizeOf_list_dec
 refine cg (ds:=[]) wt ⟨rfl,by omega,fun t1 t2 t3 t4 t5 n6 h1 Oi=>cG ?_⟩;replace wt:aH W7 t (.aI g n6) t=some (.aI g n6):=au;generalize aH W7 t (.aI g n6)=W8 at wt;have hk:eC (Ie rs bs st ps ⟨t1,t2,t3,t4,t5⟩):=⟨RI,uR,nL,hpb,aaK _,aaK _,aaK _⟩
 sizeOf_list_dec
 refine bK ⟨Ie rs bs st ps ⟨t1,t2,t3,t4,t5⟩,rfl,rfl,rfl,rfl,rfl,rfl,rfl,rfl,uR,fun W9 a k9 _ hA=>?_⟩
 sizeOf_list_dec
 refine bK ⟨t,g,n6,a,Ie rs bs st ps ⟨t1,t2,t3,t4,t5⟩,bt,rfl,k9 _ _ wt,by omega,hk,⟨aaK _,aaK _,aaK _⟩,h1,rfl,rfl,hA,fun Yq es vx DD=>?_⟩;generalize Wv:iH (Ie rs bs st ps ⟨t1,t2,t3,t4,t5⟩) es=OK
 sizeOf_list_dec
 refine rH (dB ?_)
 sizeOf_list_dec
 refine rH (dB ?_)
 sizeOf_list_dec
 refine bh (ds:=[bO rs bs,i6 st,.list (ps.map pairD),ET ⟨t1,t2,t3,t4,t5⟩,.list (es.map fm)]) ⟨rs,bs,st,ps,_,es,rfl,hk,vx,by omega,cG ?_⟩;rw[Wv]
 sizeOf_list_dec
 refine bh (ds:=[uM OK,uM OK]) ⟨OK,OK,rfl,cG ?_⟩;rw[aa6 (rfl:OK=OK)]
 sizeOf_list_dec
 refine JM (d1:=.list (es.map fm)) dE dE (zE vx).1 (zE vx).2 ?_
 sizeOf_list_dec
 refine JM (d1:=.list (ps.map pairD)) dE dE (zF ps).1 (zF ps).2 ?_
 sizeOf_list_dec
 exact rfl
end
end T1
namespace T1
open PySem L2
theorem o5{α:Type}(us:List α)(hl:us.length=1):∃ a0,us=[a0]:=by
 cases us with
 | nil=>cases hl
 | cons a r =>
  have e:r=[]:=abG.mp (acH hl);exact⟨a,by rw[e]⟩
theorem vn{α:Type}(us:List α)(hl:us.length=2):∃ a0 a1,us=[a0,a1]:=by
 cases us with
 | nil=>cases hl
 | cons a r =>
  obtain⟨a0,e⟩:=o5 r (acH hl);exact⟨a,a0,by rw[e]⟩
theorem vo{α:Type}(us:List α)(hl:us.length=3):∃ a0 a1 a2,us=[a0,a1,a2]:=by
 cases us with
 | nil=>cases hl
 | cons a r =>
  obtain⟨a0,a1,e⟩:=vn r (acH hl);exact⟨a,a0,a1,by rw[e]⟩
theorem vp{α:Type}(us:List α)(hl:us.length=4):∃ a0 a1 a2 a3,us=[a0,a1,a2,a3]:=by
 cases us with
 | nil=>cases hl
 | cons a r =>
  obtain⟨a0,a1,a2,e⟩:=vo r (acH hl);exact⟨a,a0,a1,a2,by rw[e]⟩
theorem vq{α:Type}(us:List α)(hl:us.length=5):∃ a0 a1 a2 a3 a4,us=[a0,a1,a2,a3,a4]:=by
 cases us with
 | nil=>cases hl
 | cons a r =>
  obtain⟨a0,a1,a2,a3,e⟩:=vp r (acH hl);exact⟨a,a0,a1,a2,a3,by rw[e]⟩
theorem sP{K:PySem.W.Frag}{C:Addr}(q:PySem.W.excIn K C [.type "ValueError",.type "Exception",.type "BaseException",.type "object"] "ValueError.__new__"=true):rh K C:=by
 intro h X;unfold PySem.W.excIn at q;split at q
 ·rename_i dd cd sl ho;split at q
  ·rename_i C' bm k0 k1 k2 k3 n k5 hm hs;simp only[aaC,ab6,Bool.not_eq_true']at q;obtain⟨⟨⟨⟨⟨rfl,rfl⟩,R4⟩,ht⟩,cv⟩,SR⟩:=q;obtain⟨nm,bs,mro,ns,qn,hd,sn,sub,ab,col,del⟩:=cd;dsimp only at hm R4 cv SR;subst hm R4;have GU:sl=#[k0,k1,k2,k3,some (.builtin "ValueError.__new__"),k5]:=by
    obtain⟨l⟩:=sl;simp only at hs;rw[hs]
   subst GU;have T:=PySem.W.tail_of_in X ht;exact⟨nm,qn,ns,bs,bm,hd,sn,sub,ab,col,dd,k0,k1,k2,k3,k5,_,X _ _ ho,.of_isNs (PySem.W.isNs_of_in X cv),PySem.W.nsMap_none_of_in X cv SR,T,T.hasType rfl⟩
  ·cases q
 ·cases q
theorem IH{K:PySem.W.Frag}{t C:Addr}{cd:ClassData}{b:Bool}(hc:PySem.W.clsIn K C=some cd)(ht:PySem.W.typeIn K (.ref C)=some (.type "type"))(hs:PySem.W.subIn K (.ref t) (.ref C)=some b):PySem.W.kitCls K (.ref t) (.ref C)=some b:=by
 unfold PySem.W.kitCls;simp only[hc,ht];exact hs
theorem Ww{K:PySem.W.Frag}{t C:Addr}{cd:ClassData}{b:Bool}(i4:(Value.ref t == Value.ref C)=false)(hc:PySem.W.clsIn K C=some cd)(ht:PySem.W.typeIn K (.ref C)=some (.type "type"))(hs:PySem.W.subIn K (.ref t) (.ref C)=some b):PySem.W.kitOne K (.ref t) (.ref C)=some b:=by
 unfold PySem.W.kitOne;rw[aaA (by rw[i4];decide)];exact IH hc ht hs
theorem Ts{K:PySem.W.Frag}{t:Addr}(mV:PySem.W.kitMeta "ValueError"=true)(sV:PySem.W.subIn K (.ref t) (.type "ValueError")=some true):PySem.W.kitOne K (.ref t) (.type "ValueError")=some true:=by
 show(if(Value.ref t == Value.type "ValueError")=true then some true else if PySem.W.kitMeta "ValueError"=true then PySem.W.subIn K (.ref t) (.type "ValueError")else none)=some true;rw[aaA (by intro z;cases (ab6.mp z)),aaE mV];exact sV
theorem Wx{K:PySem.W.Frag}{t:Value}{c:Value}{r:List Value}(h:PySem.W.kitOne K t c=some false)(hr:PySem.W.kitAny K t r=some false):PySem.W.kitAny K t (c::r)=some false:=by
 unfold PySem.W.kitAny;rw[h];exact hr
def Df(K:PySem.W.Frag)(x:Str)(st:Stmt)(ps:List Str)(f:Addr):Prop:=∀{h:Heap} {mg:Str->Option Value},K.In h->h.Ns mainGlobals mg->∃ fd,cM K x x st f fd/\PySem.W.keepIn K (.ref f)=true/\mg x=some (.ref f)/\Binds K fd ps []
theorem bI{K:PySem.W.Frag}{x:Str}{st:Stmt}{ps:List Str}{f:Addr}{oc:Value}{od an:Option Addr}{vX:Array (Option Value)}{kV doc pm bz ct:Value}(a:autoParam (PySem.W.nsIn K mainGlobals x=some (some (.ref f))) ra6)(l:autoParam (K.lookup f=some ⟨oc,od,.func (PySem.W.fnOf x x (defArgs st) (defBody st) (defScope st) .none kV doc pm an bz ct),vX⟩) ra6)
  (c:PySem.W.codeIn K bz x=true:=by k_is) (k:PySem.W.keepIn K (.ref f)=true:=by k_is) (b:∀ fd,cM K x x st f fd->Binds K fd ps []:=by exact fun _ F=>F.binds fun _ _ _ _ _ _ us hl=>by first | rfl | (obtain rfl:=List.eq_nil_of_length_eq_zero hl;rfl) | (obtain⟨_,rfl⟩:=T1.o5 us hl;rfl) | (obtain⟨_,_,rfl⟩:=T1.vn us hl;rfl) | (obtain⟨_,_,_,rfl⟩:=T1.vo us hl;rfl) | (obtain⟨_,_,_,_,rfl⟩:=T1.vp us hl;rfl) | (obtain⟨_,_,_,_,_,rfl⟩:=T1.vq us hl;rfl) | (obtain⟨_,_,_,_,_,_,rfl⟩:=T1.Fw us hl;rfl)):Df K x st ps f:=fun X G=>⟨_,ly l c k,(ly l c k).kp,abD X G a,b _ (ly l c k)⟩
theorem Fw{α:Type}(us:List α)(hl:us.length=6):∃ a0 a1 a2 a3 a4 a5,us=[a0,a1,a2,a3,a4,a5]:=by
 cases us with
 | nil=>cases hl
 | cons a r =>
  obtain⟨a0,a1,a2,a3,a4,e⟩:=vq r (acH hl);exact⟨a,a0,a1,a2,a3,a4,by rw[e]⟩
theorem jB{K:PySem.W.Frag}{a:Addr}{od:Option Addr}{aV:Array Value}{m:Nat}{sl:Array (Option Value)}{xs:List V}(h:K.lookup a=some ⟨.type "tuple",od,.seq aV m,sl⟩)(hz:aV.size<=sizeLine)(hv:Vals xs aV.toList)(H:Hp):fN K H a xs:=.inr ⟨_,aV,m,h,rfl,rfl,hz,hv⟩
theorem qy{α β:Type}[BEq α][LawfulBEq α]{a:α}{b:β}:∀{l:List (α×β)},(a,b)∈l->l.lookup a=none->False
 | (x,y)::r,h,n=>by
  rw[aaZ]at n;split at n
  ·cases n
  ·rename_i e;rcases aan.mp h with z | z
   ·injection z with z1 _
    rw[z1,adg]at e;cases e
   ·exact qy z n
theorem Fx{K:PySem.W.Frag}{w:World}{aP:Addr}{ep:Nat}{h1 h2 h3 h4 h5 h6 h7 h8 h9 YD:Int}{t1 t2 t3 t4 t5 t6 t7 t8 t9 t10:Tok}{p1 p2 p3 p4 p5 p6 p7 p8 p9 Te:Addr}
  (lP:K.lookup aP=some ⟨.type "dict",none,.dict #[⟨h1,.str "put" t1,.ref p1⟩,⟨h2,.str "sum" t2,.ref p2⟩,⟨h3,.str "mul" t3,.ref p3⟩,⟨h4,.str "less" t4,.ref p4⟩,⟨h5,.str "take" t5,.ref p5⟩,⟨h6,.str "lay" t6,.ref p6⟩,⟨h7,.str "go" t7,.ref p7⟩,⟨h8,.str "shut" t8,.ref p8⟩,⟨h9,.str "open" t9,.ref p9⟩,⟨YD,.str "home" t10,.ref Te⟩] ep,#[]⟩) (ne:(aP == sysModules)=false)
  (e1:h1=hashStr w "put") (q1:∀ H,fN K H p1 [.str "d",.str "worth"])
  (e2:h2=hashStr w "sum") (q2:∀ H,fN K H p2 [.str "d",.str "a",.str "b"])
  (e3:h3=hashStr w "mul") (q3:∀ H,fN K H p3 [.str "d",.str "a",.str "b"])
  (e4:h4=hashStr w "less") (q4:∀ H,fN K H p4 [.str "d",.str "a",.str "b"])
  (e5:h5=hashStr w "take") (q5:∀ H,fN K H p5 [.str "d",.str "a",.str "n"])
  (e6:h6=hashStr w "lay") (q6:∀ H,fN K H p6 [.str "b",.str "a",.str "n"])
  (e7:h7=hashStr w "go") (q7:∀ H,fN K H p7 [.str "a",.str "p"])
  (e8:h8=hashStr w "shut") (q8:∀ H,fN K H p8 [])
  (e9:h9=hashStr w "open") (q9:∀ H,fN K H p9 [])
  (e10:YD=hashStr w "home") (q10:∀ H,fN K H Te [])
  : Parts K w aP:=by
 refine⟨[(Sum.inr "put",.ref p1),(Sum.inr "sum",.ref p2),(Sum.inr "mul",.ref p3),(Sum.inr "less",.ref p4),(Sum.inr "take",.ref p5),(Sum.inr "lay",.ref p6),(Sum.inr "go",.ref p7),(Sum.inr "shut",.ref p8),(Sum.inr "open",.ref p9),(Sum.inr "home",.ref Te)],⟨⟨_,_,lP,?_⟩,by show([Sum.inr "put",Sum.inr "sum",Sum.inr "mul",Sum.inr "less",Sum.inr "take",Sum.inr "lay",Sum.inr "go",Sum.inr "shut",Sum.inr "open",Sum.inr "home"]:List Key).Nodup;decide +kernel,ne⟩,?_,?_⟩
 ·exact .cons ⟨cX _ _,e1,rfl⟩ (.cons ⟨cX _ _,e2,rfl⟩ (.cons ⟨cX _ _,e3,rfl⟩ (.cons ⟨cX _ _,e4,rfl⟩ (.cons ⟨cX _ _,e5,rfl⟩ (.cons ⟨cX _ _,e6,rfl⟩ (.cons ⟨cX _ _,e7,rfl⟩ (.cons ⟨cX _ _,e8,rfl⟩ (.cons ⟨cX _ _,e9,rfl⟩ (.cons ⟨cX _ _,e10,rfl⟩ (.nil))))))))))
 ·intro x ps hx;have m:=lookup_mem hx;simp only[cf,aan,Prod.mk.injEq,abf,acC]at m;rcases m with⟨rfl,rfl⟩ | ⟨rfl,rfl⟩ | ⟨rfl,rfl⟩ | ⟨rfl,rfl⟩ | ⟨rfl,rfl⟩ | ⟨rfl,rfl⟩ | ⟨rfl,rfl⟩ | ⟨rfl,rfl⟩ | ⟨rfl,rfl⟩ | ⟨rfl,rfl⟩
  all_goals refine⟨_,by(repeat rw[ja (by intro z;exact absurd (Sum.inr.inj z) (by decide +kernel))]);exact kq rfl,?_⟩
  all_goals assumption
 ·intro x hx;have no:∀ y∈cf.map (·.1),x≠y:=fun y hy e=>by
   obtain⟨⟨z,ps⟩,hz,rfl⟩:=aa8.mp hy;rw[e]at hx;exact qy hz hx
  repeat rw[ja (by intro z;exact no _ (by decide +kernel) (Sum.inr.inj z).symm)]
  rfl
theorem all_mk{l:PySem.W.OpenLaw}{w:World}{K:PySem.W.Frag}{h:Heap}{mg:Str->Option Value}{fa:Addr}(X:K.In h)(G:h.Ns mainGlobals mg)(hfa:mg "law"=some (.ref fa))
  {f1:Addr} {f2:Addr} {f3:Addr} {f4:Addr} {f5:Addr} {f6:Addr} {f7:Addr} {f8:Addr} {f9:Addr} {OJ:Addr} {RT:Addr} {RU:Addr} {Wk:Addr} {Wm:Addr} {Wo:Addr} {f16:Addr} {f17:Addr} {f18:Addr} {f19:Addr} {f20:Addr} {f21:Addr} {f22:Addr} {f23:Addr} {f24:Addr} {f25:Addr} {f26:Addr} {f27:Addr} {f28:Addr} {f29:Addr} {f30:Addr} {f31:Addr} {f32:Addr} {f33:Addr} {f34:Addr} {f35:Addr} {f36:Addr} {f37:Addr} {f38:Addr} {f39:Addr} {f40:Addr} {f41:Addr} {f42:Addr} {f43:Addr} {Wy R5:Option Addr} {WA:Array (Option Value)} {WB R6 R7 R8 Ot R9:Value} {WC:Addr} {zJ:Addr} {lj:Addr} {Bp:Tok} {Fy:Tok} {qz:Addr} {vt:Addr} {FA:Addr} {vw:Addr}
  (d1:Df K "wrapped" oH ["number"] f1)
  (d2:Df K "cell_at" rR ["worth", "n"] f2)
  (d3:Df K "spots_read" xH ["row"] f3)
  (d4:Df K "spot_written" DQ ["row"] f4)
  (d5:Df K "is_slow" Et ["row"] f5)
  (d6:Df K "worth_got" NC ["row", "spots", "cells"] f6)
  (d7:Df K "what_it_writes" DS ["row", "spots", "cells"] f7)
  (d8:Df K "place_behind" rS ["row", "place", "spots", "kept"] f8)
  (d9:Df K "is_shut_behind" xr ["row", "shut"] f9)
  (Wh:Df K "kept_behind" xt ["row", "kept"] OJ)
  (Wi:Df K "is_bell" rT ["mill", "k"] RT)
  (Wj:Df K "bells_rung" Eu ["rings", "beat"] RU)
  (Wl:Df K "bells_waiting" Ew ["rings", "taken", "beat"] Wk)
  (Wn:Df K "rests" xu ["mill", "state"] Wm)
  (Wq:Df K "with_written" DT ["worths", "kind", "wrote"] Wo)
  (d16:Df K "step" DU ["mill", "state"] f16)
  (d17:Df K "bell" DW ["mill", "state", "k"] f17)
  (d18:Df K "thing_of" xI ["wrote"] f18)
  (d19:Df K "parting" kX ["mill", "state", "rings", "terms", "diary"] f19)
  (d20:Df K "_law_bag" Nw ["script"] f20)
  (d21:Df K "_law_draw" DL ["bag", "many"] f21)
  (d22:Df K "_law_far" Nz ["bag"] f22)
  (d23:Df K "_law_worth" xn ["bag"] f23)
  (d24:Df K "_law_row" NR ["bag", "many", "spots"] f24)
  (d25:Df K "_law_mill" EV ["bag"] f25)
  (d26:Df K "_law_state" xU ["bag", "mill"] f26)
  (d27:Df K "_law_rings" yd ["bag", "mill", "base"] f27)
  (d28:Df K "_law_terms" sTerms ["bag"] f28)
  (d29:Df K "_law_due" NV ["row", "now"] f29)
  (d30:Df K "_law_goes" EY ["row", "now"] f30)
  (d31:Df K "_law_waits" xV ["rings", "now", "beat"] f31)
  (d32:Df K "_law_begin" xW ["state"] f32)
  (d33:Df K "_law_end_cause" E4 ["mill", "rings", "terms", "now", "event"] f33)
  (d34:Df K "_law_cause" xZ ["mill", "rings", "terms", "now", "event"] f34)
  (d35:Df K "_law_take_up" x9 ["mill", "rings", "now", "event"] f35)
  (d36:Df K "_law_sure" Fd ["mill", "rings", "terms", "now"] f36)
  (d37:Df K "_law_some" Fe ["bag", "mill", "rings", "terms", "now", "base"] f37)
  (d38:Df K "_law_wild" Fh ["bag", "now"] f38)
  (d39:Df K "_law_other_number" Fi ["bag", "number"] f39)
  (d40:Df K "_law_other_wrote" Fj ["bag", "wrote", "due"] f40)
  (d41:Df K "_law_spoilt" sJ ["bag", "mill", "terms", "now", "event"] f41)
  (d42:Df K "_law_tale" Fo ["bag", "mill", "rings", "terms", "now", "base"] f42)
  (d43:Df K "_law_right" xo ["found", "due"] f43)
  (a44:PySem.W.nsIn K mainGlobals "law"=some (some (.ref WC))) (l44:K.lookup WC=some ⟨WB,Wy,.func (PySem.W.fnOf "law" "law" (defArgs sO) (defBody sO) (defScope sO) .none R6 R7 R8 R5 Ot R9),WA⟩) (c44:PySem.W.codeIn K Ot "law"=true) (k44:PySem.W.keepIn K (.ref WC)=true)
  (g_PARTS:PySem.W.nsIn K mainGlobals "PARTS"=some (some (.ref zJ))) (h_PARTS:Parts K w zJ) (g_SLOW_WORDS:PySem.W.nsIn K mainGlobals "SLOW_WORDS"=some (some (.ref lj))) (h_SLOW_WORDS:∀ H,fN K H lj [.str "mul",.str "take"]) (g_WORTHS:PySem.W.nsIn K mainGlobals "WORTHS"=some (some (.int 4294967296 Bp))) (g_CELLS:PySem.W.nsIn K mainGlobals "CELLS"=some (some (.int 16 Fy))) (g_Resting:PySem.W.nsIn K mainGlobals "Resting"=some (some (.ref qz))) (g_NoBell:PySem.W.nsIn K mainGlobals "NoBell"=some (some (.ref vt))) (g_Shut:PySem.W.nsIn K mainGlobals "Shut"=some (some (.ref FA))) (h_Shut:rh K qz/\rh K vt/\rh K FA) (g_Holder:PySem.W.nsIn K mainGlobals "Holder"=some (some (.ref vw))) (h_Holder:sN K vw)
  (z1:PySem.W.nsIn K mainGlobals "isinstance"=some none) (z2:PySem.W.nsIn K mainGlobals "bool"=some none) (z3:PySem.W.nsIn K mainGlobals "int"=some none) (z4:PySem.W.nsIn K mainGlobals "str"=some none) (z5:PySem.W.nsIn K mainGlobals "list"=some none) (z6:PySem.W.nsIn K mainGlobals "tuple"=some none) (z7:PySem.W.nsIn K mainGlobals "len"=some none) (z8:PySem.W.nsIn K mainGlobals "zip"=some none) (z9:PySem.W.nsIn K mainGlobals "any"=some none) (z10:PySem.W.nsIn K mainGlobals "range"=some none) (z11:PySem.W.nsIn K mainGlobals "sorted"=some none) (z12:PySem.W.nsIn K mainGlobals "set"=some none) (z13:PySem.W.nsIn K mainGlobals "max"=some none) :
  ∃ fd:FuncData,(∀(s:Shared) (v:Value),BindsTo s fd ⟨[v],[]⟩ [("script",v)])/\∀ base:Heap,K.In base->base.Ns mainGlobals mg->ba l.prog w K mg base cU 10 fa fd ["script"] (zo K):=by
 have e:=hfa.symm.trans (abD X G a44);cases e;obtain⟨_,F1,k1,m1,b1⟩:=d1 X G;obtain⟨_,F2,k2,m2,b2⟩:=d2 X G;obtain⟨_,F3,k3,m3,b3⟩:=d3 X G;obtain⟨_,F4,k4,m4,b4⟩:=d4 X G;obtain⟨_,F5,k5,m5,b5⟩:=d5 X G;obtain⟨_,F6,k6,m6,b6⟩:=d6 X G;obtain⟨_,F7,k7,m7,b7⟩:=d7 X G;obtain⟨_,F8,k8,m8,b8⟩:=d8 X G;obtain⟨_,F9,k9,m9,b9⟩:=d9 X G;obtain⟨_,Ti,VX,V8,b10⟩:=Wh X G;obtain⟨_,Tj,VY,V9,b11⟩:=Wi X G;obtain⟨_,Tn,k12,Wb,b12⟩:=Wj X G;obtain⟨_,To,k13,Wc,b13⟩:=Wl X G;obtain⟨_,Tq,k14,We,b14⟩:=Wn X G;obtain⟨_,Tr,k15,Wf,b15⟩:=Wq X G;obtain⟨_,F16,k16,m16,b16⟩:=d16 X G;obtain⟨_,F17,k17,m17,b17⟩:=d17 X G;obtain⟨_,F18,k18,m18,b18⟩:=d18 X G;obtain⟨_,F19,k19,m19,b19⟩:=d19 X G;obtain⟨_,F20,k20,m20,Wt⟩:=d20 X G;obtain⟨_,F21,k21,m21,Wu⟩:=d21 X G;obtain⟨_,F22,k22,m22,b22⟩:=d22 X G;obtain⟨_,F23,L3,m23,b23⟩:=d23 X G;obtain⟨_,F24,k24,m24,b24⟩:=d24 X G;obtain⟨_,F25,k25,m25,b25⟩:=d25 X G;obtain⟨_,F26,k26,m26,b26⟩:=d26 X G;obtain⟨_,F27,k27,m27,b27⟩:=d27 X G;obtain⟨_,F28,k28,m28,b28⟩:=d28 X G;obtain⟨_,F29,k29,m29,b29⟩:=d29 X G;obtain⟨_,F30,k30,m30,b30⟩:=d30 X G;obtain⟨_,F31,k31,m31,b31⟩:=d31 X G;obtain⟨_,F32,k32,m32,b32⟩:=d32 X G;obtain⟨_,F33,k33,m33,b33⟩:=d33 X G;obtain⟨_,F34,OD,m34,b34⟩:=d34 X G;obtain⟨_,F35,k35,m35,b35⟩:=d35 X G;obtain⟨_,F36,k36,m36,b36⟩:=d36 X G;obtain⟨_,F37,k37,m37,b37⟩:=d37 X G;obtain⟨_,F38,k38,m38,b38⟩:=d38 X G;obtain⟨_,F39,k39,m39,b39⟩:=d39 X G;obtain⟨_,F40,k40,m40,b40⟩:=d40 X G;obtain⟨_,F41,k41,m41,b41⟩:=d41 X G;obtain⟨_,F42,k42,m42,b42⟩:=d42 X G;obtain⟨_,F43,k43,m43,b43⟩:=d43 X G;have YE:=ly (st:=sO) l44 c44 k44;have b44:=YE.binds (ps:=["script"]) fun _ _ _ _ _ _ us hl=>by obtain⟨_,rfl⟩:=o5 us hl;rfl
 have m44:=abD X G a44;have dY:=aa0 X G z1;have xq:=aa0 X G z2;have gK:=aa0 X G z3;have DP:=aa0 X G z4;have eQ:=aa0 X G z5;have dF:=aa0 X G z6;have bj:=aa0 X G z7;have qj:=aa0 X G z8;have mr:=aa0 X G z9;have bP:=aa0 X G z10;have oN:=aa0 X G z11;have Ez:=aa0 X G z12;have qx:=aa0 X G z13;have jK:=abD X G g_PARTS;have iT:=abD X G g_SLOW_WORDS;have oI:=abD X G g_WORTHS;have rX:=abD X G g_CELLS;have lN:=abD X G g_Resting;have oK:=abD X G g_NoBell;have xB:=abD X G g_Shut;have o4:=abD X G g_Holder;refine⟨PySem.W.fnOf "law" "law" (defArgs sO) (defBody sO) (defScope sO) .none R6 R7 R8 R5 Ot R9,fun s v=>.of_eq rfl,fun base _ _=>?_⟩;obtain⟨hR,hN,hS⟩:=h_Shut;have N:∀{k:Nat} {x:Str} {f:Addr} {fd:FuncData} {ps:List Str} {sp:Sp},ba l.prog w K mg base cU k f fd ps sp->Binds K fd ps []->PySem.W.keepIn K (.ref f)=true->mg x=some (.ref f)->Dn l.prog w K mg base k x f fd ps sp:=fun a b c d=>⟨a,b,c,d⟩;have NX:∀{k:Nat} {x:Str} {f:Addr} {fd:FuncData} {ps:List Str} {sp:Sp},ba l.prog w K mg base (vC l.prog w) k f fd ps sp->Binds K fd ps []->PySem.W.keepIn K (.ref f)=true->mg x=some (.ref f)->UC l.prog w K mg base k x f fd ps sp:=fun a b c d=>⟨a,b,c,d⟩;have D1:=N (xx F1 oI) b1 k1 m1;have D2:=N (A1 F2 rX) b2 k2 m2;have D4:=N (HJ F4 jK h_PARTS.mt qj) b4 k4 m4;have D6:=N (NI F6 D1 D2) b6 k6 m6;have D7:=N (HK F7 D2 D4 D6) b7 k7 m7;have D8:=N (Ej F8) b8 k8 m8;have D9:=N (Ek F9) b9 k9 m9;have D10:=N (El Ti) b10 VX V8;have D11:=N (A2 Tj bj) b11 VY V9;have YF:=N (Em Tq bj) b14 k14 We;have D15:=N (HL Tr) b15 k15 Wf;have D16:=NX (HN hR lN F16 YF D7 D8 D15 D9 D10) (b16) k16 m16;have D17:=NX (HP hN oK hS xB F17 D11) (b17) k17 m17;have D3:=N (Ey F3 jK h_PARTS.mt qj) b3 k3 m3;have D5:=N (HU F5 iT h_SLOW_WORDS) b5 k5 m5;have D12:=N (HV Tn) b12 k12 Wb;have D13:=N (HW To D12 oN Ez) b13 k13 Wc;have D18:=N (EA F18) b18 k18 m18;have D19:=N (IG F19 h_Holder o4 D16.calm D17.calm D18 D5 D13 YF D3 D4 bj mr eQ) b19 k19 m19;have zK:=N (Hy F21) Wu k21 m21;have OL:=N (NA F22 zK bP) b22 k22 m22;have Tt:=N (DN F23 zK) b23 L3 m23;have D43:=N (DO F43 dY dF bj DP xq gK) b43 k43 m43;have D24:=N (NT F24 zK Tt) b24 k24 m24;have D25:=N (Ij F25 zK D24 bP dF) b25 k25 m25;have D26:=N (EX F26 zK Tt bP dF bj) b26 k26 m26;have Sa:=N (Od F29 gK) b29 k29 m29;have D30:=N (Iq F30 Sa gK) b30 k30 m30;have Sb:=N (E2 F31 bP bj) b31 k31 m31;have D32:=N (E3 F32 eQ) b32 k32 m32;have D33:=N (Iu F33 Sa Sb eQ bj) b33 k33 m33;have YG:=N (E8 F34 D33 Sb) b34 OD m34;have D35:=N (Fc F35 Sb D30 gK) b35 k35 m35;have D36:=N (Iy F36 Sb Sa bj) b36 k36 m36;have D37:=N (Iz F37 zK Sb Sa YG D36 bj qx) b37 k37 m37;have D27:=N (Fs F27 zK OL bP bj) b27 k27 m27;have D28:=N (Ft F28 zK OL bP dF) b28 k28 m28;have YH:=N (IB F38 zK OL Tt qx) b38 k38 m38;have YI:=N (IC F39 zK OL) b39 k39 m39;have D40:=N (ID F40 zK Tt YI gK) b40 k40 m40;have D41:=N (Bn F41 zK OL YH YI D40 Sa bj) b41 k41 m41;have D42:=N (IE F42 zK D37 D41 YG YH D35 bP bj) b42 k42 m42;exact Oq YE ⟨Ny F20,Wt,k20,m20⟩ zK OL D25 D26 D27 D28 D32 D42 D19 D43 eQ
theorem walk{l:PySem.W.OpenLaw}{q:Program}{loose:List Str}{XP:(Str->Option Value)->Heap->Prop}{YP:World->Heap->Prop}{d:DefRec}{K:Params->PySem.W.Frag}(hn:l.most=some 63)(PB:d.params.defaults=[])
  (hY:∀(w:World) (h:Heap),YP w h->(K w.params).In h)
  (F:∀(w:World) (mg:Str->Option Value) (fa:Addr) (h:Heap),(K w.params).In h->h.Ns mainGlobals mg->mg d.name=some (.ref fa) ->
   ∃ fd:FuncData,(∀(s:Shared) (u:Value),BindsTo s fd ⟨[u],[]⟩ [("script",u)])/\∀ base:Heap,(K w.params).In base->base.Ns mainGlobals mg->ba l.prog w (K w.params) mg base cU 10 fa fd ["script"] (zo (K w.params))) :
  PySem.W.WalkO q loose XP YP l.row.toRowW d [] (fun f vs=>PySem.call f vs) :=
 L2.GD (n:=63) (k:=10) (x := "script") (CX:=fun _=>cU) (sp:=fun w=>zo (K w.params)) hn (by decide) PB ⟨rfl,by decide,by decide⟩ hY F (fun _ _ a ns hl _ hS=>⟨a,ns,rfl,hS,hl,fun _=>rfl⟩) fun _ _ _ _ _ z=>z
end T1
open PySem PySem.W PyProof.Rows
set_option maxRecDepth 100000 in
set_option maxHeartbeats 0 in
theorem PySem.Challenge.cw_twomakes_k27_whole_any_diary_holds : PySem.Challenge.rw_twomakes_k27_whole_any_diary.Holds := by
 refine HD.look fun d hn dY=>T1.walk (l:=PySem.Challenge.rw_twomakes_k27_whole_any_diary) rfl dY (fun w h Y=>PySem.W.kIn_of Y) ?F
 case F =>
  intro w mg fa h KX G PD
  rw[hn] at PD
  refine' T1.all_mk KX G PD T1.bI T1.bI T1.bI T1.bI T1.bI T1.bI T1.bI T1.bI T1.bI T1.bI T1.bI T1.bI T1.bI T1.bI T1.bI T1.bI T1.bI T1.bI T1.bI T1.bI T1.bI T1.bI T1.bI T1.bI T1.bI T1.bI T1.bI T1.bI T1.bI T1.bI T1.bI T1.bI T1.bI T1.bI T1.bI T1.bI T1.bI T1.bI T1.bI T1.bI T1.bI T1.bI T1.bI ?a44 ?l44 ?c44 ?k44 ?g_PARTS ?h_PARTS ?g_SLOW_WORDS ?h_SLOW_WORDS ?g_WORTHS ?g_CELLS ?g_Resting ?g_NoBell ?g_Shut ?h_Shut ?g_Holder ?h_Holder ?z1 ?z2 ?z3 ?z4 ?z5 ?z6 ?z7 ?z8 ?z9 ?z10 ?z11 ?z12 ?z13
  (case a44=>k_is);(case l44=>k_is);(case c44=>k_is);(case k44=>k_is)
  (case z1=>k_is);(case z2=>k_is);(case z3=>k_is);(case z4=>k_is);(case z5=>k_is);(case z6=>k_is);(case z7=>k_is);(case z8=>k_is);(case z9=>k_is);(case z10=>k_is);(case z11=>k_is);(case z12=>k_is);(case z13=>k_is)
  (case g_PARTS=>k_is)
  case h_PARTS =>
   refine' T1.Fx ?lP ?ne ?e1 ?q1 ?e2 ?q2 ?e3 ?q3 ?e4 ?q4 ?e5 ?q5 ?e6 ?q6 ?e7 ?q7 ?e8 ?q8 ?e9 ?q9 ?e10 ?q10
   (case lP=>k_is)
   (case ne=>decide)
   (case e1=>rfl)
   (case q1=>(refine' T1.jB ?t ?z ?v;(case t=>k_is);(case z=>decide);(case v=>exact .cons ⟨_,rfl⟩ (.cons ⟨_,rfl⟩ (.nil)))))
   (case e2=>rfl)
   (case q2=>(refine' T1.jB ?t ?z ?v;(case t=>k_is);(case z=>decide);(case v=>exact .cons ⟨_,rfl⟩ (.cons ⟨_,rfl⟩ (.cons ⟨_,rfl⟩ (.nil))))))
   (case e3=>rfl)
   (case q3=>(refine' T1.jB ?t ?z ?v;(case t=>k_is);(case z=>decide);(case v=>exact .cons ⟨_,rfl⟩ (.cons ⟨_,rfl⟩ (.cons ⟨_,rfl⟩ (.nil))))))
   (case e4=>rfl)
   (case q4=>(refine' T1.jB ?t ?z ?v;(case t=>k_is);(case z=>decide);(case v=>exact .cons ⟨_,rfl⟩ (.cons ⟨_,rfl⟩ (.cons ⟨_,rfl⟩ (.nil))))))
   (case e5=>rfl)
   (case q5=>(refine' T1.jB ?t ?z ?v;(case t=>k_is);(case z=>decide);(case v=>exact .cons ⟨_,rfl⟩ (.cons ⟨_,rfl⟩ (.cons ⟨_,rfl⟩ (.nil))))))
   (case e6=>rfl)
   (case q6=>(refine' T1.jB ?t ?z ?v;(case t=>k_is);(case z=>decide);(case v=>exact .cons ⟨_,rfl⟩ (.cons ⟨_,rfl⟩ (.cons ⟨_,rfl⟩ (.nil))))))
   (case e7=>rfl)
   (case q7=>(refine' T1.jB ?t ?z ?v;(case t=>k_is);(case z=>decide);(case v=>exact .cons ⟨_,rfl⟩ (.cons ⟨_,rfl⟩ (.nil)))))
   (case e8=>rfl)
   (case q8=>(refine' T1.jB ?t ?z ?v;(case t=>k_is);(case z=>decide);(case v=>exact .nil)))
   (case e9=>rfl)
   (case q9=>(refine' T1.jB ?t ?z ?v;(case t=>k_is);(case z=>decide);(case v=>exact .nil)))
   (case e10=>rfl)
   (case q10=>(refine' T1.jB ?t ?z ?v;(case t=>k_is);(case z=>decide);(case v=>exact .nil)))
  (case g_SLOW_WORDS=>k_is)
  case h_SLOW_WORDS =>
   (refine' T1.jB ?t ?z ?v;(case t=>k_is);(case z=>decide);(case v=>exact .cons ⟨_,rfl⟩ (.cons ⟨_,rfl⟩ .nil)))
  (case g_WORTHS=>k_is)
  (case g_CELLS=>k_is)
  (case g_Resting=>k_is)
  (case g_NoBell=>k_is)
  (case g_Shut=>k_is)
  case h_Shut =>
   refine' (And.intro (T1.sP ?u_q0) (And.intro (T1.sP ?u_q1) (T1.sP ?u_q2)))
   (case u_q0=>first | kernel_rfl | rfl)
   (case u_q1=>first | kernel_rfl | rfl)
   (case u_q2=>first | kernel_rfl | rfl)
  (case g_Holder=>k_is)
  case h_Holder =>
   refine' T1.sN.mk (T1.IF ?H_pg ?H_hd ?H_po ?H_sa ?H_na) (T1.Oj ?H_im ?H_ia ?H_il ?H_ic ?H_ik ?H_in ?H_iv) T1.gM T1.gM T1.gM T1.gM T1.gM T1.gM T1.gM T1.gM T1.gM T1.gM T1.gM T1.gM T1.gM T1.gM T1.gM
   (case H_pg=>first | kernel_rfl | k_is)
   (case H_hd=>first | kernel_rfl | k_is)
   (case H_po=>first | kernel_rfl | k_is)
   (case H_sa=>first | k_is | kernel_rfl)
   (case H_na=>(refine' ⟨?_,?_,?_,?_,?_,?_,?_,?_,?_,?_,?_,?_,?_,?_,?_,?_,?_,?_,trivial⟩<;>(show PySem.W.findIn _ _ _=some none;first | k_is | kernel_rfl)))
   (case H_im=>first | kernel_rfl | k_is)
   (case H_ia=>k_is)
   (case H_il=>k_is)
   (case H_ic=>k_is)
   (case H_ik=>k_is)
   (case H_in=>first | k_is | kernel_rfl)
   (case H_iv=>k_is)
