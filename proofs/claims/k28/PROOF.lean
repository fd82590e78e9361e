import PyProof.Rows.All
import Wide.FinOn
import KE.KStrOpen
import KE.KFromBytes
import KE.KMinKey
import KE.KTryMore
import KE.KDictLaws
import KE.KRevSl
import KE.KRevIter
import KE.KIntText
import KE.KxWritten
import KE.KDictOf
import Lean
import PyProof.EqAt
import PyProof.EqKinds
import PyProof.TupleCall
import PyProof.ZipIter
import PyProof.EnumMake
import KE.KDictAnyGet
import PySem.Challenge.RW_twomakes_k28_right_ones_stay_right
local macro_rules|`(@0)=>`(by omega)|`(@1)=>`(by decide)|`(@2)=>`(by simp)
set_option compiler.extract_closed false
set_option genInjectivity false
set_option genSizeOf false
set_option bootstrap.genMatcherCode false
local macro_rules|`(tactic|iterate $n:num fail)=>if n.getNat==1 then `(tactic|fail) else `(tactic|first|with_reducible exact Nat.le_of_ble_eq_true rfl|(with_reducible apply Nat.add_le_of_le_sub;(·with_reducible exact Nat.le_of_ble_eq_true rfl);iterate $(Lean.quote (n.getNat-1)) fail)|(with_reducible apply Nat.le_trans;(·with_reducible assumption);iterate $(Lean.quote (n.getNat-1)) fail))
local macro_rules|`(tactic|omega)=>`(tactic|first|iterate 16 fail|decide +kernel)
set_option Elab.async false
set_option linter.all false
set_option maxRecDepth 100000
def mS(o:Array (Lean.TSyntax `Lean.Parser.Tactic.tacticSeq)):List String->Array (Lean.TSyntax `Lean.Parser.Tactic.tacticSeq)->Lean.MacroM (Array (Lean.TSyntax `Lean.Parser.Tactic.tacticSeq))
 |[],a=>pure a
 |x::r,a=>do
  let w:=x.splitOn " "
  let k:=(w.tail.map fun y=>Lean.mkIdent y.toName).toArray
  let n:=k.getD 0 (Lean.mkIdent `x)
  let h:=w.head!
  mS o r (a.push (<-if h=="A" then `(Lean.Parser.Tactic.tacticSeq|with_reducible first $[|refine $k ?_]*) else if h=="f" then `(Lean.Parser.Tactic.tacticSeq|refine $n ?_) else if k.isEmpty then pure (o.getD h.toNat! ⟨.missing⟩) else do
   let mut z:Array (Lean.TSyntax `tactic):=#[<-if h.front=='e' then `(tactic|apply $n) else `(tactic|with_reducible apply $n)]
   for c in h.toList do z:=z.push (<-if c=='m' then `(tactic|·assumption) else if c=='d' then `(tactic|·decide) else if c=='o' then `(tactic|·omega) else if c=='r' then `(tactic|·exact rfl) else `(tactic|skip))
   `(Lean.Parser.Tactic.tacticSeq|($z;*))))
theorem zq1{am:Type}{us:List am}{n:Nat}(h:us.length=n+1):∃ a r,us=a::r ∧ r.length=n:=by cases us with|nil=>cases h|cons a r=>exact⟨a,r,rfl,Nat.succ.inj h⟩
theorem zq5{am:Type}{us:List am}(h:us.length=5):∃ a b c d e,us=[a,b,c,d,e]:=by obtain⟨a,r,rfl,i⟩:=zq1 h;obtain⟨b,s,rfl,j⟩:=zq1 i;obtain⟨c,t,rfl,k⟩:=zq1 j;obtain⟨d,u,rfl,l⟩:=zq1 k;obtain⟨e,v,rfl,m⟩:=zq1 l;cases v with|nil=>exact⟨a,b,c,d,e,rfl⟩|cons=>cases m
theorem rzX(h:True:=by first | exact L2.uj _ @1 @1 | rfl):True:=h
abbrev raX:=@rzX._auto_1
theorem rz0(h:True:=by rfl):True:=h
abbrev ra0:=@rz0._auto_1
theorem rz1(h:True:=by decide):True:=h
abbrev ra1:=@rz1._auto_1
theorem rz2(h:True:=by with_unfolding_all rfl):True:=h
abbrev ra2:=@rz2._auto_1
theorem rz3(h:True:=by intro _;rfl):True:=h
abbrev ra3:=@rz3._auto_1
theorem rz4(h:True:=by first | exact .inl rfl | exact .inr rfl | assumption):True:=h
abbrev ra4:=@rz4._auto_1
theorem rz5(h:True:=by intro _ _ _ _;rfl):True:=h
abbrev ra5:=@rz5._auto_1
theorem rz6(h:True:=by k_is):True:=h
abbrev ra6:=@rz6._auto_1
theorem rz7(h:True:=by first | exact aaC _ | decide | omega):True:=h
abbrev ra7:=@rz7._auto_1
theorem rz8(h:True:=by exact fun _ _=>rfl):True:=h
abbrev ra8:=@rz8._auto_1
theorem rz9(h:True:=by simp):True:=h
abbrev ra9:=@rz9._auto_1
theorem rz10(h:True:=by decide +kernel):True:=h
abbrev ra10:=@rz10._auto_1
abbrev zn:=PySem.W.Frag
abbrev yp:=List (PySem.Addr×PySem.Obj)
abbrev xz:=PySem.Value->PySem.Shared->Prop
abbrev xL:=PySem.Str->Option PySem.Value
abbrev wf:=List PySem.Value
abbrev wn:=List Int
abbrev wv:=List PySem.Str
abbrev ww:=List PySem.Addr
abbrev wE:=List PySem.PyData
abbrev wP:=Option PySem.Value
abbrev wS:=Option PySem.Addr
abbrev wT:=PySem.FuncData
abbrev v0:=Option Int
abbrev v6:=List PySem.Expr
abbrev ul:=List PySem.Stmt
abbrev ut:=List (Int×Int)
abbrev u8:=PySem.Program
abbrev tx:=PySem.Around
abbrev aav:=@List.length_map
abbrev aaw:=@PySem.wpAny_bind
abbrev aax:=@PySem.Heap.get?_push_of_some
abbrev aay:=@PySem.wpAny_pure
abbrev aaz:=@List.getElem?_map
abbrev aaA:=@List.mem_cons
abbrev aaB:=@Option.map_eq_some_iff
abbrev aaC:=@Nat.le_refl
abbrev aaD:=@if_neg
abbrev aaE:=@Nat.le_trans
abbrev aaF:=@PySem.Heap.lt_size
abbrev aaG:=@PySem.Heap.get?_push_size
abbrev aaH:=@List.getElem?_eq_some_iff
abbrev aaI:=@List.mem_cons_of_mem
abbrev aaJ:=@decide_eq_false
abbrev aaK:=@Bool.false_ne_true
abbrev aaL:=@List.size_toArray
abbrev aaM:=@List.map_cons
abbrev aaN:=@Bool.and_eq_true
abbrev aaO:=@if_pos
abbrev aaP:=@List.mem_cons_self
abbrev aaQ:=@Nat.le_of_lt
abbrev aaR:=@PySem.W.Fast.te14364793385576792824
abbrev aaS:=@Nat.lt_of_lt_of_le
abbrev aaT:=@List.getElem?_eq_getElem
abbrev aaU:=@List.take_add_one
abbrev aaV:=@List.length_append
abbrev aaW:=@List.mem_append_right
abbrev aaX:=@List.length_cons
abbrev aaY:=@Nat.zero_le
abbrev aaZ:=@PySem.F.plainAttrs_list
abbrev aa0:=@List.take_length
abbrev aa1:=@Int.le_refl
abbrev aa2:=@decide_eq_true
abbrev aa3:=@PySem.W.Fast.te10110043849684766642
abbrev aa4:=@PySem.boot_len
abbrev aa5:=@Nat.le_succ_of_le
abbrev aa6:=@Nat.ne_of_lt
abbrev aa7:=@Array.length_toList
abbrev aa8:=@List.filter_append
abbrev aa9:=@PySem.F.slot_list_append
abbrev aba:=@PySem.F.type_list_append
abbrev abb:=@Option.some.inj
abbrev abc:=@List.length_take
abbrev abd:=@PySem.Heap.SameBut.update
abbrev abe:=@List.mem_map
abbrev abf:=@List.getD_eq_getElem?_getD
abbrev abg:=@List.mem_filter
abbrev abh:=@List.all_cons
abbrev abi:=@Int.toNat_natCast
abbrev abj:=@List.lookup_cons
abbrev abk:=@List.mem_singleton
abbrev abl:=@PySem.W.mg_none_of
abbrev abm:=@Nat.lt_irrefl
abbrev abn:=@List.mem_append
abbrev abo:=@PySem.Obj.data_mapFields
abbrev abp:=@PyProof.Rows.slot_tuple_getitem
abbrev abq:=@PySem.Heap.get?_update_self
abbrev abr:=@PySem.wpAny_callSpecial?_slot
abbrev abt:=@List.map_append
abbrev abu:=@PySem.Heap.size_push
abbrev abv:=@PySem.wpAny_newObj_type
abbrev abw:=@PySem.wpAny_holding
abbrev abx:=@PySem.wpAny_call_entry
abbrev aby:=@List.not_mem_nil
abbrev abz:=@PyProof.Rows.boot_tuple
abbrev abA:=@List.take_of_length_le
abbrev abB:=@List.filter_eq_nil_iff
abbrev abC:=@PySem.W.kia_one
abbrev abD:=@List.getElem?_zip_eq_some
abbrev abE:=@Array.getElem?_eq_getElem
abbrev abF:=@List.any_cons
abbrev abG:=@List.length_drop
abbrev abH:=@List.all_eq_true
abbrev abI:=@Nat.le_succ
abbrev abJ:=@Option.isSome_iff_exists
abbrev abK:=@List.length_filter_le
abbrev abL:=@List.find?_cons
abbrev abM:=@PySem.wpAny_field
abbrev abN:=@PySem.wpAny_ite_split
abbrev abO:=@Int.emod_lt_of_pos
abbrev abP:=@PySem.wpAny_mono
abbrev abQ:=@List.mem_of_getElem?
abbrev abR:=@PyProof.Rows.boot_list
abbrev abS:=@PySem.wpAny_truthy_bool
abbrev abT:=@PySem.wpAny_pyIter_list
abbrev abU:=@List.replicate_succ
abbrev abV:=@of_decide_eq_true
abbrev abW:=@PySem.W.mg_of
abbrev abX:=@List.pairwise_cons
abbrev abY:=@List.getElem_mem
abbrev abZ:=@List.any_eq_true
abbrev ab0:=@List.length_eq_zero_iff
abbrev ab1:=@PyProof.Rows.F.plain_set_update_loop
abbrev ab2:=@PyProof.Rows.callWith_type1
abbrev ab3:=@Int.emod_nonneg
abbrev ab4:=@congrArg
abbrev ab5:=@PySem.F.slot_tuple_iterator_next
abbrev ab6:=@Nat.lt_succ_self
abbrev ab7:=@Nat.ne_of_gt
abbrev ab8:=@PySem.wpAny_Call_Name_kw
abbrev ab9:=@Array.getElem?_toList
abbrev aca:=@PySem.Obj.isFreed_of_fields
abbrev acb:=@PySem.wpAny_setField_rec
abbrev acd:=@PySem.wpAny_seqItems
abbrev ace:=@PySem.wpAny_setField
abbrev acf:=@List.pairwise_iff_getElem
abbrev acg:=@PySem.Around.under_plainId
abbrev ach:=@Array.getElem_toList
abbrev aci:=@PySem.wpAny_passesOwn
abbrev acj:=@List.length_nil
abbrev ack:=@List.flatten_cons
abbrev acm:=@beq_eq_false_iff_ne
abbrev acn:=@PySem.mem_of_lookup
abbrev aco:=@Int.eq_ofNat_of_zero_le
abbrev acp:=@beq_iff_eq
abbrev acq:=@PySem.Heap.get?_update_other
abbrev acr:=@PySem.wpAny_pyIter_tuple
abbrev acs:=@Nat.le_of_eq
abbrev acu:=@List.append_nil
abbrev acv:=@PySem.codeAny_mono
abbrev acw:=@List.nodup_cons
abbrev acx:=@List.length_replicate
abbrev acy:=@PySem.codeAny_builtin
abbrev acz:=@List.map_map
abbrev acA:=@PyProof.Rows.boot_int
abbrev acB:=@List.append_assoc
abbrev acC:=@PySem.W.looks_pair
abbrev acD:=@Ne.symm
abbrev acE:=@List.mem_append_left
abbrev acF:=@PySem.F.args_object_init_3
abbrev acG:=@List.mem_iff_getElem
abbrev acH:=@Decidable.of_not_not
abbrev acI:=@List.mem_of_mem_take
abbrev acJ:=@PyProof.Rows.F.entry_set_update_loop
abbrev acK:=@List.filter_cons
abbrev acL:=@List.filterMap_cons
abbrev acM:=@List.filter_sublist
abbrev acN:=@List.map_nil
abbrev acO:=@PySem.F.args_tuple_add_2
abbrev acP:=@PySem.wpAny_rule
abbrev acQ:=@PySem.W.Fast.te5923862056798008813
abbrev acR:=@Bool.eq_iff_iff
abbrev acS:=@PySem.F.entry_tuple_add
abbrev acT:=@if_true
abbrev acU:=@Nat.lt_of_le_of_lt
abbrev acV:=@Bool.false_eq_true
abbrev acW:=@List.map_take
abbrev acX:=@List.map_drop
abbrev acY:=@PySem.F.slot_tuple_add
abbrev acZ:=@List.length_pos_of_mem
abbrev ac0:=@PySem.Obj.cls_mapFields
abbrev ac1:=@or_false
abbrev ac2:=@List.Perm.refl
abbrev ac3:=@PyProof.Rows.callWith_builtin1
abbrev ac4:=@List.take_append_drop
abbrev ac5:=@List.Pairwise.sublist
abbrev ac6:=@Nat.succ.inj
abbrev ac7:=@Nat.min_le_right
abbrev ac8:=@PySem.F.typeCall_zip_2
abbrev ac9:=@List.getElem_map
abbrev ada:=@List.exists_mem_of_length_pos
abbrev adb:=@PySem.wpAny_updateSeq_pair
abbrev ade:=@Array.toArray_toList
abbrev adf:=@List.replicate_succ'
abbrev adg:=@PySem.plainId_quiet
abbrev adh:=@PySem.wpAny_execs_nil
abbrev adi:=@PySem.W.plainGet_of
abbrev adj:=@PySem.F.slot_zip_next
abbrev adk:=@PySem.F.newCall_zip_2
abbrev adl:=@PySem.F.entry_zip_new
abbrev adm:=@List.take_succ_cons
abbrev adn:=@Nat.min_eq_left
abbrev ado:=@List.length_pos_iff
abbrev adp:=@List.map_eq_nil_iff
abbrev adq:=@List.filter_map
abbrev ads:=@List.getElem?_append_right
abbrev adt:=@List.mem_filterMap
abbrev adu:=@PySem.Calls.spliced_cons
abbrev adv:=@PySem.W.callWith_K
abbrev adw:=@PySem.wpAny_typeOf
abbrev adx:=@List.getElem?_append_left
abbrev ady:=@PySem.F.slot_dict_getitem
abbrev adz:=@List.drop_eq_getElem_cons
abbrev adA:=@List.mem_or_eq_of_mem_set
abbrev adB:=@PySem.F.plain_extend_loop
abbrev adC:=@PySem.Calls.spliced_nil
abbrev adD:=@List.getElem?_take_of_lt
abbrev adE:=@Nat.lt_succ_of_lt
abbrev adF:=@PyProof.Rows.boot_sorted
abbrev adG:=@PySem.F.slot_dict_update
abbrev adH:=@List.find?_append
abbrev adI:=@Decidable.not_not
abbrev adJ:=@List.count_append
abbrev adK:=@PySem.W.piece_app
abbrev adL:=@PySem.W.segRun_of
abbrev adM:=@PySem.wpAny_standAt
abbrev adN:=@if_false
abbrev adO:=@PySem.wpAny_onRaise
abbrev adP:=@PySem.wpAny_attempt
abbrev adQ:=@beq_self_eq_true
abbrev adR:=@List.getElem_set
abbrev adS:=@List.ext_getElem
abbrev adT:=@decide_eq_decide
abbrev adU:=@List.of_mem_zip
abbrev adV:=@List.length_set
abbrev adW:=@List.nil_append
abbrev adX:=@List.forIn_cons
abbrev adY:=@PySem.callType_new
abbrev adZ:=@PySem.F.called_zip
abbrev ad0:=@List.length_zip
abbrev ad1:=@List.map_set
abbrev ad2:=@List.any_map
abbrev ad3:=@PySem.call_meets
abbrev ad4:=@PySem.intKind_is
abbrev ad5:=@List.forIn_nil
namespace L2
open PySem
def defArgs(s:Stmt):Arguments:=match s with
 | .FunctionDef _ a _ _ _ _ _ _ _ _=>a
 | _=>{ posonlyargs:=[],args:=[],vararg:=none,kwonlyargs:=[],kw_defaults:=[],kwarg:=none,defaults:=[] }
def defBody(s:Stmt):List Stmt:=match s with
 | .FunctionDef _ _ b _ _ _ _ _ _ _=>b
 | _=>[]
def defScope(s:Stmt):Scope:=match s with
 | .FunctionDef _ _ _ _ _ _ sc _ _ _=>sc
 | _=>{ kind:=.function,names:=[],isGenerator:=false,isCoroutine:=false }
end L2
namespace T1
open PySem
def top(i:Nat):Stmt:=PySem.Challenge.pw_twomakes_k28_right_ones_stay_right.main.body.getD i (.Pass ⟨0,0,0,0⟩)
noncomputable def Z0:ul->Nat->Stmt
 | x::_,0=>x
 | _::r,n+1=>Z0 r n
 | [],_=>.Pass ⟨0,0,0,0⟩
noncomputable def met(j i:Nat):Stmt:=match top j with
 | .ClassDef _ _ _ b _ _ _ _ _ _ _=>Z0 b i
 | x=>x
end T1
section
open PySem PySem.W
namespace HD
open L2 T1 PySem.W.Fast
abbrev O:=Params->Obj
noncomputable def evn:List O->List O
 | a::_::r=>a::evn r
 | x=>x
noncomputable def bt(P:Params):Nat->List O->BT
 | k+1,f::r=>.node (f P) (bt P k (evn r)) (bt P k (evn (r.drop 1)))
 | _,_=>.nil
def i(n:Int):Value:=.int n 0
def r(n:Nat):Value:=.ref n
def e(P:Params)(x:Str)(t:Nat)(v:Value):DictEntry:=⟨PyData.keyHash P x,.str x t,v⟩
noncomputable def fn(n q:Str)(s:Stmt)(g:Nat)(d m c:Value):FuncData:=⟨n,q,defArgs s,.stmts (defBody s),defScope s,g,[],d,.none,.none,m,none,c,.none,0⟩
noncomputable def fo(n q:Str)(s:Stmt)(g:Nat)(d m c:Value):Obj:=⟨.type "function",none,.func (fn n q s g d m c),#[]⟩
noncomputable def fz(n q:Str)(s:Stmt):Obj:=⟨.none,none,.func (fn n q s 0 .none .none .none),#[]⟩
def tu(l:Array Value):Obj:=⟨.type "tuple",none,.seq l 0,#[]⟩
noncomputable def co(n q:Str)(t u:Nat)(l:List Value):Obj:=⟨.type "code",none,.fields (.str n t::.str q (t+1)::.str "/claim/cut.py" (t+2)::(l++[.str "/claim/cut.py" u])).toArray,#[]⟩
def mo0:Value:=.str "__main__" 164
def mo1:Value:=.str "twomakes.mills" 262
def mo2:Value:=.str "twomakes.rules" 352
def mo3:Value:=.str "twomakes.plain" 422
def mo4:Value:=.str "twomakes.things" 466
def mo5:Value:=.str "twomakes.holder" 475
def mo6:Value:=.str "law_twomakes_k28_right_ones_stay_right" 713
section
local macro_rules
 | `(#synth $n:num [$xs,*])=>do
  let w (k:Nat):Lean.Term:=Lean.quote k
  let mut ys:Array Lean.Term:=#[]
  for x in xs.getElems do
   match x with
   | `(($q:str,$s,[$as,*],$t:num,$l,$a,$f,$b:num,$m)) =>
    let n:Lean.Term:=Lean.quote ((q.getString.splitOn ".").getLast!)
    let T:=t.getNat
    let B:=b.getNat
    let z:=as.getElems
    let k:=z.size
    if k > 0 then
     let g <- z.mapIdxM fun j y=>`(.str $y $(w (T+3+j)))
     ys:=ys.push (<- `(tu #[$g,*]))
    ys:=ys.push (<- `(fz $n $q ($s)))
    let g <- if k > 0 then `([r $(w (B+2)),r $(w (B+3)),r $(w (B+4))])else `([.none,.none,r $(w (B+2))])
    ys:=ys.push (<- `(co $n $q $t $(w (T+4+k)) ([i $l,i $a,i 0,i 0,i $f,r $b,.bool true,i 181,r $(w (B+1)),.none]++$g++[i $(w (T+3+k)),i $l])))
    ys:=ys.push (<- `(fo $n $q ($s) 3 .none $m (r $(w (if k > 0 then B+5 else B+3)))))
   | _=>ys:=ys.push x
  let c <- ys.mapIdxM fun j x=>`(noncomputable def $(Lean.mkIdent (.mkSimple s!"a{n.getNat + j}")):ident:=((fun $(Lean.mkIdent `P)=>$x):O))
  return Lean.mkNullNode c
#synth 11 [tu #[],
⟨.none,none,.fields #[],#[]⟩,
co "<module>" "<module>" 182 186 [i 1,i 0,i 0,i 0,i 0,r 11,.bool false,i 181,r 12,.none,.none,.none,.none,i 185,i 1],
⟨.type "frame",none,.plain,#[some (r 13),some (r 3),some (r 3),none,some mo0,none,some (r 0)]⟩,
tu #[],
tu #[],
("_wall",top 0,["k"],187,1,1,3,15,mo0),
tu #[.type "ValueError"],
⟨.type "builtin_function_or_method",none,.fields #[.builtin "type.__prepare__",.type "type"],#[]⟩,
⟨.type "dict",none,.dict #[e P "__module__" 203 (.str "twomakes.errors" 194),e P "__qualname__" 205 (.str "MakeError" 204),e P "__firstlineno__" 207 (.int 5 206),e P "__static_attributes__" 208 (r 29)] 4,#[]⟩,
co "MakeError" "MakeError" 198 202 [i 5,i 0,i 0,i 0,i 0,r 25,.bool false,i 181,r 26,.none,.none,.none,.none,i 201,i 5],
⟨.type "frame",none,.plain,#[some (r 27),some (r 3),some (r 24),none,some (.str "twomakes.errors" 194),none,some (r 0)]⟩,
⟨.type "dict",none,.dict #[e P "__module__" 203 (.str "twomakes.errors" 194),e P "__firstlineno__" 207 (.int 5 206),e P "__static_attributes__" 208 (r 29),e P "__weakref__" 210 (r 32),e P "__doc__" 211 .none] 3,#[]⟩,
⟨.type "type",none,.cls ⟨"MakeError",[.type "ValueError"],[r 31,.type "ValueError",.type "Exception",.type "BaseException",.type "object"],30, "MakeError",true,[],[r 44],false,none,false⟩,#[some (r 22),none,some (.str "MakeError" 196),some (.str "MakeError" 204),some (.builtin "ValueError.__new__"),some (.bool true)]⟩,
⟨.type "getset_descriptor",none,.fields #[.str "__weakref__" 209,r 31,.builtin "ExceptionGroup.__weakref__",.none],#[]⟩,
⟨.type "super",none,.fields #[r 31,r 31,r 31],#[]⟩,
⟨.type "builtin_function_or_method",none,.fields #[.builtin "object.__init_subclass__",r 31],#[]⟩,
tu #[r 31],
⟨.type "dict",none,.dict #[e P "__module__" 221 (.str "twomakes.errors" 194),e P "__qualname__" 223 (.str "Resting" 222),e P "__firstlineno__" 225 (.int 7 224),e P "__static_attributes__" 226 (r 42)] 4,#[]⟩,
co "Resting" "Resting" 216 220 [i 7,i 0,i 0,i 0,i 0,r 38,.bool false,i 181,r 39,.none,.none,.none,.none,i 219,i 7],
⟨.type "frame",none,.plain,#[some (r 40),some (r 3),some (r 37),none,some (.str "twomakes.errors" 194),none,some (r 0)]⟩,
⟨.type "dict",none,.dict #[e P "__module__" 221 (.str "twomakes.errors" 194),e P "__firstlineno__" 225 (.int 7 224),e P "__static_attributes__" 226 (r 42),e P "__doc__" 227 .none] 2,#[]⟩,
⟨.type "type",none,.cls ⟨"Resting",[r 31],[r 44,r 31,.type "ValueError",.type "Exception",.type "BaseException",.type "object"],43, "Resting",true,[],[],false,none,false⟩,#[some (r 35),none,some (.str "Resting" 214),some (.str "Resting" 222),some (.builtin "ValueError.__new__"),some (.bool true)]⟩,
⟨.type "super",none,.fields #[r 44,r 44,r 44],#[]⟩,
⟨.type "builtin_function_or_method",none,.fields #[.builtin "object.__init_subclass__",r 44],#[]⟩,
tu #[],
tu #[],
⟨.type "type",none,.cls ⟨"MakeError",[.type "ValueError"],[r 31,.type "ValueError",.type "Exception",.type "BaseException",.type "object"],30, "MakeError",true,[],[r 44,r 56,r 68],false,none,false⟩,#[some (r 22),none,some (.str "MakeError" 196),some (.str "MakeError" 204),some (.builtin "ValueError.__new__"),some (.bool true)]⟩,
⟨.type "dict",none,.dict #[e P "__module__" 237 (.str "twomakes.errors" 194),e P "__qualname__" 239 (.str "NoBell" 238),e P "__firstlineno__" 241 (.int 9 240),e P "__static_attributes__" 242 (r 54)] 4,#[]⟩,
co "NoBell" "NoBell" 232 236 [i 9,i 0,i 0,i 0,i 0,r 50,.bool false,i 181,r 51,.none,.none,.none,.none,i 235,i 9],
⟨.type "frame",none,.plain,#[some (r 52),some (r 3),some (r 49),none,some (.str "twomakes.errors" 194),none,some (r 0)]⟩,
⟨.type "dict",none,.dict #[e P "__module__" 237 (.str "twomakes.errors" 194),e P "__firstlineno__" 241 (.int 9 240),e P "__static_attributes__" 242 (r 54),e P "__doc__" 243 .none] 2,#[]⟩,
⟨.type "type",none,.cls ⟨"NoBell",[r 31],[r 56,r 31,.type "ValueError",.type "Exception",.type "BaseException",.type "object"],55, "NoBell",true,[],[],false,none,false⟩,#[some (r 47),none,some (.str "NoBell" 230),some (.str "NoBell" 238),some (.builtin "ValueError.__new__"),some (.bool true)]⟩,
⟨.type "super",none,.fields #[r 56,r 56,r 56],#[]⟩,
⟨.type "builtin_function_or_method",none,.fields #[.builtin "object.__init_subclass__",r 56],#[]⟩,
⟨.type "dict",none,.dict #[e P "__module__" 253 (.str "twomakes.errors" 194),e P "__qualname__" 255 (.str "Shut" 254),e P "__firstlineno__" 257 (.int 11 256),e P "__static_attributes__" 258 (r 66)] 4,#[]⟩,
co "Shut" "Shut" 248 252 [i 11,i 0,i 0,i 0,i 0,r 62,.bool false,i 181,r 63,.none,.none,.none,.none,i 251,i 11],
⟨.type "frame",none,.plain,#[some (r 64),some (r 3),some (r 61),none,some (.str "twomakes.errors" 194),none,some (r 0)]⟩,
⟨.type "dict",none,.dict #[e P "__module__" 253 (.str "twomakes.errors" 194),e P "__firstlineno__" 257 (.int 11 256),e P "__static_attributes__" 258 (r 66),e P "__doc__" 259 .none] 2,#[]⟩,
⟨.type "type",none,.cls ⟨"Shut",[r 31],[r 68,r 31,.type "ValueError",.type "Exception",.type "BaseException",.type "object"],67, "Shut",true,[],[],false,none,false⟩,#[some (r 59),none,some (.str "Shut" 246),some (.str "Shut" 254),some (.builtin "ValueError.__new__"),some (.bool true)]⟩,
⟨.type "super",none,.fields #[r 68,r 68,r 68],#[]⟩,
⟨.type "builtin_function_or_method",none,.fields #[.builtin "object.__init_subclass__",r 68],#[]⟩,
tu #[],
tu #[],
⟨.type "dict",none,.dict #[e P "put" 268 (r 72),e P "sum" 271 (r 73),e P "mul" 275 (r 74),e P "less" 279 (r 75),e P "take" 283 (r 76),e P "lay" 287 (r 77),e P "go" 291 (r 78),e P "shut" 294 (r 79),e P "open" 295 (r 80),e P "home" 296 (r 81)] 10,#[]⟩,
tu #[.str "d" 269,.str "worth" 270],
tu #[.str "d" 272,.str "a" 273,.str "b" 274],
tu #[.str "d" 276,.str "a" 277,.str "b" 278],
tu #[.str "d" 280,.str "a" 281,.str "b" 282],
tu #[.str "d" 284,.str "a" 285,.str "n" 286],
tu #[.str "b" 288,.str "a" 289,.str "n" 290],
tu #[.str "a" 292,.str "p" 293],
tu #[.str "mul" 308,.str "take" 309],
("wrapped",top 11,["number"],311,18,1,3,83,mo1),
("cell_at",top 12,["worth", "n"],318,20,2,3,90,mo1),
("spots_read",top 13,["row", "spots", "part", "number"],326,22,1,3,97,mo1),
("spot_written",top 14,["row", "part", "number"],336,28,1,3,104,mo1),
("is_slow",top 15,["row"],345,33,1,3,111,mo1),
("worth_got",top 17,["row", "spots", "cells", "word", "one", "other"],354,36,3,3,118,mo2),
("what_it_writes",top 18,["row", "spots", "cells", "spot"],366,49,3,3,125,mo2),
("place_behind",top 19,["row", "place", "spots", "kept"],376,56,4,3,132,mo2),
("is_shut_behind",top 20,["row", "shut"],386,62,2,3,139,mo2),
tu #[],
tu #[],
("kept_behind",top 21,["row", "kept"],394,68,2,3,146,mo2),
("is_bell",top 22,["mill", "k"],402,70,2,3,153,mo2),
("bells_rung",top 23,[],410,72,2,3,160,mo2),
("bells_waiting",top 24,[],416,74,3,3,165,mo2),
("rests",top 26,["mill", "state"],424,78,2,3,170,mo3),
("with_written",top 27,["worths", "kind", "wrote", "at"],432,80,3,3,177,mo3),
("step",top 28,["mill", "state", "place", "spots", "cells", "kept", "row", "wrote", "behind"],442,85,2,3,184,mo3),
("bell",top 29,["mill", "state", "k"],457,96,3,3,191,mo3),
("thing_of",top 31,["wrote"],468,103,1,3,198,mo4),
tu #[],
tu #[],
⟨.type "dict",none,.dict #[e P "__module__" 484 mo5,e P "__qualname__" 486 (.str "Holder" 485),e P "__firstlineno__" 488 (.int 106 487),e P "__init__" 499 (r 218),e P "tell" 507 (r 225),e P "first_broken" 513 (r 230),e P "broken_by_end" 519 (r 235),e P "broken_by_wrote" 530 (r 242),e P "broken_by_late" 536 (r 247),e P "broken_by_down" 544 (r 254),e P "broken_by_bell" 553 (r 261),e P "row_now" 560 (r 268),e P "waiting_by" 568 (r 275),e P "is_pressed" 576 (r 282),e P "ends_at" 584 (r 289),e P "take_up" 590 (r 294),e P "take_end" 601 (r 301),e P "take_bell" 609 (r 308),e P "state_now" 616 (r 315),e P "owes" 623 (r 322),e P "lies" 630 (r 329),e P "rings_now" 637 (r 336),e P "all_over" 644 (r 343),e P "parted" 651 (r 350),e P "way_on" 659 (r 357),e P "twin" 666 (r 364),e P "event_on" 673 (r 371),e P "__static_attributes__" 692 (r 372)] 28,#[]⟩,
⟨.none,none,.fields #[i 108,i 4,r 217,i 128,i 4,r 224,i 135,i 4,r 229,i 149,i 4,r 234,i 164,i 4,r 241,i 181,i 4,r 246,i 187,i 4,r 253,i 194,i 4,r 260,i 202,i 4,r 267,i 205,i 4,r 274,i 208,i 4,r 281,i 211,i 4,r 288,i 214,i 4,r 293,i 228,i 4,r 300,i 240,i 4,r 307,i 245,i 4,r 314,i 248,i 4,r 321,i 251,i 4,r 328,i 254,i 4,r 335,i 257,i 4,r 342,i 260,i 4,r 349,i 263,i 4,r 356,i 266,i 4,r 363,i 269,i 4,r 370],#[]⟩,
co "Holder" "Holder" 479 483 [i 106,i 0,i 0,i 0,i 0,r 208,.bool false,i 181,r 209,.none,.none,.none,.none,i 482,i 106],
⟨.type "frame",none,.plain,#[some (r 210),some (r 3),some (r 207),none,some mo5,none,some (r 0)]⟩,
("Holder.__init__",met 33 0,["self", "mill", "state", "rings", "terms"],489,108,5,3,212,mo5),
("Holder.tell",met 33 1,["self", "event"],500,128,2,3,219,mo5),
("Holder.first_broken",met 33 2,[],508,135,2,3,226,mo5),
("Holder.broken_by_end",met 33 3,[],514,149,2,3,231,mo5),
("Holder.broken_by_wrote",met 33 4,["self", "row", "wrote", "right", "is_owed"],520,164,3,3,236,mo5),
("Holder.broken_by_late",met 33 5,[],531,181,2,3,243,mo5),
("Holder.broken_by_down",met 33 6,["self", "event"],537,187,2,3,248,mo5),
("Holder.broken_by_bell",met 33 7,["self", "event", "waiting"],545,194,2,3,255,mo5),
("Holder.row_now",met 33 8,["self"],554,202,1,3,262,mo5),
("Holder.waiting_by",met 33 9,["self", "beat"],561,205,2,3,269,mo5),
("Holder.is_pressed",met 33 10,["self", "beat"],569,208,2,3,276,mo5),
("Holder.ends_at",met 33 11,["self", "beat"],577,211,2,3,283,mo5),
("Holder.take_up",met 33 12,[],585,214,2,3,290,mo5),
("Holder.take_end",met 33 13,["self", "beat", "wrote", "done", "right"],591,228,3,3,295,mo5),
("Holder.take_bell",met 33 14,["self", "k"],602,240,2,3,302,mo5),
("Holder.state_now",met 33 15,["self"],610,245,1,3,309,mo5),
("Holder.owes",met 33 16,["self"],617,248,1,3,316,mo5),
("Holder.lies",met 33 17,["self"],624,251,1,3,323,mo5),
("Holder.rings_now",met 33 18,["self"],631,254,1,3,330,mo5),
("Holder.all_over",met 33 19,["self"],638,257,1,3,337,mo5),
("Holder.parted",met 33 20,["self"],645,260,1,3,344,mo5),
("Holder.way_on",met 33 21,["self", "m"],652,263,2,3,351,mo5),
("Holder.twin",met 33 22,["self"],660,266,1,3,358,mo5),
("Holder.event_on",met 33 23,["self"],667,269,1,3,365,mo5),
tu #[.str "beat" 674,.str "cause" 675,.str "ends" 676,.str "ends_of_beat" 677,.str "events" 678,.str "laid" 679,.str "longest" 680,.str "mill" 681,.str "owed" 682,.str "patience" 683,.str "pressed" 684,.str "queue" 685,.str "rings" 686,.str "room" 687,.str "state" 688,.str "taken" 689,.str "terms" 690,.str "width" 691],
⟨.type "dict",none,.dict #[e P "__module__" 484 mo5,e P "__firstlineno__" 488 (.int 106 487),e P "__init__" 499 (r 218),e P "tell" 507 (r 225),e P "first_broken" 513 (r 230),e P "broken_by_end" 519 (r 235),e P "broken_by_wrote" 530 (r 242),e P "broken_by_late" 536 (r 247),e P "broken_by_down" 544 (r 254),e P "broken_by_bell" 553 (r 261),e P "row_now" 560 (r 268),e P "waiting_by" 568 (r 275),e P "is_pressed" 576 (r 282),e P "ends_at" 584 (r 289),e P "take_up" 590 (r 294),e P "take_end" 601 (r 301),e P "take_bell" 609 (r 308),e P "state_now" 616 (r 315),e P "owes" 623 (r 322),e P "lies" 630 (r 329),e P "rings_now" 637 (r 336),e P "all_over" 644 (r 343),e P "parted" 651 (r 350),e P "way_on" 659 (r 357),e P "twin" 666 (r 364),e P "event_on" 673 (r 371),e P "__static_attributes__" 692 (r 372),e P "__dict__" 694 (r 375),e P "__weakref__" 696 (r 376),e P "__doc__" 697 .none] 4,#[]⟩,
⟨.type "type",none,.cls ⟨"Holder",[.type "object"],[r 374,.type "object"],373, "Holder",true,[],[],false,none,false⟩,#[none,none,some (.str "Holder" 477),some (.str "Holder" 485),some (.builtin "object.__new__"),some (.bool true)]⟩,
⟨.type "getset_descriptor",none,.fields #[.str "__dict__" 693,r 374,.builtin "function.__dict__",.builtin "function.__dict__#set"],#[]⟩,
⟨.type "getset_descriptor",none,.fields #[.str "__weakref__" 695,r 374,.builtin "ExceptionGroup.__weakref__",.none],#[]⟩,
⟨.type "super",none,.fields #[r 374,r 374,r 374],#[]⟩,
⟨.type "builtin_function_or_method",none,.fields #[.builtin "object.__init_subclass__",r 374],#[]⟩,
tu #[],
tu #[],
("parting",top 34,["mill", "state", "rings", "terms", "diary", "holder", "event"],700,271,5,3,379,mo5),
("_law_bag",top 36,["script", "great", "fold", "cell"],715,278,1,3,386,mo6),
("_law_draw",top 37,["bag", "many", "great", "one", "mixed"],725,288,2,3,393,mo6),
("_law_far",top 38,["bag", "far", "k"],736,299,1,3,400,mo6),
("_law_worth",top 39,["bag", "kind"],745,304,1,3,407,mo6),
("_law_row",top 40,["bag", "many", "spots", "kind", "d", "a", "b", "n"],753,311,3,3,414,mo6),
("_law_mill",top 41,[],767,326,1,3,421,mo6),
("_law_state",top 42,[],773,331,2,3,426,mo6),
("_law_rings",top 43,["bag", "mill", "base", "rings", "turn", "at"],779,337,3,3,431,mo6),
("_law_terms",top 44,["bag", "small", "k"],791,344,1,3,438,mo6),
("_law_due",top 45,["row", "now", "spots", "one", "other", "worths"],800,350,2,3,445,mo6),
("_law_goes",top 46,["row", "now", "wrote", "after"],812,364,2,3,452,mo6),
("_law_waits",top 47,[],822,379,3,3,459,mo6),
("_law_begin",top 48,["state", "found", "more"],828,386,1,3,464,mo6),
("_law_end_cause",top 49,[],837,391,5,3,471,mo6),
("_law_cause",top 50,[],843,418,5,3,476,mo6),
⟨.type "dict",none,.dict #[e P "__name__" 165 mo6,e P "__doc__" 166 .none,e P "__package__" 167 .none,e P "__loader__" 168 (.builtin "__main__.__loader__#opaque"),e P "__spec__" 169 .none,e P "__annotations__" 170 (r 6),e P "__builtins__" 171 (r 4),e P "__file__" 173 (.str "/claim/cut.py" 172),e P "__cached__" 174 .none,e P "_wall" 193 (r 21),e P "MakeError" 213 (r 31),e P "Resting" 229 (r 44),e P "NoBell" 245 (r 56),e P "Shut" 261 (r 68),e P "CELLS" 265 (.int 16 264),e P "WORTHS" 267 (.int 4294967296 266),e P "PARTS" 307 (r 71),e P "SLOW_WORDS" 310 (r 82),e P "wrapped" 317 (r 89),e P "cell_at" 325 (r 96),e P "spots_read" 335 (r 103),e P "spot_written" 344 (r 110),e P "is_slow" 351 (r 117),e P "worth_got" 365 (r 124),e P "what_it_writes" 375 (r 131),e P "place_behind" 385 (r 138),e P "is_shut_behind" 393 (r 145),e P "kept_behind" 401 (r 152),e P "is_bell" 409 (r 159),e P "bells_rung" 415 (r 164),e P "bells_waiting" 421 (r 169),e P "rests" 431 (r 176),e P "with_written" 441 (r 183),e P "step" 456 (r 190),e P "bell" 465 (r 197),e P "thing_of" 474 (r 204),e P "Holder" 699 (r 374),e P "parting" 712 (r 385),e P "_law_bag" 724 (r 392),e P "_law_draw" 735 (r 399),e P "_law_far" 744 (r 406),e P "_law_worth" 752 (r 413),e P "_law_row" 766 (r 420),e P "_law_mill" 772 (r 425),e P "_law_state" 778 (r 430),e P "_law_rings" 790 (r 437),e P "_law_terms" 799 (r 444),e P "_law_due" 811 (r 451),e P "_law_goes" 821 (r 458),e P "_law_waits" 827 (r 463),e P "_law_begin" 836 (r 470),e P "_law_end_cause" 842 (r 475),e P "_law_cause" 848 (r 480),e P "_law_take_up" 854 (r 485),e P "_law_sure" 867 (r 492),e P "_law_some" 886 (r 499),e P "_law_tale" 901 (r 506),e P "_law_taken_rings" 907 (r 511),e P "_law_later" 913 (r 516),e P "_law_right" 921 (r 523),e P "_law_asked" 936 (r 530),e P "_law_beginnings" 952 (r 537),e P "law" 958 (r 542)] 63,#[]⟩,
⟨.none,none,.fields #[i 1,i 0,r 20,i 5,i 0,r 27,i 7,i 0,r 40,i 9,i 0,r 52,i 11,i 0,r 64,i 18,i 0,r 88,i 20,i 0,r 95,i 22,i 0,r 102,i 28,i 0,r 109,i 33,i 0,r 116,i 36,i 0,r 123,i 49,i 0,r 130,i 56,i 0,r 137,i 62,i 0,r 144,i 68,i 0,r 151,i 70,i 0,r 158,i 72,i 0,r 163,i 74,i 0,r 168,i 78,i 0,r 175,i 80,i 0,r 182,i 85,i 0,r 189,i 96,i 0,r 196,i 103,i 0,r 203,i 106,i 0,r 210,i 271,i 0,r 384,i 278,i 0,r 391,i 288,i 0,r 398,i 299,i 0,r 405,i 304,i 0,r 412,i 311,i 0,r 419,i 326,i 0,r 424,i 331,i 0,r 429,i 337,i 0,r 436,i 344,i 0,r 443,i 350,i 0,r 450,i 364,i 0,r 457,i 379,i 0,r 462,i 386,i 0,r 469,i 391,i 0,r 474,i 418,i 0,r 479,i 443,i 0,r 484,i 467,i 0,r 491,i 482,i 0,r 498,i 503,i 0,r 505,i 512,i 0,r 510,i 518,i 0,r 515,i 520,i 0,r 522,i 528,i 0,r 529,i 533,i 0,r 536,i 544,i 0,r 541],#[]⟩,
("_law_take_up",top 51,[],849,443,4,3,481,mo6),
("_law_sure",top 52,["mill", "rings", "terms", "now", "beat", "resting", "waits"],855,467,4,3,486,mo6),
("_law_some",top 53,["bag", "mill", "rings", "terms", "now", "base", "beat", "pick", "waits", "event", "one", "row", "wrote"],868,482,6,3,493,mo6),
("_law_tale",top 54,["bag", "mill", "rings", "terms", "now", "base", "diary", "turn", "event"],887,503,6,3,500,mo6),
("_law_taken_rings",top 55,[],902,512,2,3,507,mo6),
("_law_later",top 56,[],908,518,2,3,512,mo6),
("_law_right",top 57,["found", "due"],914,520,2,3,517,mo6),
("_law_asked",top 58,["mill", "state", "rings", "terms", "diary", "due", "told", "handed", "found"],922,528,6,3,524,mo6),
("_law_beginnings",top 59,["bag", "mill", "state", "rings", "terms", "diary", "due", "turn", "size", "told"],937,533,7,3,531,mo6),
("law",top 60,[],953,544,1,3,538,mo6)]
end
section
local macro_rules
 | `(#[$k:num])=>do
  let mut x:Array Lean.Term:=#[]
  let mut d:Array Lean.Term:=#[]
  let mut v:Lean.Term <- `([])
  let mut u:Array (Nat×Lean.Term):=#[]
  let mut m:=0
  for c in "b- b- b 305 b- b- b- b- b- b- b- 11- n- 13- 14- 11 12- 17 11 18- 19 20 21 22- 23- 11- 12- 24- 25- 11 26 41 28 29- 30- 31 22- 32- 11- 12- 33- 34- 11 35 36 37- 38- 31 22- 42- 11- 12- 43- 44- 11 45 46 47- 48- 31 22- 49- 11- 12- 50- 51- 11 52 53 54- 55- 58 59 60 61 62 63 64 65 11 11 11 66 11 12- 67 11 68- 69 70 11 12- 71 11 72- 73 74 11 12- 75 11 76- 77 78 11 12- 79 11 80- 81 82 11 12- 83 11 84- 85 86 11 12- 87 11 88- 89 90 11 12- 91 11 92- 93 94 11 12- 95 11 96- 97 98 11 12- 99 11 100- 101 102 11 12- 105 11 106- 107 108 11 12- 109 11 110- 111 112 11 12- 113- 114 115 11 12- 116- 117 118 11 12- 119 11 120- 121 122 11 12- 123 11 124- 125 126 11 12- 127 11 128- 129 130 11 12- 131 11 132- 133 134 11 12- 135 11 136- 137 138 11- 22- 141- 11- 142- 143- 144- 11 12- 145 11 146- 147 148 11 12- 149 11 150- 151 152 11 12- 153- 154 155 11 12- 156- 157 158 11 12- 159 11 160- 161 162 11 12- 163- 164 165 11 12- 166 11 167- 168 169 11 12- 170 11 171- 172 173 11 12- 174 11 175- 176 177 11 12- 178 11 179- 180 181 11 12- 182 11 183- 184 185 11 12- 186 11 187- 188 189 11 12- 190- 191 192 11 12- 193 11 194- 195 196 11 12- 197 11 198- 199 200 11 12- 201 11 202- 203 204 11 12- 205 11 206- 207 208 11 12- 209 11 210- 211 212 11 12- 213 11 214- 215 216 11 12- 217 11 218- 219 220 11 12- 221 11 222- 223 224 11 12- 225 11 226- 227 228 11 12- 229 11 230- 231 232 11 12- 233 11 234- 235 236 237 238 239 240 241 242- 243- 11 12- 246 11 247- 248 249 11 12- 250 11 251- 252 253 11 12- 254 11 255- 256 257 11 12- 258 11 259- 260 261 11 12- 262 11 263- 264 265 11 12- 266 11 267- 268 269 11 12- 270- 271 272 11 12- 273- 274 275 11 12- 276 11 277- 278 279 11 12- 280 11 281- 282 283 11 12- 284 11 285- 286 287 11 12- 288 11 289- 290 291 11 12- 292- 293 294 11 12- 295 11 296- 297 298 11 12- 299- 300 301 11 12- 302- 303 304 11 12- n- n n 11 12- n 11 n- n n 11 12- n 11 n- n n 11 12- n 11 n- n n 11 12- n- n n 11 12- n- n n 11 12- n 11 n- n n 11 12- n 11 n- n n 11 12- n 11 n- n n 11 12- n- n n".splitOn " " do
   let e:=c.takeWhile (· != '-')
   let j:=x.size
   let w:=if e == "n" then m+1 else e.toNat?.getD 0
   m:=max m w
   let o:Lean.Term:=Lean.mkIdent (.mkSimple (if e == "b" then s!"boot_o_{j}" else s!"a{w}"))
   x:=x.push o
   if e == c then
    u:=u.push (j,o)
  for (j,o) in u.reverse do
   v <- `((nat_lit $(Lean.Syntax.mkNumLit s!"{j}"),$o $(Lean.mkIdent `P))::$v)
  d:=u.map fun y=>Lean.quote y.1
  if k.getNat == 0 then `([$x,*])else if k.getNat == 1 then return v else `([$d,*])
noncomputable def hs:List O:=#[0]
noncomputable def K:Params->Frag:=fun P=>#[1]
noncomputable def ad:List Nat:=#[2]
end
noncomputable def q:Program:=view PySem.Challenge.pw_twomakes_k28_right_ones_stay_right [0,2,3,4,5,7,8,9,10,11,12,13,14,15,17,18,19,20,21,22,23,24,26,27,28,29,31,33,34,36,37,38,39,40,41,42,43,44,45,46,47,48,49,50,51,52,53,54,55,56,57,58,59,60]
def lo:List Str:=["PARTS"]
noncomputable abbrev _root_.PySem.W.Fast.tw14033216134835698405:Program:=PySem.Challenge.pw_twomakes_k28_right_ones_stay_right
theorem _root_.PySem.W.Fast.te14033216134835698405:PySem.Challenge.pw_twomakes_k28_right_ones_stay_right=PySem.W.Fast.tw14033216134835698405:=rfl
noncomputable abbrev pF:Program:=PySem.Challenge.pw_twomakes_k28_right_ones_stay_right
noncomputable def h0:List O:=[boot_o_0,boot_o_1,boot_o_2,boot_o_3,boot_o_4,boot_o_5,boot_o_6,boot_o_7,boot_o_8,boot_o_9,boot_o_10,a11,a12,a13,a14]
noncomputable def gd(v:Value)(k:Nat):O:=fun P=>match (a305 P).data with|.dict l _=>⟨.type "dict",none,.dict (e P "__name__" 165 v::(l.toList.drop 1).take k).toArray (k+1),#[]⟩|_=>tu #[]
noncomputable def gf(k:Nat):O:=fun P=>match (a306 P).data with|.fields l=>⟨.none,none,.fields (l.toList.take k).toArray,#[]⟩|_=>tu #[]
noncomputable def h1:List O:=(((hs.take 47).set 3 (gd (.str "twomakes.errors" 194) 11)).set 12 (gf 9)).set 31 a27
noncomputable def h2:List O:=((hs.take 71).set 3 (gd mo1 15)).set 12 (gf 15)
noncomputable def h3:List O:=((hs.take 146).set 3 (gd mo2 26)).set 12 (gf 42)
noncomputable def h4:List O:=((hs.take 205).set 3 (gd mo5 35)).set 12 (gf 69)
noncomputable def h5:List O:=((hs.take 379).set 3 (gd mo5 36)).set 12 (gf 72)
noncomputable def h6:List O:=((hs.take 481).set 3 (gd mo6 52)).set 12 (gf 120)
noncomputable def lf:Life:=⟨[],[],[],0,[],[],false,#[],[],0,false,false,false,0,[2000,10,10],false,0,true,[],[],0,false⟩
noncomputable def hA:Params->Heap:=fun P=>⟨(h0.map (· P)).toArray,lf⟩
noncomputable def hF:Params->Heap:=fun P=>⟨(hs.map (· P)).toArray,lf⟩
noncomputable def ev:Env:={ scope:=pF.main.scope,locals:=mainNs,globals:=mainNs,cells:=[],code:=r 13,frame:=some 14 }
noncomputable abbrev bF:List Stmt:=behindTheImports pF
noncomputable abbrev cF:Code:=.body bF ev
abbrev fB:List Frame:=[topFrame ⟨0,0,0,0⟩]
theorem pre(w:World)(os:OsState):topGo treeTable pF w 11 (some (r 6)) 12 ⟨boot_heap w.params,#[],boot_drawn,boot_toks,os⟩ (topStub pF)=some (⟨hA w.params,#[],⟨0,0,0,0⟩,187,os⟩,⟨denote treeTable cF,cF,⟨0,0,0,0⟩,fB⟩):=by
 rw[PySem.W.Fast.te15667345088766844465,aaR,PySem.W.Fast.te11892475500146522536];kernel_rfl
theorem blk(w:World)(os:OsState):segRun treeTable pF w 11 (some (r 6)) 1 1 ⟨hA w.params,#[],⟨0,0,0,0⟩,187,os⟩ (blockOf bF ev cF ⟨0,0,0,0⟩ fB)=some (.next,SharedT.abs ⟨bt w.params 10 h0,15,lf,#[],⟨0,0,0,0⟩,187,os⟩,cF,⟨0,0,0,0⟩):=by
 rw[PySem.W.Fast.te14374325043358763698,aaR];kernel_rfl
noncomputable def g0:List Stmt:=(bF.drop 0).take 4
theorem p0(w:World)(os:OsState):segRunT treeTable pF w 11 (some (r 6)) 1 438 ⟨bt w.params 10 h0,15,lf,#[],⟨0,0,0,0⟩,187,os⟩ (piecesOf g0 ev cF ⟨0,0,0,0⟩ fB)=some (.next,⟨bt w.params 14 h1,47,lf,#[],⟨0,0,0,0⟩,230,os⟩,cF,⟨7,0,8,8⟩):=by
 rw[aa3,aaR];kernel_rfl
noncomputable def g1:List Stmt:=(bF.drop 4).take 5
theorem p1(w:World)(os:OsState):segRunT treeTable pF w 11 (some (r 6)) 1 454 ⟨bt w.params 14 h1,47,lf,#[],⟨0,0,0,0⟩,230,os⟩ (piecesOf g1 ev cF ⟨7,0,8,8⟩ fB)=some (.next,⟨bt w.params 14 h2,71,lf,#[],⟨0,0,0,0⟩,268,os⟩,cF,⟨15,0,15,6⟩):=by
 rw[aa3,aaR];kernel_rfl
noncomputable def g2:List Stmt:=(bF.drop 9).take 12
theorem p2(w:World):∀ os:OsState,segRunT treeTable pF w 11 (some (r 6)) 1 490 ⟨bt w.params 14 h2,71,lf,#[],⟨0,0,0,0⟩,268,os⟩ (piecesOf g2 ev cF ⟨15,0,15,6⟩ fB)=some (.next,⟨bt w.params 14 h3,146,lf,#[],⟨0,0,0,0⟩,394,os⟩,cF,⟨62,0,67,15⟩):=by
 refine byRow2 "special-get-raises" (P:=fun w=>∀ os:OsState,segRunT treeTable pF w 11 (some (r 6)) 1 490 ⟨bt w.params 14 h2,71,lf,#[],⟨0,0,0,0⟩,268,os⟩ (piecesOf g2 ev cF ⟨15,0,15,6⟩ fB)=some (.next,⟨bt w.params 14 h3,146,lf,#[],⟨0,0,0,0⟩,394,os⟩,cF,⟨62,0,67,15⟩)) ?_ ?_ w
 .intro w os;rw[aa3,aaR];kernel_rfl
 .intro w os;rw[aa3,aaR];kernel_rfl
noncomputable def g3:List Stmt:=(bF.drop 21).take 12
theorem p3(w:World)(os:OsState):segRunT treeTable pF w 11 (some (r 6)) 1 299 ⟨bt w.params 14 h3,146,lf,#[],⟨0,0,0,0⟩,394,os⟩ (piecesOf g3 ev cF ⟨62,0,67,15⟩ fB)=some (.next,⟨bt w.params 14 h4,205,lf,#[],⟨0,0,0,0⟩,477,os⟩,cF,⟨105,0,105,8⟩):=by
 rw[aa3,aaR];kernel_rfl
noncomputable def g4:List Stmt:=(bF.drop 33).take 1
theorem p4(w:World)(os:OsState):segRunT treeTable pF w 11 (some (r 6)) 1 961 ⟨bt w.params 14 h4,205,lf,#[],⟨0,0,0,0⟩,477,os⟩ (piecesOf g4 ev cF ⟨105,0,105,8⟩ fB)=some (.next,⟨bt w.params 14 h5,379,lf,#[],⟨0,0,0,0⟩,700,os⟩,cF,⟨106,0,270,16⟩):=by
 rw[aa3,aaR];kernel_rfl
noncomputable def g5:List Stmt:=(bF.drop 34).take 17
theorem p5(w:World)(os:OsState):segRunT treeTable pF w 11 (some (r 6)) 1 499 ⟨bt w.params 14 h5,379,lf,#[],⟨0,0,0,0⟩,700,os⟩ (piecesOf g5 ev cF ⟨106,0,270,16⟩ fB)=some (.next,⟨bt w.params 14 h6,481,lf,#[],⟨0,0,0,0⟩,849,os⟩,cF,⟨418,0,442,15⟩):=by
 rw[aa3,aaR];kernel_rfl
noncomputable def g6:List Stmt:=(bF.drop 51).take 10
theorem p6(w:World)(os:OsState):segRunT treeTable pF w 11 (some (r 6)) 1 323 ⟨bt w.params 14 h6,481,lf,#[],⟨0,0,0,0⟩,849,os⟩ (piecesOf g6 ev cF ⟨418,0,442,15⟩ fB)=some (.next,⟨bt w.params 14 hs,543,lf,#[],⟨0,0,0,0⟩,959,os⟩,cF,⟨544,0,574,80⟩):=by
 rw[aa3,aaR];kernel_rfl
theorem fin(w:World)(os:OsState):topRun treeTable pF w 11 (some (r 6)) 2 (SharedT.abs ⟨bt w.params 14 hs,543,lf,#[],⟨0,0,0,0⟩,959,os⟩) ⟨doneF .next,cF,⟨544,0,574,80⟩,fB⟩=some ⟨hF w.params,#[],⟨0,0,0,0⟩,959,os⟩:=by
 rw[PySem.W.Fast.te14082659384304107361,aaR];kernel_rfl
theorem run(w:World)(os:OsState):topRun treeTable pF w 11 (some (r 6)) 3479 ⟨boot_heap w.params,#[],boot_drawn,boot_toks,os⟩ (topStub pF)=some ⟨hF w.params,#[],⟨0,0,0,0⟩,959,os⟩ :=
 go_top (n:=12) (N:=3467) (pre w os) (piece_block (n:=1) (N:=3466) (blk w os) (adK (n:=438) (N:=3028) (l:=g0) (adL (p0 w os)) (adK (n:=454) (N:=2574) (l:=g1) (adL (p1 w os)) (adK (n:=490) (N:=2084) (l:=g2) (adL (p2 w os)) (adK (n:=299) (N:=1785) (l:=g3) (adL (p3 w os)) (adK (n:=961) (N:=824) (l:=g4) (adL (p4 w os)) (adK (n:=499) (N:=325) (l:=g5) (adL (p5 w os)) (adK (n:=323) (N:=2) (l:=g6) (adL (p6 w os)) (fin w os)))))))))
theorem size(w:World):((boot_heap w.params).isNs mainGlobals&&(#[]:Array GenState).size == 0,(boot_heap w.params).objs.size,(boot_heap w.params).nsMap mainGlobals "__annotations__")=(true,11,some (r 6)):=by
 rw[PySem.W.Fast.te8920871248978507458];kernel_rfl
theorem opn:∀ w:World,(fencedOpening treeTable pF w 7040).map (fun s=>(s.heap,s.gens,s.drawn,s.toks))=some (boot_heap w.params,Array.mk [],boot_drawn,boot_toks) :=
 boot_open (by kernel_rfl) @1 (fun s=>by kernel_rfl)
noncomputable def KF:Params->Frag:=fun P=>ad.map fun a=>(a,(hF P).objs.getD a default)
theorem kk(P:Params):K P=KF P:=by kernel_rfl
theorem kad(P:Params):ad=(K P).map (·.1):=by kernel_rfl
noncomputable abbrev qF:Program:=q
noncomputable abbrev loF:List Str:=lo
theorem lA(w:World)(os:OsState):(staticsOk (importedModules pF.main.body) (boot_heap w.params) (hF w.params)&&namesBound pF (hF w.params)&&gensDone (⟨hF w.params,#[],⟨0,0,0,0⟩,959,os⟩:Shared)&&laidKept (boot_heap w.params) (hF w.params))=true:=by
 rw[acQ];kernel_rfl
theorem lS(w:World)(os:OsState):openSeen qF loF (importedModules pF.main.body) (fun s=>xlAt qF [] s&&recOk [] s) true (⟨hF w.params,#[],⟨0,0,0,0⟩,959,os⟩:Shared)=openGood qF loF:=by
 unfold openSeen openGood;refine acC ?_ (acC ?_ (acC ?_ (acC ?_ (acC ?_ (acC ?_ (acC ?_ (acC ?_ ?_)))))))
 all_goals ((repeat (first | rw[PySem.W.Fast.te2386780881361962483] | rw[PySem.W.Fast.te821141287760084731] | rw[PySem.W.Fast.te11698064438423848299] | rw[PySem.W.Fast.te7317090234206586261] | rw[PySem.W.Fast.te7369524293546568484] | rw[PySem.W.Fast.te5160383126252970620] | rw[PySem.W.Fast.te3399658132070893891] | rw[PySem.W.Fast.te5991557255702980513] | rw[acQ] | rw[PySem.W.Fast.te10880121769531294198] | rw[PySem.W.Fast.te7409074990110511671] | rw[PySem.W.Fast.te13664370479719496447] | rw[PySem.W.Fast.te14722251495701143533] | rw[PySem.W.Fast.te10994771534591457954] | rw[PySem.W.Fast.te16090120013241838585] | rw[PySem.W.Fast.te3247288618530077131] | rw[PySem.W.Fast.te479339242167458305]));kernel_rfl)
theorem lY(w:World)(os:OsState):ad.map (Shared.heap (⟨hF w.params,#[],⟨0,0,0,0⟩,959,os⟩:Shared)).get?=(KF w.params).map fun p=>some p.2:=by kernel_rfl
theorem left:LeftO PySem.Challenge.pw_twomakes_k28_right_ones_stay_right q lo (fun s=>xlAt q [] s&&recOk [] s) (fun s=>ad.map s.heap.get?) (fun w=>(K w.params).map fun p=>some p.2) 7040:=by
 refine LeftO.of_pieces opn size run @1 fun w=>?_;funext os;exact acC (lA w os) (acC (lS w os) ((lY w os).trans (ab4 (fun l=>List.map (fun p=>some p.2) l) (kk w.params).symm)))
end HD
open PySem PySem.W PyProof.Rows
set_option maxRecDepth 100000 in
set_option maxHeartbeats 0 in
theorem HD.look (hc : ∀ d : DefRec, d.name = "law" → d.params.defaults = [] → PySem.W.WalkO HD.q HD.lo (XL HD.q []) (Hook.says (kHook HD.K HD.ad HD.kad)) PySem.Challenge.rw_twomakes_k28_right_ones_stay_right.row.toRowW d [] (fun f vs => PySem.call f vs)) : PySem.Challenge.rw_twomakes_k28_right_ones_stay_right.Holds := by
 w_on;o_law
 refine PySem.W.holds_open (q:=HD.q) (loose:=HD.lo) (Xt:=fun s=>xlAt HD.q [] s&&recOk [] s) (XP:=XL HD.q []) (Yf:=Hook.obs (kHook HD.K HD.ad HD.kad)) (Ya:=Hook.val (kHook HD.K HD.ad HD.kad)) (YP:=Hook.says (kHook HD.K HD.ad HD.kad)) (N:=7040) HD.left (Hook.of (kHook HD.K HD.ad HD.kad)) (Hook.keeps (kHook HD.K HD.ad HD.kad)) (fun s e=>xl_of s (Bool.and_eq_true_iff.mp e).1) XL.keeps (by rfl) (by rfl) (by rfl) (fun s e=>recFacts_of (Bool.and_eq_true_iff.mp e).2) (by rfl) (by first | assumption | decide +kernel) (by decide +kernel) ⟨rfl,rfl,rfl,rfl,rfl,by decide +kernel⟩ ?hw ?hc
 (case hw=>w_witness2)
 case hc =>
 k_fill
 exact hc _ rfl rfl
end
namespace L2
open PySem PySem.Spec PyProof.Rows
variable {us:wf}{x:Str}{u:Value}{a b dx C:Addr}{o c tg:Expr}{P prog:u8}{w:World}{h h' base:Heap}{pins:yp}{s s':Shared}{t':Nat}{ch fp:ww}{N ps:wv}{M:Model}{A:tx}{E Q:xz}{pos p:Pos}{op:CmpOp}{es:v6}{body:ul}{f:Value->Value->Sem Value}{mA mg:xL}{pl:Sem Bool}{kw:List (Str×Value)}{fd:wT}{kindOf:Str->Option NameKind}
abbrev Key:=Sum Int Str
variable {xs:List (List Key×Addr×Value)}
noncomputable def nW:Key->Value->Bool
 | .inl k,v=>Value.isInt k v
 | .inr x,v=>Value.isStrOf x v
def Qg(w:World):Key->Int
 | .inl k=>hashInt k
 | .inr x=>hashStr w x
theorem cS:∀{k:Key} {v:Value},nW k v=true->(∃ i t,k=Sum.inl i/\v=Value.int i t)\/(∃ x t,k=Sum.inr x/\v=Value.str x t)
 | .inl i,v,h=>by
  obtain⟨t,e⟩:=Value.isInt_shape (k:=i) (v:=v) h;exact .inl ⟨i,t,rfl,e⟩
 | .inr x,v,h=>by
  obtain⟨t,e⟩:=Value.isStrOf_shape (x:=x) (v:=v) h;exact .inr ⟨x,t,rfl,e⟩
theorem AO(i:Int)(t:Tok):nW (.inl i) (.int i t)=true:=by simp[nW,Value.isInt]
theorem dj(x:Str)(t:Tok):nW (.inr x) (.str x t)=true:=by simp[nW,Value.isStrOf]
theorem LM(a b:Int):decide ((Sum.inl a:Key)=Sum.inl b)=(a == b):=by
 by_cases e:a=b
 .subst e;simp
 .have h:¬ (Sum.inl a:Key)=Sum.inl b:=fun q=>e (Sum.inl.inj q);rw[aaJ h];exact(acm.mpr e).symm
theorem LN(a b:Str):decide ((Sum.inr a:Key)=Sum.inr b)=decide (a=b):=by
 by_cases e:a=b
 .subst e;simp
 .have h:¬ (Sum.inr a:Key)=Sum.inr b:=fun q=>e (Sum.inr.inj q);rw[aaJ h,aaJ e]
theorem LP(a:Int)(b:Str):decide ((Sum.inl a:Key)=Sum.inr b)=false:=aaJ (fun q=>nomatch q)
theorem LQ(a:Str)(b:Int):decide ((Sum.inr a:Key)=Sum.inl b)=false:=aaJ (fun q=>nomatch q)
noncomputable def cb(prog:u8)(w:World):PySem.KeyKind prog w Key where
 is:=nW
 hash:=Qg w
 inj:=fun v a b ha hb=>by
  rcases cS ha with⟨i,t,rfl,rfl⟩ | ⟨x,t,rfl,rfl⟩
  .rcases cS hb with⟨j,u,rfl,e⟩ | ⟨y,u,rfl,e⟩
   .injection e with e1 _;rw[e1]
   .exact nomatch e
  .rcases cS hb with⟨j,u,rfl,e⟩ | ⟨y,u,rfl,e⟩
   .exact nomatch e
   .injection e with e1 _;rw[e1]
 byValue:=fun k v h=>by
  rcases cS h with⟨i,t,rfl,rfl⟩ | ⟨x,t,rfl,rfl⟩<;>rfl
 pyHash:=fun hv h=>by
  rcases cS hv with⟨i,t,rfl,rfl⟩ | ⟨x,t,rfl,rfl⟩
  .exact wpAny_pyHash_int h
  .exact wpAny_pyHash_str h
 eqBool:=fun hu hv h=>by
  rcases cS hu with⟨i,t,rfl,rfl⟩ | ⟨x,t,rfl,rfl⟩
  .rcases cS hv with⟨j,u,rfl,rfl⟩ | ⟨y,u,rfl,rfl⟩
   .rw[LM]at h;exact wpAny_eqBool_int h
   .rw[LP]at h;exact SeqAt.EqAt.int_str i t y u _ _ _ _ h
  .rcases cS hv with⟨j,u,rfl,rfl⟩ | ⟨y,u,rfl,rfl⟩
   .rw[LQ]at h;exact SeqAt.EqAt.str_int x t j u _ _ _ _ h
   .rw[LN]at h;exact wpAny_eqBool_str h
 «strs»:=fun k x t v h=>by
  rcases cS h with⟨i,u,rfl,e⟩ | ⟨y,u,rfl,e⟩
  .exact nomatch e
  .injection e with e1 _
   subst e1;cases v<;>rfl
theorem uf(prog:u8)(w:World)(i:Int)(t:Tok):(cb prog w).is (.inl i) (.int i t)=true:=AO i t
theorem ug(prog:u8)(w:World)(x:Str)(t:Tok):(cb prog w).is (.inr x) (.str x t)=true:=dj x t
set_option genInjectivity true in
inductive V where
 | dH | bl (b:Bool) | int (i:Int) | str (x:Str) | zf (b:Array UInt8) | G1 (b:UInt64) | ref (a:Addr) | ty (n:String)
 deriving DecidableEq
variable {v y:V}{vs:List V}{kvs:List (List Key×V)}
def RelV:V->Value->Prop
 | .dH,u=>u=Value.none
 | .bl b,u=>u=Value.bool b
 | .int i,u=>∃ t,u=Value.int i t
 | .str x,u=>∃ t,u=Value.str x t
 | .zf b,u=>∃ t,u=Value.bytes b t
 | .G1 b,u=>∃ t,u=Value.float b t
 | .ref a,u=>u=Value.ref a
 | .ty n,u=>u=Value.type n
abbrev Vals:List V->wf->Prop:=Paired RelV
theorem Vals.length{xs:List V}{us:wf}(r:Vals xs us):xs.length=us.length:=Paired.length r
theorem Vals.get:∀{xs:List V} {us:wf} {i:Nat} {x:V},Vals xs us->xs[i]?=some x->∃ u,us[i]?=some u/\RelV x u
 | _,_,_,_,.nil,e=>by simp at e
 | _,_,0,_,.cons r _,e=>by simp at e;subst e;exact⟨_,rfl,r⟩
 | _,_,i+1,x,.cons _ t,e=>by
  obtain⟨u,h1,h2⟩:=Vals.get (i:=i) (x:=x) t (by simpa using e);exact⟨u,by simpa using h1,h2⟩
theorem Vals.set{x:V}{u:Value}(r:RelV x u):∀{xs:List V} {us:wf} (i:Nat),Vals xs us->Vals (xs.set i x) (us.set i u)
 | _,_,_,.nil=>.nil
 | _,_,0,.cons _ t=>.cons r t
 | _,_,i+1,.cons q t=>.cons q (Vals.set r i t)
theorem Vals.append:∀{xs ys:List V} {us ws:wf},Vals xs us->Vals ys ws->Vals (xs++ys) (us++ws)
 | _,_,_,_,.nil,s=>s
 | _,_,_,_,.cons r t,s=>.cons r (Vals.append t s)
theorem Vals.take:∀{xs:List V} {us:wf} (n:Nat),Vals xs us->Vals (xs.take n) (us.take n)
 | _,_,0,_=>.nil
 | _,_,_+1,.nil=>.nil
 | _,_,n+1,.cons r t=>.cons r (Vals.take n t)
theorem Vals.drop:∀{xs:List V} {us:wf} (n:Nat),Vals xs us->Vals (xs.drop n) (us.drop n)
 | _,_,0,r=>r
 | _,_,_+1,.nil=>.nil
 | _,_,n+1,.cons _ t=>Vals.drop n t
def js:Option V->wP->Prop
 | some v,some u=>RelV v u
 | none,none=>True
 | _,_=>False
def KV{κ:Type}:List (κ×V)->List (κ×Value)->Prop:=Paired fun(p:κ×V) (q:κ×Value)=>p.1=q.1/\RelV p.2 q.2
noncomputable def kV:Key->V
 | .inl i=>.int i
 | .inr x=>.str x
set_option genInjectivity true in
inductive HO where
 | lst (xs:List V)
 | tup (xs:List V)
 | dK (kvs:List (Key×V)) | dT (kvs:List (List Key×V))
 | set (S:Int->Bool) (n:Nat)
 | ins (C dx:Addr) (fs:List (Str×V))
 | own (x:Addr)
 | xd (fs:List (Str×V))
 | met (f x:Addr)
 | Ub (lo hi:Int)
 | lG (o:Obj) (u:HO)
 | JP (ps:Array Value)
 | ext (φ:Heap->Prop)
abbrev Hp:=Addr->Option HO
variable {H H':Hp}
def upd(H:Hp)(a:Addr)(o:HO):Hp:=fun b=>if b=a then some o else H b
theorem cv{o:HO}:upd H a o a=some o:=by unfold upd;rw[aaO rfl]
theorem bA{o:HO}(h:b≠a):upd H a o b=H b:=by unfold upd;rw[aaD h]
theorem Qh{o u:HO}(h:H a=some o)(h':H b=some u)(d:o≠u):a≠b:=by
 intro e;subst e;rw[h]at h';exact d (abb h')
theorem cq{o:HO}(h:H a=some o)(h':H b=none):a≠b:=by
 intro e;subst e;rw[h]at h';cases h'
section
variable (P:u8)(w:World)
noncomputable def cm(H:Hp)(h:Heap)(a:Addr):HO->Prop
 | .lst xs=>xs.length<=sizeLine/\∃(aV:wf) (n:Nat),Vals xs aV/\h.get? a=some { cls:=.type "list",data:=.seq aV.toArray n }
 | .tup xs=>xs.length<=sizeLine/\∃ aV:List Value,Vals xs aV/\IsTup h a aV.toArray
 | .dK kvs=>kvs.length<=sizeLine/\(a == sysModules)=false/\∃ vs,KV kvs vs/\h.DictOf (cb P w) a vs
 | .dT kvs=>kvs.length<=sizeLine/\(a == sysModules)=false/\∃ xs:List (List Key×Addr×Value),
   Paired (fun(p:List Key×V) (q:List Key×Addr×Value)=>p.1=q.1/\H q.2.1=some (.tup (p.1.map kV))/\RelV p.2 q.2.2) kvs xs /\
   ∃ o es ep,h.get? a=some o/\o.ExactDict/\o.data=.dict es ep/\es.toList=xs.map (entryOfKey (tupleKind (cb P w)))/\(xs.map (·.1)).Nodup
 | .set S n=>h.SetOf (intKind P w) a S n
 | .ins C dx fs=>H dx=some (.own a)/\fs.length<=1000/\dx≠a/\h.get? a=some (PySem.W.instObj C dx) /\
   ∃ mA,h.Ns1 dx mA/\(∀ f,js (fs.lookup f) (mA f))/\PySem.Within mA (fs.map (·.1))
 | .own _=>∃ o,h.get? a=some o
 | .xd fs=>∃ mA,h.Ns1 a mA/\∀ f,js (fs.lookup f) (mA f)
 | .Ub lo hi=>∃ t u v,h.get? a=some { cls:=.type "range",data:=.fields #[.int lo t,.int hi u,.int 1 v] }
 | .lG o u=>h.get? a=some o/\cm H h a u
 | .JP ps=>h.get? a=some { cls:=.none,data:=.fields ps }
 | .met f x=>h.get? a=some (PySem.W.methodObj (.ref f) (.ref x))
 | .ext φ=>φ h/\(∃ o,h.get? a=some o)/\∀ h1 h2:Heap,φ h1->(∀ o,h1.get? a=some o->h2.get? a=some o)->φ h2
noncomputable def eV(H:Hp)(h:Heap):Prop:=∀ a o,H a=some o->cm P w H h a o
end
section
variable {o:HO}
theorem cm.lt(x:cm P w H h a o):a < h.objs.size:=by
 cases o with
 | lst xs=>obtain⟨_,_,_,_,e⟩:=x;exact aaF e
 | tup xs=>obtain⟨_,_,_,p⟩:=x;exact p.lt
 | dK kvs=>obtain⟨_,_,_,_,o,_,_,e,_⟩:=x;exact aaF e
 | dT kvs=>obtain⟨_,_,_,_,o,_,_,e,_⟩:=x;exact aaF e
 | set S n=>obtain⟨o,_,_,_,e,_⟩:=x;exact aaF e
 | ins C dx fs=>obtain⟨_,_,_,e,_⟩:=x;exact aaF e
 | own y=>obtain⟨_,e⟩:=x;exact aaF e
 | xd fs=>obtain⟨_,⟨_,_,_,e,_⟩,_⟩:=x;exact aaF e
 | Ub lo hi=>obtain⟨_,_,_,e⟩:=x;exact aaF e
 | lG ob u=>obtain⟨e,_⟩:=x;exact aaF e
 | JP ps=>exact aaF (show h.get? a=some _ from x)
 | met f y=>exact aaF (show h.get? a=some _ from x)
 | ext φ=>obtain⟨_,⟨_,e⟩,_⟩:=x;exact aaF e
theorem Paired.LR{J β:Type}{F G:J->β->Prop}:∀{Qi:List J} {Qj:List β},Paired F Qi Qj->(∀ a b,F a b->G a b)->Paired G Qi Qj
 | _,_,.nil,_=>.nil
 | _,_,.cons r t,f=>.cons (f _ _ r) (Paired.LR t f)
theorem cm.uh(x:cm P w H h a o)(k:∀ b u,(b=a\/H b=some (.own a))->h.get? b=some u->h'.get? b=some u)(ho:∀ b,H b=some (.own a)->H' b=some (.own a))(ht:∀ b xs,H b=some (.tup xs)->H' b=some (.tup xs)):cm P w H' h' a o:=by
 induction o with
 | lst xs=>obtain⟨z,aV,n,r,e⟩:=x;exact⟨z,aV,n,r,k _ _ (.inl rfl) e⟩
 | tup xs=>obtain⟨z,aV,r,ob,e,c⟩:=x;exact⟨z,aV,r,ob,k _ _ (.inl rfl) e,c⟩
 | dK kvs=>obtain⟨z,y,vs,r,ob,es,ep,e,c⟩:=x;exact⟨z,y,vs,r,ob,es,ep,k _ _ (.inl rfl) e,c⟩
 | dT kvs =>
  obtain⟨z,y,xs,r,ob,es,ep,e,c⟩:=x;exact⟨z,y,xs,Paired.LR r fun p q z=>⟨z.1,ht _ _ z.2.1,z.2.2⟩,ob,es,ep,k _ _ (.inl rfl) e,c⟩
 | set S n=>obtain⟨ob,es,ep,t,e,c⟩:=x;exact⟨ob,es,ep,t,k _ _ (.inl rfl) e,c⟩
 | ins C dx fs =>
  obtain⟨d,z,ne,e,mA,⟨od,es,ep,e2,c⟩,r⟩:=x;exact⟨ho _ d,z,ne,k _ _ (.inl rfl) e,mA,⟨od,es,ep,k _ _ (.inr d) e2,c⟩,r⟩
 | own y=>obtain⟨ob,e⟩:=x;exact⟨ob,k _ _ (.inl rfl) e⟩
 | xd fs=>obtain⟨mA,⟨od,es,ep,e,c⟩,r⟩:=x;exact⟨mA,⟨od,es,ep,k _ _ (.inl rfl) e,c⟩,r⟩
 | Ub lo hi=>obtain⟨t,u,v,e⟩:=x;exact⟨t,u,v,k _ _ (.inl rfl) e⟩
 | lG ob u ih=>obtain⟨e,q⟩:=x;exact⟨k _ _ (.inl rfl) e,ih q⟩
 | JP ps =>
  have e:h.get? a=some { cls:=.none,data:=.fields ps }:=x;show h'.get? a=some { cls:=.none,data:=.fields ps };exact k a _ (.inl rfl) e
 | met f y =>
  have e:h.get? a=some (PySem.W.methodObj (.ref f) (.ref y)):=x;show h'.get? a=some (PySem.W.methodObj (.ref f) (.ref y));exact k a _ (.inl rfl) e
 | ext φ=>obtain⟨p,⟨o,e⟩,st⟩:=x;exact⟨st _ _ p fun o q=>k _ _ (.inl rfl) q,⟨o,k _ _ (.inl rfl) e⟩,st⟩
theorem eV.lt(x:eV P w H h)(e:H a=some o):a < h.objs.size:=(x a o e).lt
theorem eV.fresh(x:eV P w H h)(e:h.objs.size<=a):H a=none:=by
 cases q:H a with
 | none=>rfl
 | some u=>exact absurd (aaS (x.lt q) e) (abm _)
theorem eV.kept(x:eV P w H h)(k:∀ b u,h.get? b=some u->h'.get? b=some u):eV P w H h':=fun a o e =>
 (x a o e).uh (fun b u _ q=>k b u q) (fun _ q=>q) fun _ _ q=>q
theorem eV.laid(x:eV P w H h)(k:∀ b u,h.get? b=some u->h'.get? b=some u)(hp:h.objs.size<=a)(new:cm P w (upd H a o) h' a o):eV P w (upd H a o) h':=fun b u e=>by
 have hn:=x.fresh hp
 by_cases hb:b=a
 .subst hb;rw[cv]at e;cases e;exact new
 .rw[bA hb]at e;exact(x b u e).uh (fun c v _ q=>k c v q) (fun c q=>by rw[bA (cq q hn)];exact q) fun c xs q=>by rw[bA (cq q hn)];exact q
end
noncomputable def Rd(H:Hp)(a:Addr)(u:HO):Prop:=H a=some u\/∃ o,H a=some (.lG o u)
theorem Rd.ok{u:HO}(r:Rd H a u)(x:eV P w H h):cm P w H h a u:=by
 rcases r with r | ⟨o,r⟩
 .exact x a u r
 .obtain⟨_,q⟩:=x a _ r;exact q
def Qk:Option HO->Prop
 | some (.lst _)=>True
 | some (.dK _)=>True
 | some (.dT _)=>True
 | some (.set _ _)=>True
 | some (.ins _ _ _)=>True
 | some (.ext _)=>True
 | _=>False
section
variable {x e:Addr}{o':HO}
theorem eV.write(ok:eV P w H h)(mu:Qk (H x))(he:e=x\/H e=some (.own x))(k:∀ b u,b≠e->h.get? b=some u->h'.get? b=some u)(nq:∃ u,h'.get? e=some u)(new:cm P w (upd H x o') h' x o'):eV P w (upd H x o') h':=fun b u q=>by
 have Ql:∀ c y,H c=some (.own y)->c≠x:=fun c y r z=>by subst z;rw[r]at mu;exact mu
 have Vi:∀ c xs,H c=some (.tup xs)->c≠x:=fun c xs r z=>by subst z;rw[r]at mu;exact mu
 by_cases hb:b=x
 .subst hb;rw[cv]at q;cases q;exact new
 .rw[bA hb]at q
  by_cases LU:b=e
  .have q':H b=some (.own x):=by
    rcases he with z | z
    .exact absurd (LU.trans z) hb
    .rw[LU];exact z
   rw[q]at q';cases q';obtain⟨v,hv⟩:=nq;exact⟨v,by rw[LU];exact hv⟩
  .refine(ok b u q).uh (fun c v hc r=>k c v ?_ r) (fun c r=>by rw[bA (Ql c b r)];exact r) fun c xs r=>by rw[bA (Vi c xs r)];exact r
   rcases hc with rfl | hc
   .exact LU
   .rintro rfl;rcases he with z | z
    .exact Ql c b hc z
    .rw[hc]at z;cases z;exact hb rfl
end
structure Un(fs ex:ww)(H H':Hp)(h h':Heap):Prop where
 keep:∀ b o,h.get? b=some o->H b=none->b ∉ fs->b ∉ ex->h'.get? b=some o
 slot:∀ b o,h.get? b=some o->H b=none->b∈fs->b ∉ ex->∃ sl,h'.get? b=some { o with slots:=sl }
 free:∀ b o,h.get? b=some o->H b=none->b ∉ ex->H' b=none
 there:∀ b o,h.get? b=some o->b ∉ ex->∃ o',h'.get? b=some o'
 rC:∀ b xs,H b=some (.tup xs)->H' b=some (.tup xs)
 pN:∀ b o u,H b=some (.lG o u)->H' b=some (.lG o u)
 rD:∀ b ps,H b=some (.JP ps)->∃ more,H' b=some (.JP (ps++more))
section
variable {fs gK ex Uc:ww}{H1 H2:Hp}{h1 h2:Heap}{x e:Addr}{o:HO}
theorem Un.any(u:Un fs ex H H1 h h1){ob:Obj}(q:h.get? b=some ob)(n:H b=none)(hx:b ∉ ex):∃ sl,h1.get? b=some { ob with slots:=sl }:=by
 by_cases hb:b∈fs
 .exact u.slot b ob q n hb hx
 .exact⟨ob.slots,u.keep b ob q n hb hx⟩
theorem Un.kept(k:∀ b u,h.get? b=some u->h'.get? b=some u):Un fs ex H H h h' :=
 ⟨fun b ob q _ _ _=>k b ob q,fun b ob q _ _ _=>⟨ob.slots,k b ob q⟩,fun _ _ _ n _=>n,fun b ob q _=>⟨ob,k b ob q⟩,fun _ _ q=>q,fun _ _ _ q=>q,fun _ ps q=>⟨#[],by rw[q];simp⟩⟩
theorem Un.refl:Un fs ex H H h h:=Un.kept fun _ _ q=>q
theorem Un.laid(k:∀ b u,h.get? b=some u->h'.get? b=some u)(hp:h.objs.size<=a)(hn:H a=none):Un fs ex H (upd H a o) h h' where
 keep:=fun b u q _ _ _=>k b u q
 slot:=fun b u q _ _ _=>⟨u.slots,k b u q⟩
 free:=fun b u q n _=>by rw[bA (aa6 (aaS (aaF q) hp))];exact n
 there:=fun b u q _=>⟨u,k b u q⟩
 rC:=fun b xs q=>by rw[bA (cq q hn)];exact q
 pN:=fun b u xs q=>by rw[bA (cq q hn)];exact q
 rD:=fun b ps q=>⟨#[],by rw[bA (cq q hn),q];simp⟩
theorem Un.write(mu:Qk (H x))(he:e=x\/H e=some (.own x))(k:∀ b u,b≠e->h.get? b=some u->h'.get? b=some u)(nq:∃ u,h'.get? e=some u):Un fs ex H (upd H x o) h h':=by
 have hx:∀ b,H b=none->b≠x:=fun b n z=>by subst z;rw[n]at mu;exact mu
 have hb:∀ b,H b=none->b≠e:=fun b n z=>by
  subst z;rcases he with r | r
  .exact hx b n r
  .rw[n]at r;cases r
 have hm:∀ b u,H b=some u->¬ Qk (some u)->b≠x:=fun b u q nm z=>by subst z;rw[q]at mu;exact nm mu
 refine⟨fun b u q n _ _=>k b u (hb b n) q,fun b u q n _ _=>⟨u.slots,k b u (hb b n) q⟩,fun b u q n _=>by rw[bA (hx b n)];exact n,fun b u q _=>?_,
  fun b xs q=>by rw[bA (hm b _ q fun z=>z)];exact q,fun b u xs q=>by rw[bA (hm b _ q fun z=>z)];exact q,fun b ps q=>⟨#[],by rw[bA (hm b _ q fun z=>z),q];simp⟩⟩
 by_cases LU:b=e
 .subst LU;exact nq
 .exact⟨u,k b u LU q⟩
end
def G2(h:Heap)(H:Hp):List Addr:=(List.range h.objs.size).filter fun a=>(H a).isSome
def rE(h:Heap)(H:Hp):Heap:=PySem.W.hideAll h (G2 h H)
theorem AQ(h:Heap)(H:Hp):(rE h H).objs.size=h.objs.size:=PySem.W.hideAll_size _ _
theorem Cp{o:Obj}(e:h.get? b=some o)(n:H b=none):(rE h H).get? b=some o :=
 PySem.W.hideAll_get _ e fun hm=>by
  have q:(H b).isSome=true:=(abg.mp hm).2;rw[n]at q;simp at q
theorem G3{o:Obj}(e:(rE h H).get? b=some o):h.get? b=some o/\H b=none:=by
 have e':h.get? b=some o:=PySem.W.of_hideAll (G2 h H) e;refine⟨e',?_⟩;cases q:H b with
 | none=>rfl
 | some x =>
  have hm:b∈G2 h H:=abg.mpr ⟨List.mem_range.mpr (aaF e'),by simp[q]⟩;have z:(rE h H).get? b=none:=PySem.W.hideAll_none (G2 h H) hm;rw[z]at e;cases e
structure Mod(K:zn)(mg:xL)(base:Heap):Prop where
 Cg:K.In base
 glob:base.Ns mainGlobals mg
 blt:∃ mb,base.Ns builtinsNs mb/\∀ x:Str,x ≠ "__name__"->mb x=bootBuiltins x
 nolimit:base.NoLimit
structure Cx where
 prog:u8
 w:World
 K:zn
 mg:Str->Option Value
 base:Heap
 A:tx
 N:List Str
 bg:Shared
 bG:Hp
 env:Env
 outer:List Env
 stack:List Env
 ex:List Addr
 fn:Str->Bool
 calm:Bool
 pn:List (Addr×Obj)
 xe:Value->Shared->Prop
variable {X:Cx}
def iB(l:List Env):List Addr:=l.filterMap (·.frame)
abbrev Cx.fs(X:Cx):List Addr:=iB X.outer
def Ud(sc:Scope)(x:Str):Prop:=sc.names.lookup x=some .local\/sc.names.lookup x=some .cell\/sc.names.lookup x=some .free
def Loc(sc:Scope)(x:Str):Prop:=sc.names.lookup x=some .local\/sc.names.lookup x=some .cell
def Look(env:Env)(h:Heap)(m:xL)(x:Str)(u:Value):Prop :=
 (env.kindOf x=some .local/\m x=some u)\/((env.kindOf x=some .cell\/env.kindOf x=some .free)/\∃ c,env.cells.lookup x=some c/\h.IsCell c (some u))
structure Cx.Ok(X:Cx):Prop where
 mod:Mod X.K X.mg X.base
 kind:X.env.scope.kind=.function
 glob:X.env.globals=mainGlobals
 blt:X.env.builtins=builtinsNs
 above:X.bg.heap.objs.size<=X.env.locals
 inj:∀ x y c,X.env.cells.lookup x=some c->X.env.cells.lookup y=some c->x=y
 has:∀ x,(X.env.kindOf x=some .cell\/X.env.kindOf x=some .free)->∃ c,X.env.cells.lookup x=some c
 Qm:∀ x c,X.fn x=true->X.env.cells.lookup x=some c->X.bg.heap.objs.size<=c
 hd:X.calm=true->X.A.handled=none
 frames:X.A.frames=some X.stack
 LV:X.stack=X.outer\/(X.stack=X.env::X.outer/\X.env.frame=some X.env.locals)
 Ue:∀ b∈X.ex,b≠X.env.locals/\∀ x c,X.env.cells.lookup x=some c->c≠b
 bs:∀ b o,X.base.get? b=some o->X.bg.heap.get? b=some o/\X.bG b=none
 JQ:X.base.objs.size<=X.bg.heap.objs.size
 Cq:∀ b o,X.base.get? b=some o->b ∉ X.ex
 Cr:∀ b∈X.ex,b ∉ X.fs
 mM:X.bg.heap.FunFrames X.base X.outer
 GL:∀ b∈X.fs,X.bG b=none
structure Inv(X:Cx)(pins:yp)(Z:List (Option V))(H:Hp)(s:Shared):Prop where
 ok:X.Ok
 os:s.os=X.bg.os
 bare:AllBare s.gens
 base:Un X.fs X.ex X.bG H X.bg.heap s.heap
 loc:∃ m,s.heap.Ns X.env.locals m/\∀(i:Nat) (x:Str) (v:V),X.N[i]?=some x->Z[i]?=some (some v)->Ud X.env.scope x->∃ u,RelV v u/\Look X.env s.heap m x u
 cell:∀ x c,X.env.cells.lookup x=some c->∃ v,s.heap.IsCell c v
 free:H X.env.locals=none
 iQ:∀ x c,X.env.cells.lookup x=some c->H c=none
 pin:∀ p∈X.pn++pins,s.heap.get? p.1=some p.2/\H p.1=none/\p.1≠X.env.locals/\p.1 ∉ X.fs/\∀ v,p.2.data≠.cell v
 cu:eV X.prog X.w H s.heap
 len:Z.length=X.N.length
section
variable {Z:List (Option V)}
theorem Cx.Ok.Vj(ok:X.Ok){o:Obj}(e:X.base.get? b=some o):b ∉ X.fs:=fun hb=>by
 have:=(ok.mM.mem hb).1;rw[e]at this;cases this
theorem Inv.bs(I:Inv X pins Z H s):∀ b o,X.base.get? b=some o->s.heap.get? b=some o/\H b=none:=fun b o e =>
 ⟨I.base.keep b o (I.ok.bs b o e).1 (I.ok.bs b o e).2 (I.ok.Vj e) (I.ok.Cq b o e),I.base.free b o (I.ok.bs b o e).1 (I.ok.bs b o e).2 (I.ok.Cq b o e)⟩
theorem Inv.bk(I:Inv X pins Z H s):∀ b o,X.base.get? b=some o->s.heap.get? b=some o:=fun b o e=>(I.bs b o e).1
theorem Inv.mod(I:Inv X pins Z H s):Mod X.K X.mg X.base:=I.ok.mod
theorem Inv.mr(I:Inv X pins Z H s):X.K.In s.heap:=I.ok.mod.Cg.keeps I.bk
theorem Inv.lt(I:Inv X pins Z H s):X.env.locals < s.heap.objs.size:=let ⟨_,hn,_⟩:=I.loc;hn.lt
theorem Inv.sz(I:Inv X pins Z H s):X.bg.heap.objs.size<=s.heap.objs.size:=aaE I.ok.above (aaQ I.lt)
theorem Inv.Vk(I:Inv X pins Z H s)(h:s.heap.objs.size<=a):a ∉ X.fs:=fun hb=>by
 obtain⟨_,o,ho,_⟩:=I.ok.mM.mem hb;exact absurd (aaS (aaF ho) (aaE I.sz h)) (abm _)
theorem Inv.LW(I:Inv X pins Z H s):∀ x c,X.env.cells.lookup x=some c->c≠X.env.locals:=fun x c e z=>by
 obtain⟨v,o,ho,hd⟩:=I.cell x c e;obtain⟨m,⟨o',es,ep,Cs,JR,_⟩,_⟩:=I.loc;rw[z,Cs]at ho;cases ho;rw[JR]at hd;cases hd
theorem Inv.mM(I:Inv X pins Z H s):s.heap.FunFrames X.base X.outer:=by
 have all:∀(l:List Env),(∀ b∈iB l,b∈X.fs)->X.bg.heap.FunFrames X.base l->s.heap.FunFrames X.base l:=by
  intro l;induction l with
  | nil=>intro _ _;trivial
  | cons env r ih =>
   intro hs hl;obtain⟨hk,⟨L,o,hf,hn,ho,hd⟩,hr⟩:=hl;have hL:L∈X.fs:=hs L (by unfold iB;rw[acL,hf];exact aaP);obtain⟨sl,e⟩:=I.base.slot L o ho (I.ok.GL L hL) hL fun z=>I.ok.Cr L z hL;exact⟨hk,⟨L,_,hf,hn,e,hd⟩,ih (fun b hb=>hs b (by unfold iB;rw[acL,hf];exact aaI _ hb)) hr⟩
 exact all X.outer (fun _ hb=>hb) I.ok.mM
theorem Inv.stack(I:Inv X pins Z H s):s.heap.FunFrames X.base X.stack:=by
 rcases I.ok.LV with e | ⟨e,hf⟩
 .rw[e];exact I.mM
 .rw[e];obtain⟨m,hn,_⟩:=I.loc;refine .cons (by rw[I.ok.kind];decide) hf hn ?_ I.mM;exact Heap.get?_none_of_le (aaE I.ok.JQ I.ok.above)
theorem Inv.wV(I:Inv X pins Z H s):∀ b∈iB X.stack,b∈X.env.locals::X.fs:=fun b hb=>by
 rcases I.ok.LV with e | ⟨e,hf⟩
 .rw[e]at hb;exact aaI _ hb
 .rw[e]at hb;unfold iB at hb;rw[acL,hf]at hb;exact hb
theorem Inv.rF(I:Inv X pins Z H s):∀ b∈iB X.stack,H b=none:=fun b hb=>by
 rcases aaA.mp (I.wV b hb)with e | hb
 .rw[e];exact I.free
 .obtain⟨_,o,ho,_⟩:=I.ok.mM.mem hb;exact I.base.free b o ho (I.ok.GL b hb) fun z=>I.ok.Cr b z hb
theorem Inv.step{g':Array GenState}{d':Drawn}(I:Inv X pins Z H s)(GN:∀ b∈ch,(b∈X.ex\/X.bg.heap.objs.size<=b)/\b≠X.env.locals/\(∀ x c,X.env.cells.lookup x=some c->c≠b)/\∀ p∈X.pn++pins,p.1≠b)(keep:∀ b o,b≠X.env.locals->b ∉ X.fs->b ∉ ch->s.heap.get? b=some o->H b=none->h'.get? b=some o)(slot:∀ b o,b≠X.env.locals->b∈X.fs->b ∉ ch->s.heap.get? b=some o->H b=none->∃ sl,h'.get? b=some { o with slots:=sl })(free:∀ b o,b ∉ ch->s.heap.get? b=some o->H b=none->H' b=none)(there:∀ b o,b ∉ ch->s.heap.get? b=some o->∃ o',h'.get? b=some o')(rC:∀ b xs,H b=some (.tup xs)->H' b=some (.tup xs))(pN:∀ b o u,H b=some (.lG o u)->H' b=some (.lG o u))(rD:∀ b ps,H b=some (.JP ps)->∃ more,H' b=some (.JP (ps++more)))(ns:∀ m,s.heap.Ns X.env.locals m->h'.Ns X.env.locals m)(cu:eV X.prog X.w H' h')(hg:AllBare g') :
  Inv X pins Z H' { s with heap:=h',gens:=g',drawn:=d',toks:=t' }:=by
 have YF:∀ b o,X.bg.heap.get? b=some o->b≠X.env.locals:=fun b o e=>aa6 (aaS (aaF e) I.ok.above);have Ug:∀ b o,X.bg.heap.get? b=some o->b ∉ X.ex->b ∉ ch:=fun b o e hx hb=>by
  rcases (GN b hb).1 with z | z
  .exact hx z
  .exact absurd (aaS (aaF e) z) (abm _)
 have cellK:∀ x c,X.env.cells.lookup x=some c->∀ v,s.heap.IsCell c v->h'.IsCell c v:=fun x c e v zz=>by
  obtain⟨o,ho,hd⟩:=zz
  have Qn:c ∉ ch:=fun z=>(GN c z).2.2.1 x c e rfl
  by_cases hc:c∈X.fs
  .obtain⟨sl,q⟩:=slot c o (I.LW x c e) hc Qn ho (I.iQ x c e);exact⟨_,q,hd⟩
  .exact⟨o,keep c o (I.LW x c e) hc Qn ho (I.iQ x c e),hd⟩
 refine⟨I.ok,I.os,hg,⟨fun b o e n hb hx=>?_,fun b o e n hb hx=>?_,fun b o e n hx=>?_,fun b o e hx=>?_,fun b xs e=>rC b xs (I.base.rC b xs e),fun b o xs e=>pN b o xs (I.base.pN b o xs e),fun b ps e=>?_⟩,?_,fun x c e=>?_,?_,fun x c e=>?_,fun p hp=>?_,cu,I.len⟩
 .exact keep b o (YF b o e) hb (Ug b o e hx) (I.base.keep b o e n hb hx) (I.base.free b o e n hx)
 .obtain⟨sl,e1⟩:=I.base.slot b o e n hb hx;obtain⟨Vl,e2⟩:=slot b _ (YF b o e) hb (Ug b o e hx) e1 (I.base.free b o e n hx);exact⟨Vl,e2⟩
 .obtain⟨o',e1⟩:=I.base.there b o e hx;exact free b o' (Ug b o e hx) e1 (I.base.free b o e n hx)
 .obtain⟨o',e1⟩:=I.base.there b o e hx;exact there b o' (Ug b o e hx) e1
 .obtain⟨m1,e1⟩:=I.base.rD b ps e;obtain⟨m2,e2⟩:=rD b _ e1;exact⟨m1++m2,by rw[e2,Array.append_assoc]⟩
 .obtain⟨m,hn,hl⟩:=I.loc;refine⟨m,ns m hn,fun i x v e1 e2 e3=>?_⟩;obtain⟨u,r,l⟩:=hl i x v e1 e2 e3;refine⟨u,r,?_⟩;rcases l with l | ⟨k,c,e,z⟩
  .exact .inl l
  .exact .inr ⟨k,c,e,cellK x c e _ z⟩
 .obtain⟨v,z⟩:=I.cell x c e;exact⟨v,cellK x c e v z⟩
 .obtain⟨m,⟨o,_,_,ho,_⟩,_⟩:=I.loc;exact free _ o (fun z=>(GN _ z).2.1 rfl) ho I.free
 .obtain⟨v,o,ho,hd⟩:=I.cell x c e;exact free c o (fun z=>(GN c z).2.2.1 x c e rfl) ho (I.iQ x c e)
 .obtain⟨e,n,ne,nf,d⟩:=I.pin p hp;have Qn:p.1 ∉ ch:=fun z=>(GN p.1 z).2.2.2 p hp rfl;exact⟨keep p.1 p.2 ne nf Qn e n,free p.1 p.2 Qn e n,ne,nf,d⟩
theorem Inv.un(I:Inv X pins Z H s)(u:Un X.fs [] H H' s.heap h')(cu:eV X.prog X.w H' h'):Inv X pins Z H' { s with heap:=h',toks:=t' }:=by
 obtain⟨m,⟨o,es,ep,ho,r⟩,_⟩:=id I.loc;obtain⟨sl,hL⟩:=u.any ho I.free @2;exact I.step (g':=s.gens) (d':=s.drawn) (ch:=[]) (fun _ z=>nomatch z) (fun b o _ hb _ e n=>u.keep b o e n hb @2) (fun b o _ hb _ e n=>u.slot b o e n hb @2) (fun b o _ e n=>u.free b o e n @2) (fun b o _ e=>u.there b o e @2) u.rC u.pN u.rD (fun m' hm=>by
  obtain⟨o',GO,Vm,Cs,r'⟩:=hm;rw[ho]at Cs;cases Cs;exact⟨_,GO,Vm,hL,r'⟩) cu I.bare
theorem Inv.call{g':Array GenState}{d':Drawn}(I:Inv X pins Z H s)(u:Un (iB X.stack) ch H H' s.heap h')(cu:eV X.prog X.w H' h')(hg:AllBare g')(GN:∀ b∈ch,(b∈X.ex\/X.bg.heap.objs.size<=b)/\b≠X.env.locals/\(∀ x c,X.env.cells.lookup x=some c->c≠b)/\∀ p∈X.pn++pins,p.1≠b) :
  Inv X pins Z H' { s with heap:=h',gens:=g',drawn:=d',toks:=t' }:=by
 obtain⟨m,⟨o,es,ep,ho,r⟩,_⟩:=id I.loc;obtain⟨sl,hL⟩:=u.any ho I.free fun z=>(GN _ z).2.1 rfl;exact I.step (ch:=ch) GN (fun b o hL hb hc e n=>u.keep b o e n (fun z=>(aaA.mp (I.wV b z)).elim hL hb) hc) (fun b o _ _ hc e n=>u.any e n hc) (fun b o hc e n=>u.free b o e n hc) (fun b o hc e=>u.there b o e hc) u.rC u.pN u.rD (fun m' hm=>by
  obtain⟨o',GO,Vm,Cs,r'⟩:=hm;rw[ho]at Cs;cases Cs;exact⟨_,GO,Vm,hL,r'⟩) cu hg
theorem Inv.turned{it:Addr}(I:Inv X pins Z H s)(k:∀ b o,b≠it->s.heap.get? b=some o->h'.get? b=some o)(hn:H it=none)(hL:it≠X.env.locals)(h1:it∈X.ex\/X.bg.heap.objs.size<=it)(h2:∀ x c,X.env.cells.lookup x=some c->c≠it)(h3:∀ p∈X.pn++pins,p.1≠it):Inv X pins Z H { s with heap:=h',toks:=t' }:=by
 have Qp:∀ b u,H b=some u->b≠it:=fun b u e z=>by rw[z,hn]at e;cases e
 refine I.step (g':=s.gens) (d':=s.drawn) (ch:=[it]) (fun b hb=>?_) (fun b o _ _ hc e _=>k b o (fun z=>hc (by simp[z])) e) (fun b o _ _ hc e _=>⟨o.slots,k b o (fun z=>hc (by simp[z])) e⟩) (fun _ _ _ _ n=>n)
  (fun b o hc e=>⟨o,k b o (fun z=>hc (by simp[z])) e⟩) (fun _ _ e=>e) (fun _ _ _ e=>e) (fun b ps e=>⟨#[],by rw[e];simp⟩) (fun m hm=>?_) (fun b u e=>?_) I.bare
 .have e:b=it:=by simpa using hb
  subst e;exact⟨h1,hL,h2,h3⟩
 .obtain⟨o,es,ep,ho,r⟩:=hm;exact⟨o,es,ep,k _ o (acD hL) ho,r⟩
 .refine(I.cu b u e).uh (fun c v hc q=>k c v ?_ q) (fun _ q=>q) fun _ _ q=>q;rcases hc with z | z
  .rw[z];exact Qp b u e
  .exact Qp c _ z
theorem Inv.tok(I:Inv X pins Z H s)(t:Nat):Inv X pins Z H { s with toks:=t }:=I.un (h':=s.heap) (t':=t) Un.refl I.cu
theorem Inv.kept{t':Nat}(I:Inv X pins Z H s)(k:∀ b u,s.heap.get? b=some u->h'.get? b=some u):Inv X pins Z H { s with heap:=h',toks:=t' }:=I.un (Un.kept k) (I.cu.kept k)
theorem Inv.laid{a:Addr}{o:HO}{t':Nat}(I:Inv X pins Z H s)(k:∀ b u,s.heap.get? b=some u->h'.get? b=some u)(hp:s.heap.objs.size<=a)(new:cm X.prog X.w (upd H a o) h' a o) :
  Inv X pins Z (upd H a o) { s with heap:=h',toks:=t' }:=I.un (Un.laid k hp (I.cu.fresh hp)) (I.cu.laid k hp new)
theorem Inv.write{x e:Addr}{o:HO}{t':Nat}(I:Inv X pins Z H s)(mu:Qk (H x))(he:e=x\/H e=some (.own x))(k:∀ b u,b≠e->s.heap.get? b=some u->h'.get? b=some u)(nq:∃ u,h'.get? e=some u)
  (new:cm X.prog X.w (upd H x o) h' x o):Inv X pins Z (upd H x o) { s with heap:=h',toks:=t' }:=I.un (Un.write mu he k nq) (I.cu.write mu he k nq new)
theorem Inv.zg{JS:yp}(I:Inv X pins Z H s)(h:∀ p∈JS,s.heap.get? p.1=some p.2/\H p.1=none/\p.1≠X.env.locals/\p.1 ∉ X.fs/\∀ v,p.2.data≠.cell v):Inv X JS Z H s :=
 ⟨I.ok,I.os,I.bare,I.base,I.loc,I.cell,I.free,I.iQ,fun p hp=>(abn.mp hp).elim (fun z=>I.pin p (acE _ z)) (h p),I.cu,I.len⟩
theorem ui(hN:N.Nodup){i j:Nat}(a:N[i]?=some x)(b:N[j]?=some x):i=j:=by
 obtain⟨h1,e1⟩:=aaH.mp a;obtain⟨h2,e2⟩:=aaH.mp b;exact(List.getElem_inj hN).mp (e1.trans e2.symm)
theorem AR{i:Nat}{Q:Unit->Shared->Prop}(I:Inv X pins Z H s)(hN:X.N.Nodup)(hi:X.N[i]?=some x)(hx:Loc X.env.scope x)(r:RelV v u)(h:∀ s',Inv X pins (Z.set i (some v)) H s'->(∃ a,Heap.SameBut a s.heap s'.heap/\(a=X.env.locals\/X.env.cells.lookup x=some a))->Q () s')(hf:autoParam (X.fn x=true\/X.env.scope.names.lookup x=some .local) ra4):wpAny M A (storeName X.env x u) Q E s:=by
 obtain⟨m,hn,hl⟩:=id I.loc;have Vn:(X.env.scope.kind == .class||(X.env.scope.kind == .module&&X.env.locals != X.env.globals))=false:=by rw[I.ok.kind];rfl
 have Qq:i < Z.length:=by rw[I.len];exact(aaH.mp hi).1
 have LW:=I.LW;have tracked:∀{a:Addr} {h':Heap},(∃ o,s.heap.get? a=some o/\H a=none)->Heap.SameBut a s.heap h'->eV X.prog X.w H h':=fun{a h'} ha hs b ob e=>by
  obtain⟨_,_,JT⟩:=ha;refine(I.cu b ob e).uh (fun c w' hc q=>(hs.2 c ?_).trans q) (fun _ q=>q) fun _ _ q=>q;rintro rfl;rcases hc with rfl | hc
  .rw[JT]at e;cases e
  .rw[JT]at hc;cases hc
 rcases hx with hk | hk
 .refine wpAny_storeName_local hk hn (fun h' Qr hs=>?_) Vn;obtain⟨oL,_,_,hoL,_⟩:=id hn;refine h _ ⟨I.ok,I.os,I.bare,⟨fun b o e n hb hx=>?_,fun b o e n hb hx=>?_,I.base.free,fun b o e hx=>?_,I.base.rC,I.base.pN,I.base.rD⟩,⟨_,Qr,fun j y v' e1 e2 e3=>?_⟩,fun y c e=>?_,I.free,I.iQ,fun p hp=>?_,tracked ⟨oL,hoL,I.free⟩ hs,by simpa using I.len⟩ ⟨_,hs,.inl rfl⟩
  .exact(hs.2 b (aa6 (aaS (aaF e) I.ok.above))).trans (I.base.keep b o e n hb hx)
  .obtain⟨sl,e1⟩:=I.base.slot b o e n hb hx;exact⟨sl,(hs.2 b (aa6 (aaS (aaF e) I.ok.above))).trans e1⟩
  .obtain⟨o',e1⟩:=I.base.there b o e hx;exact⟨o',(hs.2 b (aa6 (aaS (aaF e) I.ok.above))).trans e1⟩
  .by_cases hj:j=i
   .subst hj;rw[hi]at e1;cases e1;rw[List.getElem?_set_self Qq]at e2;cases e2;exact⟨u,r,.inl ⟨hk,@2⟩⟩
   .rw[List.getElem?_set_ne (acD hj)]at e2;obtain⟨u',r',q⟩:=hl j y v' e1 e2 e3;refine⟨u',r',?_⟩;rcases q with⟨k,e⟩ | ⟨k,c,e,z⟩
    .refine .inl ⟨k,?_⟩;have:y≠x:=fun e=>hj (ui hN e1 (e▸hi));simp[this,e]
    .exact .inr ⟨k,c,e,z.sameBut hs (LW y c e)⟩
  .obtain⟨w',z⟩:=I.cell y c e;exact⟨w',z.sameBut hs (LW y c e)⟩
  .obtain⟨e,n,ne,nf,d⟩:=I.pin p hp;exact⟨(hs.2 p.1 ne).trans e,n,ne,nf,d⟩
 .have Vo:X.fn x=true:=by
   rcases hf with z | z
   .exact z
   .rw[z]at hk;cases hk
  obtain⟨c,hc⟩:=I.ok.has x (.inl hk);obtain⟨w',z⟩:=I.cell x c hc;refine wpAny_storeName_cell I.ok.kind hk hc z (fun h' Ct hs=>?_);obtain⟨oc,YG,Vp⟩:=id z;refine h { s with heap:=h' } ⟨I.ok,I.os,I.bare,⟨fun b o e n hb hx=>?_,fun b o e n hb hx=>?_,I.base.free,fun b o e hx=>?_,I.base.rC,I.base.pN,I.base.rD⟩,⟨m,hn.sameBut hs (acD (LW x c hc)),fun j y v' e1 e2 e3=>?_⟩,fun y c' e=>?_,I.free,I.iQ,fun p hp=>?_,tracked ⟨oc,YG,I.iQ x c hc⟩ hs,by simpa using I.len⟩ ⟨c,hs,.inr hc⟩
  .exact(hs.2 b (aa6 (aaS (aaF e) (I.ok.Qm x c Vo hc)))).trans (I.base.keep b o e n hb hx)
  .obtain⟨sl,e1⟩:=I.base.slot b o e n hb hx;exact⟨sl,(hs.2 b (aa6 (aaS (aaF e) (I.ok.Qm x c Vo hc)))).trans e1⟩
  .obtain⟨o',e1⟩:=I.base.there b o e hx;exact⟨o',(hs.2 b (aa6 (aaS (aaF e) (I.ok.Qm x c Vo hc)))).trans e1⟩
  .by_cases hj:j=i
   .subst hj;rw[hi]at e1;cases e1;rw[List.getElem?_set_self Qq]at e2;cases e2;exact⟨u,r,.inr ⟨.inl hk,c,hc,Ct⟩⟩
   .rw[List.getElem?_set_ne (acD hj)]at e2;obtain⟨u',r',q⟩:=hl j y v' e1 e2 e3;refine⟨u',r',?_⟩;rcases q with q | ⟨k,c',e,z'⟩
    .exact .inl q
    .refine .inr ⟨k,c',e,z'.sameBut hs ?_⟩;rintro rfl;exact hj (ui hN e1 (I.ok.inj _ _ _ e hc▸hi))
  .by_cases YH:c'=c
   .subst YH;exact⟨_,Ct⟩
   .obtain⟨w2,z2⟩:=I.cell y c' e;exact⟨w2,z2.sameBut hs YH⟩
  .obtain⟨e,n,ne,nf,d⟩:=I.pin p hp;refine⟨(hs.2 p.1 ?_).trans e,n,ne,nf,d⟩;intro q;rw[q,YG]at e;have q':oc=p.2:=abb e;exact d w' (by rw[<- q'];exact Vp)
theorem nX{i:Nat}{Q:Unit->Shared->Prop}(I:Inv X pins Z H s)(hN:X.N.Nodup)(hi:X.N[i]?=some x)(hx:Loc X.env.scope x)(r:RelV v u)(h:∀ s',Inv X pins (Z.set i (some v)) H s'->Q () s')(hf:autoParam (X.fn x=true\/X.env.scope.names.lookup x=some .local) ra4):wpAny M A (storeName X.env x u) Q E s :=
 AR I hN hi hx r (fun s' I' _=>h s' I') hf
theorem Inv.Qt(I:Inv X pins Z H s)(ho:s'.os=s.os)(u:Un (iB X.stack) ch H H' s.heap s'.heap)(cu:eV X.prog X.w H' s'.heap)(hg:AllBare s'.gens)(GN:∀ b∈ch,(b∈X.ex\/X.bg.heap.objs.size<=b)/\b≠X.env.locals/\(∀ x c,X.env.cells.lookup x=some c->c≠b)/\∀ p∈X.pn++pins,p.1≠b):Inv X pins Z H' s':=by
 obtain⟨h',g',d',t',o'⟩:=s';have e:o'=s.os:=ho;subst e;exact I.call (g':=g') (t':=t') (d':=d') u cu hg GN
end
abbrev XK:=Value->wS->Hp->Prop
abbrev St:=List (Option V)
variable {Z:St}
abbrev VK:=V->Hp->Prop
abbrev TE:=St->Hp->VK->Prop
variable {ta te:TE}
abbrev TT:=St->Hp->(Bool->Hp->Prop)->Prop
abbrev TA:=St->Hp->(List V->Hp->Prop)->Prop
structure Ends where
 nx:St->Hp->Prop
 rt:VK
 bk:St->Hp->Prop:=fun _ _=>False
 ct:St->Hp->Prop:=fun _ _=>False
abbrev TS:=Ends->St->Hp->Prop
def EP(X:Cx)(pins:yp)(Z:St)(Q:VK)(u:Value)(s':Shared):Prop:=∃ v H',Inv X pins Z H' s'/\RelV v u/\Q v H'
def TP(X:Cx)(pins:yp)(Z:St)(Q:Bool->Hp->Prop)(b:Bool)(s':Shared):Prop:=∃ H',Inv X pins Z H' s'/\Q b H'
def AP(X:Cx)(pins:yp)(Z:St)(Q:List V->Hp->Prop)(us:wf)(s':Shared):Prop:=∃ vs H',Inv X pins Z H' s'/\Vals vs us/\Q vs H'
def SP(X:Cx)(pins:yp)(D:Ends)(f:Flow)(s':Shared):Prop :=
 match f with
 | .next=>∃ bH H',Inv X pins bH H' s'/\D.nx bH H'
 | .brk=>∃ bH H',Inv X pins bH H' s'/\D.bk bH H'
 | .cont=>∃ bH H',Inv X pins bH H' s'/\D.ct bH H'
 | .ret u=>∃ v bH H',Inv X pins bH H' s'/\RelV v u/\D.rt v H'
def PE(X:Cx)(e:Expr)(t:TE):Prop :=
 ∀(pins:yp) (s:Shared) (Z:St) (H:Hp) (Q:VK),Inv X pins Z H s->t Z H Q->wpAny (model X.prog X.w) X.A (eval e X.env) (EP X pins Z Q) X.xe s
def PT(X:Cx)(e:Expr)(t:TT):Prop :=
 ∀(pins:yp) (s:Shared) (Z:St) (H:Hp) (Q:Bool->Hp->Prop),Inv X pins Z H s->t Z H Q->wpAny (model X.prog X.w) X.A (isTrue e X.env (eval e X.env)) (TP X pins Z Q) X.xe s
def PW(X:Cx)(e:Expr)(t:TT):Prop :=
 ∀(whole:Sem Value) (pins:yp) (s:Shared) (Z:St) (H:Hp) (Q:Bool->Hp->Prop),Inv X pins Z H s->t Z H Q->wpAny (model X.prog X.w) X.A (isTrue e X.env whole) (TP X pins Z Q) X.xe s
theorem PW.pt{e:Expr}{t:TT}(h:PW X e t):PT X e t:=h _
def PA(X:Cx)(es:v6)(t:TA):Prop :=
 ∀(pos:Pos) (pins:yp) (s:Shared) (Z:St) (H:Hp) (Q:List V->Hp->Prop),Inv X pins Z H s->t Z H Q->wpAny (model X.prog X.w) X.A (spliced (backTo pos (starEach es X.env))) (AP X pins Z Q) X.xe s
def PS(X:Cx)(st:Stmt)(t:TS):Prop :=
 ∀(pins:yp) (s:Shared) (Z:St) (H:Hp) (D:Ends),Inv X pins Z H s->t D Z H->wpAny (model X.prog X.w) X.A (exec st X.env) (SP X pins D) X.xe s
def zh(X:Cx)(st:ul)(t:TS):Prop :=
 ∀(pins:yp) (s:Shared) (Z:St) (H:Hp) (D:Ends),Inv X pins Z H s->t D Z H->wpAny (model X.prog X.w) X.A (execs st X.env) (SP X pins D) X.xe s
theorem cL{J:Type}{t:Sem J}{Q Q':J->Shared->Prop}(h:wpAny M A t Q E s)(hQ:∀ a s,Q a s->Q' a s):wpAny M A t Q' E s:=abP h hQ fun _ _ x=>x
section
def LX(i:Nat):TE:=fun Z H Q=>∃ v,Z[i]?=some (some v)/\Q v H
def tC(v:V):TE:=fun _ H Q=>Q v H
theorem LY{i:Nat}(hN:X.N[i]?=some x)(hv:Ud X.env.scope x)(hd:autoParam ((x == ("__debug__":Str))=false) ra1)(AS:autoParam ((x == ("__classdict__":Str))=false) ra1):PE X (.Name x pos) (LX i):=by
 intro pins s Z H Q I h;obtain⟨v,e,h⟩:=h;obtain⟨m,hn,hl⟩:=I.loc;obtain⟨u,r,l⟩:=hl i x v hN e hv;have fin:EP X pins Z Q u s:=⟨v,H,I,r,h⟩;rcases l with⟨hk,hm⟩ | ⟨hk,c,hc,JU⟩
 .exact wpAny_Name (wpAny_loadName_local I.ok.kind hk hn hm fin) hd
 .rcases hk with hk | hk
  .exact wpAny_Name (wpAny_loadName_cell I.ok.kind hk hc JU fin) hd
  .exact wpAny_Name (wpAny_loadName_free I.ok.kind hk hc JU fin AS) hd
theorem Cu{i j pos}:PE X (.Constant (.int i) j pos) (tC (.int i)):=fun _ _ _ H _ I h=>wpAny_Constant_int ⟨.int i,H,I.tok _,⟨_,rfl⟩,h⟩
theorem JV{b j pos}:PE X (.Constant (.bool b) j pos) (tC (.bl b)):=fun _ _ _ H _ I h=>Constant_bool ⟨.bl b,H,I,rfl,h⟩
theorem Cv{j pos}:PE X (.Constant .none j pos) (tC .dH):=fun _ _ _ H _ I h=>Constant_none ⟨.dH,H,I,rfl,h⟩
theorem Cw{x j pos}:PE X (.Constant (.str x) j pos) (tC (.str x)):=fun _ _ _ H _ I h=>Calls.Constant_str ⟨.str x,H,I.tok _,⟨_,rfl⟩,h⟩
def Gl(X:Cx)(x:Str):Prop:=X.env.kindOf x=some .globalImplicit
theorem nr(I:Inv X pins Z H s)(hg:Gl X x)(hm:X.mg x=some u)(h:Q u s)(hd:autoParam ((x == ("__debug__":Str))=false) ra1):wpAny (model X.prog X.w) X.A (eval (.Name x pos) X.env) Q E s :=
 Calls.Name_function_global I.ok.kind hg (Calls.loadGlobal_global (by rw[I.ok.glob];exact I.mod.glob.keeps I.bk) hm h) hd
theorem ki(I:Inv X pins Z H s)(hg:Gl X x)(hm:X.mg x=none)(hv:bootBuiltins x=some u)(h:Q u s)(hn:autoParam (x ≠ "__name__") ra1)(hd:autoParam ((x == ("__debug__":Str))=false) ra1):wpAny (model X.prog X.w) X.A (eval (.Name x pos) X.env) Q E s:=by
 obtain⟨mb,h1,h2⟩:=I.mod.blt;exact Calls.Name_function_global I.ok.kind hg (Calls.loadGlobal_builtin (by rw[I.ok.glob];exact I.mod.glob.keeps I.bk) hm (by rw[I.ok.blt];exact h1.keeps I.bk) ((h2 x hn).trans hv) h) hd
theorem zi(hg:Gl X x)(hm:X.mg x=some u)(r:RelV v u)(hd:autoParam ((x == ("__debug__":Str))=false) ra1):PE X (.Name x pos) (tC v) :=
 fun _ _ _ H _ I h=>nr I hg hm ⟨v,H,I,r,h⟩ hd
theorem G4(hg:Gl X x)(hm:X.mg x=none)(hv:bootBuiltins x=some u)(r:RelV v u)(hn:autoParam (x ≠ "__name__") ra1)(hd:autoParam ((x == ("__debug__":Str))=false) ra1):PE X (.Name x pos) (tC v) :=
 fun _ _ _ H _ I h=>ki I hg hm hv ⟨v,H,I,r,h⟩ hn hd
variable {a b:Expr}{tb:TE}
def PC(X:Cx)(op:CmpOp)(a b:Expr)(t:TE):Prop :=
 ∀(pins:yp) (s:Shared) (Z:St) (H:Hp) (Q:VK),Inv X pins Z H s->t Z H Q ->
  wpAny (model X.prog X.w) X.A (eval a X.env) (fun v bL=>wpAny (model X.prog X.w) X.A (eval b X.env) (fun u bw=>wpAny (model X.prog X.w) X.A (compareOp op v u) (EP X pins Z Q) X.xe bw) X.xe bL) X.xe s
theorem uj(b:Expr)(h:op≠.In)(h2:op≠.NotIn):behindInMarks op b=false:=by
 have e1:(op == CmpOp.In)=false:=by cases op<;>first | rfl | exact absurd rfl h
 have e2:(op == CmpOp.NotIn)=false:=by cases op<;>first | rfl | exact absurd rfl h2
 cases b<;>simp[behindInMarks,e1,e2]
def G5(ta:TE):TE:=fun Z H Q=>ta Z H fun x H1=>Q (.bl (decide (x=.dH))) H1
def Cy(ta:TE):TE:=fun Z H Q=>ta Z H fun x H1=>Q (.bl (!decide (x=.dH))) H1
theorem RelV.uk{x:V}{v:Value}(r:RelV x v):(v == Value.none)=decide (x=.dH):=by
 cases x with
 | dH=>cases r;rfl
 | bl _=>cases r;rfl
 | int _=>obtain⟨t,rfl⟩:=r;rfl
 | str _=>obtain⟨t,rfl⟩:=r;rfl
 | zf _=>obtain⟨t,rfl⟩:=r;rfl
 | G1 _=>obtain⟨t,rfl⟩:=r;rfl
 | ref _=>cases r;rfl
 | ty _=>cases r;rfl
theorem Cz{j pos'}(ha:PE X a ta):PC X .Is a (.Constant .none j pos') (G5 ta):=by
 intro pins s Z H Q I h;refine cL (ha pins s Z H _ I h) fun v s1 zz=>?_;obtain⟨x,H1,I1,r1,q1⟩:=zz;exact Constant_none (is_none_gen ⟨.bl _,H1,I1,by rw[r1.uk];rfl,q1⟩)
theorem G6{j pos'}(ha:PE X a ta):PC X .IsNot a (.Constant .none j pos') (Cy ta):=by
 intro pins s Z H Q I h;refine cL (ha pins s Z H _ I h) fun v s1 zz=>?_;obtain⟨x,H1,I1,r1,q1⟩:=zz;exact Constant_none (isnot_none_gen ⟨.bl _,H1,I1,by rw[r1.uk];rfl,q1⟩)
def tB(t:TE):TT:=fun Z H Q=>t Z H fun x H1=>∃ c,x=.bl c/\Q c H1
theorem LZ{t:TE}(h:PC X op a b t)(h1:autoParam (behindInMarks op b=false) raX):PE X (.Compare a [op] [b] pos) t:=fun pins s Z H Q I hw=>wpAny_Compare1 (h pins s Z H Q I hw) h1
theorem CA{t:TE}(h:PC X op a b t)(h1:autoParam (behindInMarks op b=false) raX):PT X (.Compare a [op] [b] pos) (tB t):=by
 intro pins s Z H Q I hw;refine wpAny_isTrue_Compare1 (cL (h pins s Z H _ I hw) fun v s1 h1=>cL h1 fun u s2 h2=>cL h2 fun c s3 zz=>?_) h1;obtain⟨x,H1,I1,r1,q1⟩:=zz;obtain⟨d,rfl,q⟩:=q1;cases r1;exact abS ⟨H1,I1,q⟩
theorem L0{e:Expr}{t:TE}(h:PE X e t)(he:autoParam (∀ whole,isTrue e X.env whole=(do let v <- whole;standAt e.pos;holding [v] (truthy v))) ra3):PT X e (tB t):=by
 intro pins s Z H Q I hw;refine isTrue_plain (cL (h pins s Z H _ I hw) fun v s1 ⟨x,H1,I1,r1,q1⟩=>?_) (he _);obtain⟨d,rfl,q⟩:=q1;cases r1;exact abS ⟨H1,I1,q⟩
variable {tA Uh:TT}{rest:v6}
def L1(t u:TT):TT:=fun Z H Q=>t Z H fun c H1=>if c=true then u Z H1 Q else Q false H1
def Vq(t u:TT):TT:=fun Z H Q=>t Z H fun c H1=>if c=true then Q true H1 else u Z H1 Q
def L3(t:TT):TT:=fun Z H Q=>t Z H fun c H1=>Q (!c) H1
theorem G7(ha:PT X a tA):PW X (.BoolOp .And [a] pos) tA:=by
 intro wh pins s Z H Q I h;refine isTrue_and (cL (ha pins s Z H Q I h) fun c s1 e=>?_);cases c with
 | true=>exact isTrue_and_nil e
 | false=>exact e
theorem L4(ha:PT X a tA):PW X (.BoolOp .Or [a] pos) tA:=by
 intro wh pins s Z H Q I h;refine isTrue_or (cL (ha pins s Z H Q I h) fun c s1 e=>?_);cases c with
 | false=>exact isTrue_or_nil e
 | true=>exact e
theorem L5(ha:PT X a tA)(hb:PW X (.BoolOp .And (b::rest) pos) Uh):PW X (.BoolOp .And (a::b::rest) pos) (L1 tA Uh):=by
 intro wh pins s Z H Q I h;refine isTrue_and (cL (ha pins s Z H _ I h) fun c s1 ⟨H1,I1,q1⟩=>?_);cases c with
 | true=>exact hb wh pins s1 Z H1 Q I1 q1
 | false=>exact⟨H1,I1,q1⟩
theorem Qu(ha:PT X a tA)(hb:PW X (.BoolOp .Or (b::rest) pos) Uh):PW X (.BoolOp .Or (a::b::rest) pos) (Vq tA Uh):=by
 intro wh pins s Z H Q I h;refine isTrue_or (cL (ha pins s Z H _ I h) fun c s1 zz=>?_);obtain⟨H1,I1,q1⟩:=zz;cases c with
 | true=>exact⟨H1,I1,q1⟩
 | false=>exact hb wh pins s1 Z H1 Q I1 q1
theorem L6(ha:PT X a tA):PT X (.UnaryOp .Not a pos) (L3 tA):=by
 intro pins s Z H Q I h;exact isTrue_not (ha pins s Z H (fun c H1=>Q (!c) H1) I h)
def CB(ta tb:TE):TE:=fun Z H Q=>ta Z H fun x H1=>∃ c,x=.bl c/\if c=true then tb Z H1 Q else Q (.bl false) H1
def L7(ta tb:TE):TE:=fun Z H Q=>ta Z H fun x H1=>∃ c,x=.bl c/\if c=true then Q (.bl true) H1 else tb Z H1 Q
def CC(ta:TE):TE:=fun Z H Q=>ta Z H fun x H1=>∃ c,x=.bl c/\Q (.bl (!c)) H1
theorem L8{op}{t:TE}(h:PE X a t):PE X (.BoolOp op [a] pos) t:=fun pins s Z H Q I hw=>BoolOp_one (h pins s Z H Q I hw)
theorem L9(ha:PE X a ta)(hb:PE X (.BoolOp .And (b::rest) pos) tb):PE X (.BoolOp .And (a::b::rest) pos) (CB ta tb):=by
 intro pins s Z H Q I h;refine BoolOp_and (cL (ha pins s Z H _ I h) fun v s1 zz=>?_);obtain⟨x,H1,I1,r1,q1⟩:=zz;obtain⟨c,rfl,q1⟩:=q1;cases r1;refine abS ?_;cases c with
 | true=>exact hb pins s1 Z H1 Q I1 q1
 | false=>exact⟨.bl false,H1,I1,rfl,q1⟩
theorem Qv(ha:PE X a ta)(hb:PE X (.BoolOp .Or (b::rest) pos) tb):PE X (.BoolOp .Or (a::b::rest) pos) (L7 ta tb):=by
 intro pins s Z H Q I h;refine BoolOp_or (cL (ha pins s Z H _ I h) fun v s1 zz=>?_);obtain⟨x,H1,I1,r1,q1⟩:=zz;obtain⟨c,rfl,q1⟩:=q1;cases r1;refine abS ?_;cases c with
 | false=>exact hb pins s1 Z H1 Q I1 q1
 | true=>exact⟨.bl true,H1,I1,rfl,q1⟩
theorem Ma(ha:PE X a ta):PE X (.UnaryOp .Not a pos) (CC ta):=by
 intro pins s Z H Q I h;refine UnaryOp_ (cL (ha pins s Z H _ I h) fun v s1 zz=>?_);obtain⟨x,H1,I1,r1,q1⟩:=zz;obtain⟨c,rfl,q1⟩:=q1;cases r1;exact not_of (abS ⟨.bl (!c),H1,I1,rfl,q1⟩)
def Vr(t:TT)(ta tb:TE):TE:=fun Z H Q=>t Z H fun c H1=>if c=true then ta Z H1 Q else tb Z H1 Q
theorem CD(hc:PT X c tA)(ha:PE X a ta)(hb:PE X b tb):PE X (.IfExp c a b pos) (Vr tA ta tb):=by
 intro pins s Z H Q I h;refine wpAny_IfExp (cL (hc pins s Z H _ I h) fun d s1 ⟨H1,I1,q1⟩=>?_);cases d with
 | true=>exact ha pins s1 Z H1 Q I1 q1
 | false=>exact hb pins s1 Z H1 Q I1 q1
end
noncomputable def gk(K:zn)(H:Hp)(a:Addr)(xs:List V):Prop :=
 Rd H a (.lst xs) \/
  ∃(o:Obj) (aV:Array Value) (n:Nat),K.lookup a=some o/\o.cls=.type "list"/\o.dict=none/\o.data=.seq aV n/\aV.size<=sizeLine/\Vals xs aV.toList
noncomputable def fX(K:zn)(H:Hp)(a:Addr)(xs:List V):Prop :=
 Rd H a (.tup xs) \/
  ∃(o:Obj) (aV:Array Value) (n:Nat),K.lookup a=some o/\o.cls=.type "tuple"/\o.data=.seq aV n/\aV.size<=sizeLine/\Vals xs aV.toList
noncomputable def Qw:Value->Option V
 | .none=>some .dH
 | .bool b=>some (.bl b)
 | .int i _=>some (.int i)
 | .str x _=>some (.str x)
 | .bytes b _=>some (.zf b)
 | .float b _=>some (.G1 b)
 | .ref a=>some (.ref a)
 | .type n=>some (.ty n)
 | _=>none
theorem RelV.abs{x:V}(r:RelV x u):Qw u=some x:=by
 cases x with
 | dH=>cases r;rfl
 | bl _=>cases r;rfl
 | int _=>obtain⟨t,rfl⟩:=r;rfl
 | str _=>obtain⟨t,rfl⟩:=r;rfl
 | zf _=>obtain⟨t,rfl⟩:=r;rfl
 | G1 _=>obtain⟨t,rfl⟩:=r;rfl
 | ref _=>cases r;rfl
 | ty _=>cases r;rfl
theorem RelV.inj{x y:V}{u:Value}(r:RelV x u)(q:RelV y u):x=y:=abb (r.abs.symm.trans q.abs)
theorem Vals.inj:∀{xs ys:List V} {us:wf},Vals xs us->Vals ys us->xs=ys
 | _,_,_,.nil,.nil=>rfl
 | _,_,_,.cons r t,.cons r' t'=>by rw[r.inj r',Vals.inj t t']
section
variable {xs ys:List V}
theorem gk.of{K:zn}(h:H a=some (.lst xs)):gk K H a xs:=.inl (.inl h)
theorem fX.of{K:zn}(h:H a=some (.tup xs)):fX K H a xs:=.inl (.inl h)
theorem Inv.list(I:Inv X pins Z H s)(h:gk X.K H a xs):∃ aV:List Value,Vals xs aV/\PlainL s.heap a aV.toArray/\xs.length<=sizeLine:=by
 rcases h with h | ⟨o,aV,n,hk,hc,hd,hs,hz,r⟩
 .obtain⟨z,aV,n,r,e⟩:=h.ok I.cu;exact⟨aV,r,⟨_,n,e,rfl,rfl,rfl⟩,z⟩
 .refine⟨aV.toList,r,⟨o,n,I.mr a o hk,hc,hd,by simpa using hs⟩,?_⟩;have e:=r.length;simp only[aa7]at e;omega
theorem Inv.tuple(I:Inv X pins Z H s)(h:fX X.K H a xs):∃ aV:List Value,Vals xs aV/\IsTup s.heap a aV.toArray/\xs.length<=sizeLine:=by
 rcases h with h | ⟨o,aV,n,hk,hc,hs,hz,r⟩
 .obtain⟨z,aV,r,p⟩:=h.ok I.cu;exact⟨aV,r,p,z⟩
 .refine⟨aV.toList,r,⟨o,I.mr a o hk,hc,n,by simpa using hs⟩,?_⟩;have e:=r.length;simp only[aa7]at e;omega
theorem Inv.um(I:Inv X pins Z H s)(h:gk X.K H a xs)(h':gk X.K H a ys):xs=ys:=by
 obtain⟨aV,r,⟨o,n,e,_,_,d⟩,_⟩:=I.list h;obtain⟨its',r',⟨o',n',e',_,_,d'⟩,_⟩:=I.list h';rw[e]at e';cases e';rw[d]at d';injection d' with d1 _
 have:aV=its':=by simpa using ab4 Array.toList d1
 subst this;exact r.inj r'
theorem Inv.qe(I:Inv X pins Z H s)(h:fX X.K H a xs)(h':fX X.K H a ys):xs=ys:=by
 obtain⟨aV,r,⟨o,e,_,n,d⟩,_⟩:=I.tuple h;obtain⟨its',r',⟨o',e',_,n',d'⟩,_⟩:=I.tuple h';rw[e]at e';cases e';rw[d]at d';injection d' with d1 _
 have:aV=its':=by simpa using ab4 Array.toList d1
 subst this;exact r.inj r'
end
noncomputable abbrev Cx.nY(X:Cx)(E:xz):Cx:={ X with xe:=E }
noncomputable abbrev Cx.AU(X:Cx):Cx:=X.nY fun _ _=>False
theorem Cx.Ok.nY(ok:X.Ok)(E:xz):(X.nY E).Ok :=
 ⟨ok.mod,ok.kind,ok.glob,ok.blt,ok.above,ok.inj,ok.has,ok.Qm,ok.hd,ok.frames,ok.LV,ok.Ue,ok.bs,ok.JQ,ok.Cq,ok.Cr,ok.mM,ok.GL⟩
theorem Cx.Ok.jt(ok:(X.nY E).Ok):X.Ok :=
 ⟨ok.mod,ok.kind,ok.glob,ok.blt,ok.above,ok.inj,ok.has,ok.Qm,ok.hd,ok.frames,ok.LV,ok.Ue,ok.bs,ok.JQ,ok.Cq,ok.Cr,ok.mM,ok.GL⟩
theorem Inv.nY(I:Inv X pins Z H s)(E:xz):Inv (X.nY E) pins Z H s:=⟨I.ok.nY E,I.os,I.bare,I.base,I.loc,I.cell,I.free,I.iQ,I.pin,I.cu,I.len⟩
theorem Inv.jt(I:Inv (X.nY E) pins Z H s):Inv X pins Z H s:=⟨I.ok.jt,I.os,I.bare,I.base,I.loc,I.cell,I.free,I.iQ,I.pin,I.cu,I.len⟩
theorem SP.jt{D:Ends}{f:Flow}{s':Shared}(h:SP (X.nY E) pins D f s'):SP X pins D f s':=by
 cases f with
 | next=>obtain⟨bH,H',I,q⟩:=h;exact⟨bH,H',I.jt,q⟩
 | brk=>obtain⟨bH,H',I,q⟩:=h;exact⟨bH,H',I.jt,q⟩
 | cont=>obtain⟨bH,H',I,q⟩:=h;exact⟨bH,H',I.jt,q⟩
 | ret u=>obtain⟨v,bH,H',I,r,q⟩:=h;exact⟨v,bH,H',I.jt,r,q⟩
theorem zh.AU{st:ul}{t:TS}(h:zh X.AU st t):zh X st t:=fun pins s Z H D I hw =>
 abP (h pins s Z H D (I.nY _) hw) (fun _ _ q=>q.jt) fun _ _ z=>False.elim z
section
variable {st:Stmt}{rest:ul}{t u:TS}{e:Expr}
def CF:TS:=fun D Z H=>D.nx Z H
def Mb(t u:TS):TS:=fun D Z H=>t { D with nx:=u D } Z H
theorem G8:zh X [] CF:=fun _ _ Z H _ I h=>adh ⟨Z,H,I,h⟩
theorem CG(h1:PS X st t)(h2:zh X rest u):zh X (st::rest) (Mb t u):=by
 intro pins s Z H D I h;refine wpAny_execs_cons (cL (h1 pins s Z H { D with nx:=u D } I h) fun f s1 q=>?_);cases f with
 | next =>
  obtain⟨bH,H',I',q⟩:=q;exact h2 pins s1 bH H' D I' q
 | ret v=>exact q
 | brk=>exact q
 | cont=>exact q
theorem G9(h1:PS X st t):zh X [st] t:=by
 intro pins s Z H D I h;refine wpAny_execs_cons (cL (h1 pins s Z H D I h) fun f s1 q=>?_);cases f with
 | next=>exact adh q
 | ret v=>exact q
 | brk=>exact q
 | cont=>exact q
theorem Inv.quiet(I:Inv X pins Z H s):interactive X.env=false:=by simp[interactive,I.ok.kind]
def CH(te:TE):TS:=fun D Z H=>te Z H fun _ H1=>D.nx Z H1
theorem Ha(he:PE X e te)(hs:autoParam (swapsWith e none pos.line X.env=pure false) ra0):PS X (.Expr e pos) (CH te):=by
 intro pins s Z H D I h;exact wpAny_Expr_any (cL (he pins s Z H _ I h) fun v s1 zz=>(by obtain⟨x,H1,I1,r1,q1⟩:=zz;exact ⟨Z,H1,I1,q1⟩)) I.quiet hs
def Mc(te:TE):TS:=fun D Z H=>te Z H D.rt
theorem Md(he:PE X e te):PS X (.Return (some e) pos) (Mc te):=by
 intro pins s Z H D I h;exact wpAny_Return_some (cL (he pins s Z H _ I h) fun v s1 zz=>(by obtain⟨x,H1,I1,r1,q1⟩:=zz;exact ⟨x,Z,H1,I1,r1,q1⟩))
def Me(c:TT)(t u:TS):TS:=fun D Z H=>c Z H fun b H1=>if b=true then t D Z H1 else u D Z H1
theorem Qx{a b:ul}{tc:TT}(hc:PT X c tc)(ha:zh X a t)(hb:zh X b u):PS X (.If c a b pos) (Me tc t u):=by
 intro pins s Z H D I h;refine wpAny_If (cL (hc pins s Z H _ I h) fun d s1 ⟨H1,I1,q1⟩=>?_);cases d with
 | true=>exact ha pins s1 Z H1 D I1 q1
 | false=>exact hb pins s1 Z H1 D I1 q1
end
abbrev TG:=V->St->Hp->(St->Hp->Prop)->Prop
abbrev wF:=List V->St->Hp->(St->Hp->Prop)->Prop
def PG(X:Cx)(target:Expr)(t:TG):Prop :=
 ∀(pins:yp) (s:Shared) (Z:St) (H:Hp) (v:V) (u:Value) (Q:St->Hp->Prop),Inv X pins Z H s->RelV v u->t v Z H Q ->
  wpAny (model X.prog X.w) X.A (assign target X.env u) (fun _ s'=>∃ bH H',Inv X pins bH H' s'/\Q bH H') X.xe s
def PY(X:Cx)(ts:v6)(t:wF):Prop :=
 ∀(pins:yp) (s:Shared) (Z:St) (H:Hp) (vs:List V) (us:wf) (Q:St->Hp->Prop),Inv X pins Z H s->Vals vs us->t vs Z H Q ->
  wpAny (model X.prog X.w) X.A (assignInOrder ((assignEach ts X.env).map (·.2)) us) (fun _ s'=>∃ bH H',Inv X pins bH H' s'/\Q bH H') X.xe s
abbrev Hb:=V->V->V->Hp->(Hp->Prop)->Prop
def Mf(X:Cx)(t:Hb):Prop :=
 ∀(pins:yp) (s:Shared) (Z:St) (H:Hp) (o i v:V) (ov iv u:Value) (Q:Hp->Prop),Inv X pins Z H s->RelV o ov->RelV i iv->RelV v u->t o i v H Q ->
  wpAny (model X.prog X.w) X.A (setItem ov iv u) (fun _ s'=>∃ H',Inv X pins Z H' s'/\Q H') X.xe s
def nZ(i:Nat):TG:=fun v Z H Q=>Q (Z.set i (some v)) H
theorem Hc{i:Nat}(hN:X.N.Nodup)(hi:X.N[i]?=some x)(hx:Loc X.env.scope x)(hf:autoParam (X.fn x=true\/X.env.scope.names.lookup x=some .local) ra4):PG X (.Name x pos) (nZ i):=by
 intro pins s Z H v u Q I r h;exact wpAny_assign_Name (nX I hN hi hx r (fun s' I'=>⟨_,H,I',h⟩) hf)
def Mg:wF:=fun vs Z H Q=>vs=[]/\Q Z H
def CI(t:TG)(u:wF):wF:=fun vs Z H Q=>∃ v r,vs=v::r/\t v Z H fun bH H'=>u r bH H' Q
theorem Hd:PY X [] Mg:=by
 intro pins s Z H vs us Q I r h;obtain⟨e,h⟩:=h;subst e;cases r;exact assignInOrder_nil ⟨Z,H,I,h⟩
theorem CJ{e:Expr}{t:TG}{u:wF}(h1:PG X e t)(h2:PY X es u)(hs:autoParam ((assignEach (e::es) X.env).map (·.2)=assign e X.env::(assignEach es X.env).map (·.2)) ra0):PY X (e::es) (CI t u):=by
 intro pins s Z H vs us Q I r h;obtain⟨v,vr,e1,h⟩:=h;subst e1;cases r with
 | cons r rr =>
  rw[hs];refine assignInOrder_cons (cL (h1 pins s Z H _ _ _ I r h) fun _ s1 zz=>?_);obtain⟨PZ,H1,I1,q1⟩:=zz;exact h2 pins s1 PZ H1 _ _ Q I1 rr q1
noncomputable def Qy(K:zn)(n:Nat)(t:wF):TG:=fun v Z H Q=>∃ a xs,v=.ref a/\fX K H a xs/\xs.length=n/\t xs Z H Q
theorem Mh{k:Nat}{t:wF}{n:Nat}(hc:X.calm=true)(h:PY X es t)(hn:autoParam ((assignEach es X.env).length=n) ra0)(wG:autoParam ((assignEach es X.env).findIdx? (·.1)=none) ra0):PG X (.Tuple es k pos) (Qy X.K n t):=by
 intro pins s Z H v u Q I r hw;obtain⟨a,xs,e1,hq,hl,hw⟩:=hw;subst e1;cases r;obtain⟨aV,rv,ht,hz⟩:=I.tuple hq;refine assign_Tuple_tuple (I.ok.hd hc) ht (by simp[hn,<- hl,rv.length]) wG fun h' hx=>?_;have I1:Inv X pins Z H { s with heap:=h' }:=I.kept (t':=s.toks) fun b o e=>hx b o (aa6 (aaF e)) e;exact h pins _ Z H xs _ Q I1 (by simpa using rv) hw
def Mi(to ti:TE)(t:Hb):TG:=fun v Z H Q=>to Z H fun o H1=>ti Z H1 fun i H2=>t o i v H2 fun H3=>Q Z H3
theorem Mj{i:Expr}{to ti:TE}{t:Hb}(ho:PE X o to)(hi:PE X i ti)(hs:Mf X t)(ha:∀ v,assign (.Subscript o i pos) X.env v=(do
   let ov <- holding [v] (eval o X.env)
   let iv <- holding [v,ov] (eval i X.env)
   standAt pos
   holding [v,ov,iv] (setItem ov iv v)
   release [v,ov,iv] []):=by intro _;rfl):PG X (.Subscript o i pos) (Mi to ti t):=by
 intro pins s Z H v u Q I r h;rw[ha];refine aaw (abw (cL (ho pins s Z H _ I h) fun ov s1 zz=>?_));obtain⟨x,H1,I1,r1,q1⟩:=zz;refine aaw (abw (cL (hi pins s1 Z H1 _ I1 q1) fun iv s2 zy=>?_));obtain⟨y,H2,I2,r2,q2⟩:=zy;refine aaw (adM (aaw (abw (cL (hs pins s2 Z H2 x y v ov iv u _ I2 r1 r2 r q2) fun _ s3 zx=>?_))));obtain⟨H3,I3,q3⟩:=zx;exact wpAny_release ⟨Z,H3,I3,q3⟩
def wW(te:TE)(g:TG):TS:=fun D Z H=>te Z H fun x H1=>g x Z H1 D.nx
theorem Ml{e:Expr}{g:TG}(he:PE X e te)(hg:PG X tg g)(hs:autoParam (swapsWithSole [tg] e pos.line X.env=pure false) ra0)(hw:autoParam (swappedStores [tg] e X.env=pure none) ra0)(h1:autoParam ((assignEach [tg] X.env).map (·.2)=[assign tg X.env]) ra0):PS X (.Assign [tg] e pos) (wW te g):=by
 intro pins s Z H D I h;refine wpAny_Assign_stores (cL (he pins s Z H _ I h) fun v s1 zz=>?_) hs hw;obtain⟨x,H1,I1,r1,q1⟩:=zz;rw[h1];exact cL (hg pins s1 Z H1 x v _ I1 r1 q1) fun _ s2 q=>q
theorem Mm{i:Nat}{e:Expr}{pos':Pos}(hN:X.N.Nodup)(hi:X.N[i]?=some x)(hx:Loc X.env.scope x)(he:PE X e te)(hs:autoParam (swapsWith e (some (.Name x pos')) pos.line X.env=pure false) ra0)(hf:autoParam (X.fn x=true\/X.env.scope.names.lookup x=some .local) ra4) :
  PS X (.Assign [.Name x pos'] e pos) (wW te (nZ i)):=by
 intro pins s Z H D I h;refine wpAny_Assign_Name (cL (he pins s Z H _ I h) fun v s1 zz=>?_) hs;obtain⟨y,H1,I1,r1,q1⟩:=zz;exact nX I1 hN hi hx r1 (fun s2 I2=>⟨_,H1,I2,q1⟩) hf
def wX(c:TT)(tb:TS):TS:=fun D Z H=>∃ W:Nat->St->Hp->Prop,(∃ m,W m Z H)/\∀ m Z H,W m Z H ->
 c Z H fun b H1=>if b=true then ∃ N:St->Hp->Prop,(∀ bH H',N bH H'->∃ m',m' < m/\W m' bH H')/\tb { D with nx:=N,ct:=N,bk:=D.nx } Z H1 else D.nx Z H1
theorem CK{tc:TT}{tb:TS}(hp:PassesOwn (model X.prog X.w) X.A X.env X.xe)(hc:PT X c tc)(hb:zh X body tb):PS X (.While c body [] pos) (wX tc tb):=by
 intro pins s Z H D I h;obtain⟨W,⟨m0,w0⟩,turn⟩:=h;refine wpAny_While (codeAny_whileLoop (fun n s'=>∃ bH H',Inv X pins bH H' s'/\W n bH H') ?_ m0 ⟨Z,H,I,w0⟩);rintro n s1 ⟨PZ,H1,I1,w1⟩;refine aci hp (cL (hc pins s1 PZ H1 _ I1 (turn n PZ H1 w1)) fun b s2 zz=>?_);obtain⟨H2,I2,q2⟩:=zz;cases b with
 | true =>
  obtain⟨N,hN,q2⟩:=q2;rw[aaO rfl];refine aci hp (cL (hb pins s2 PZ H2 _ I2 q2) fun f s3 q3=>?_);cases f with
  | next =>
   obtain⟨zj,H3,I3,n3⟩:=q3;obtain⟨m',hm,w3⟩:=hN zj H3 n3;exact⟨m',hm,zj,H3,I3,w3⟩
  | cont =>
   obtain⟨zj,H3,I3,n3⟩:=q3;obtain⟨m',hm,w3⟩:=hN zj H3 n3;exact⟨m',hm,zj,H3,I3,w3⟩
  | brk=>exact q3
  | ret v=>exact q3
 | false =>
  rw[aaD aaK];exact adh ⟨PZ,H2,I2,q2⟩
structure It where
 go:Nat->Hp->Prop
 CL:Nat->Hp->V->Hp->Prop
 stop:Nat->Hp->Prop
def kJ(X:Cx)(pins:yp)(H:Hp)(b:Addr):Prop :=
 H b=none/\b≠X.env.locals/\b ∉ X.fs/\(b∈X.ex\/X.bg.heap.objs.size<=b)/\(∀ x c,X.env.cells.lookup x=some c->c≠b)/\∀ p∈X.pn++pins,p.1≠b
theorem Inv.wY(I:Inv X pins Z H s)(hb:s.heap.objs.size<=b)(hn:H' b=none):kJ X pins H' b:=by
 refine⟨hn,ab7 (aaS I.lt hb),I.Vk hb,.inr (aaE I.sz hb),fun x c e z=>?_,fun p hp z=>?_⟩
 .obtain⟨v,q⟩:=I.cell x c e;exact absurd (aaS q.lt (by rw[z];exact hb)) (abm _)
 .exact absurd (aaS (aaF (I.pin p hp).1) (by rw[z];exact hb)) (abm _)
structure Turn(P:u8)(w:World)(K:zn)(tg:Expr)(am:It)(fp:ww)(it:Addr)(tn:Nat->Heap->Prop):Prop where
 mem:it∈fp
 obj:∀ i h,tn i h->∀ b∈fp,∃ o,h.get? b=some o/\∀ v,o.data≠.cell v
 keep:∀ i h h',tn i h->(∀ b∈fp,∀ o,h.get? b=some o->h'.get? b=some o)->tn i h'
 item:∀(X:Cx),X.prog=P->X.w=w->X.K=K->X.calm=true->∀(i:Nat) (pins:yp) (s:Shared) (Z:St) (H:Hp) (E:xz),Inv X pins Z H s->(∀ b∈fp,kJ X pins H b)->tn i s.heap->am.go i H ->
  wpAny (model P w) X.A (pyNext (.ref it)) (fun r s1=>∃ u,r=some u /\
   wpAny (model P w) X.A (letOwnedTupleGo tg (.ref it) u) (fun _ s2=>∃ x H',Inv X pins Z H' s2/\RelV x u/\am.CL i H x H'/\tn (i+1) s2.heap/\∀ b∈fp,H' b=none) E s1) E s
 done:∀(X:Cx),X.prog=P->X.w=w->X.K=K->X.calm=true->∀(i:Nat) (pins:yp) (s:Shared) (Z:St) (H:Hp) (E:xz),Inv X pins Z H s->(∀ b∈fp,kJ X pins H b)->tn i s.heap->am.stop i H ->
  wpAny (model P w) X.A (pyNext (.ref it)) (fun r s1=>r=none/\Inv X pins Z H s1) E s
 self:∀(A:tx) (i:Nat) (s:Shared) (Q:xz) (E:xz),tn i s.heap->Q (.ref it) s->wpAny (model P w) A (pyIter (.ref it)) Q E s
abbrev TI:=St->Hp->(It->Hp->Prop)->Prop
def YI(X:Cx)(pins:yp)(Z:St)(tg:Expr)(R:It->Hp->Prop)(Ui:Value)(s2:Shared):Prop :=
 ∃(it:Addr) (fp:ww) (tn:Nat->Heap->Prop) (am:It) (H':Hp),Ui=.ref it/\Inv X pins Z H' s2/\Turn X.prog X.w X.K tg am fp it tn/\tn 0 s2.heap/\(∀ b∈fp,kJ X pins H' b)/\R am H'
def PI(X:Cx)(tg iter:Expr)(wi:TI):Prop :=
 ∀(pins:yp) (s:Shared) (Z:St) (H:Hp) (R:It->Hp->Prop),Inv X pins Z H s->wi Z H R ->
  wpAny (model X.prog X.w) X.A (eval iter X.env) (fun v s1=>wpAny (model X.prog X.w) X.A (pyIter v) (YI X pins Z tg R) X.xe s1) X.xe s
theorem CM{it:Addr}{o:Obj}{n:String}{vs:Array Value}{Q:Unit->Shared->Prop}(ho:s.heap.get? it=some o)(hc:o.cls=.type n)(hd:o.data=.fields vs)(hn:["enumerate", "zip", "dict_itemiterator", "dict_reverseitemiterator", "odict_iterator", "itertools.zip_longest", "itertools.pairwise"].contains n=false)(hQ:Q () s):wpAny M A (letOwnedTupleGo tg (.ref it) u) Q E s:=by
 unfold letOwnedTupleGo;cases tg<;>first
  | exact aay hQ
  | (cases u<;>first
    | exact aay hQ
    |(refine aaw (wpAny_load ho ?_)
      rw[hc,hd]
      show wpAny M A (if(["enumerate", "zip", "dict_itemiterator", "dict_reverseitemiterator", "odict_iterator", "itertools.zip_longest", "itertools.pairwise"].contains n&&vs[0]? == some (rawInt _))=true then _ else _) Q E s
      rw[aaD (by intro h;rw[hn,Bool.false_and]at h;cases h)]
      exact aay hQ))
noncomputable def Vs(K:zn)(a:Addr):It :=
 ⟨fun i H=>∃ xs x,gk K H a xs/\xs[i]?=some x,fun i H x H'=>H'=H/\∀ xs,gk K H a xs->xs[i]?=some x,fun i H=>∃ xs,gk K H a xs/\xs.length<=i⟩
noncomputable def Vt(K:zn)(a:Addr):It :=
 ⟨fun i H=>∃ xs x,fX K H a xs/\xs[i]?=some x,fun i H x H'=>H'=H/\∀ xs,fX K H a xs->xs[i]?=some x,fun i H=>∃ xs,fX K H a xs/\xs.length<=i⟩
def Uj(lo:Int)(n:Nat):It:=⟨fun i _=>i < n,fun i H x H'=>H'=H/\x=.int (lo+i),fun i _=>n<=i⟩
theorem AV{K:zn}(a it:Addr):Turn P w K tg (Vs K a) [it] it (fun i h=>h.IsListIter it a i) where
 mem:=by simp
 obj:=fun i h st b hb=>by
  have e:b=it:=by simpa using hb
  subst e;obtain⟨o,e,c,d⟩:=st;exact⟨o,e,fun v z=>by rw[d]at z;cases z⟩
 keep:=fun i h h' st k=>st.at fun o e=>k it @2 o e
 item:=by
  intro X hP hw hK hc i pins s Z H E I hf st hg;subst hP hw hK;obtain⟨xs,x,hq,hx⟩:=hg;obtain⟨aV,rv,p,hz⟩:=I.list hq;obtain⟨u,hu,ru⟩:=rv.get hx;obtain⟨f0,f1,f2,f3,f4,f5⟩:=hf it @2;refine wpAny_pyNext_list_item st p.isList (x:=u) (by simpa using hu) fun h' JW sb=>?_;have I1:Inv X pins Z H { s with heap:=h' }:=I.turned (t':=s.toks) (fun b o hb e=>(sb.2 b hb).trans e) f0 f1 f3 f4 f5;obtain⟨o,e,c,d⟩:=id JW;exact⟨u,rfl,CM (s:={ s with heap:=h' }) e c d @1 ⟨x,H,I1,ru,⟨rfl,fun ys hy=>by rw[I.um hy hq];exact hx⟩,JW,fun b hb=>(hf b hb).1⟩⟩
 done:=by
  intro X hP hw hK hc i pins s Z H E I hf st hg;subst hP hw hK;obtain⟨xs,hq,hx⟩:=hg;obtain⟨aV,rv,p,hz⟩:=I.list hq;obtain⟨f0,f1,f2,f3,f4,f5⟩:=hf it @2;have hl:=rv.length;exact wpAny_pyNext_list_end (I.ok.hd hc) st p.isList (by simp;omega) fun h' eb=>⟨rfl,I.turned (t':=s.toks) (fun b o hb e=>eb b o hb e) f0 f1 f3 f4 f5⟩
 self:=fun _ _ _ _ _ st h=>wpAny_pyIter_listiter st h
theorem wZ{K:zn}(a it:Addr):Turn P w K tg (Vt K a) [it] it (fun i h=>h.IsTupleIter it a i) where
 mem:=by simp
 obj:=fun i h st b hb=>by
  have e:b=it:=by simpa using hb
  subst e;obtain⟨o,e,c,d⟩:=st;exact⟨o,e,fun v z=>by rw[d]at z;cases z⟩
 keep:=fun i h h' st k=>st.at fun o e=>k it @2 o e
 item:=by
  intro X hP hw hK hc i pins s Z H E I hf st hg;subst hP hw hK;obtain⟨xs,x,hq,hx⟩:=hg;obtain⟨aV,rv,p,hz⟩:=I.tuple hq;obtain⟨u,hu,ru⟩:=rv.get hx;obtain⟨f0,f1,f2,f3,f4,f5⟩:=hf it @2;refine wpAny_pyNext_tuple_item st (show s.heap.IsTuple a aV.toArray from p) (x:=u) (by simpa using hu) fun h' JW sb=>?_;have I1:Inv X pins Z H { s with heap:=h' }:=I.turned (t':=s.toks) (fun b o hb e=>(sb.2 b hb).trans e) f0 f1 f3 f4 f5;obtain⟨o,e,c,d⟩:=id JW;exact⟨u,rfl,CM (s:={ s with heap:=h' }) e c d @1 ⟨x,H,I1,ru,⟨rfl,fun ys hy=>by rw[I.qe hy hq];exact hx⟩,JW,fun b hb=>(hf b hb).1⟩⟩
 done:=by
  intro X hP hw hK hc i pins s Z H E I hf st hg;subst hP hw hK;obtain⟨xs,hq,hx⟩:=hg;obtain⟨aV,rv,p,hz⟩:=I.tuple hq;obtain⟨f0,f1,f2,f3,f4,f5⟩:=hf it @2;have hl:=rv.length;exact wpAny_pyNext_tuple_end (I.ok.hd hc) st (show s.heap.IsTuple a aV.toArray from p) (by simp;omega) fun h' eb=>⟨rfl,I.turned (t':=s.toks) (fun b o hb e=>eb b o hb e) f0 f1 f3 f4 f5⟩
 self:=fun _ _ _ _ _ st h=>wpAny_pyIter_tupleiter st h
theorem xa{K:zn}(it:Addr)(lo:Int)(n:Nat):Turn P w K tg (Uj lo n) [it] it (fun i h=>IsRangeIter h it (lo+(i:Nat) * 1) ((n:Int) - (i:Nat)) 1) where
 mem:=by simp
 obj:=fun i h st b hb=>by
  have e:b=it:=by simpa using hb
  subst e;exact⟨_,st,fun v z=>by
   have z':Data.fields _=Data.cell v:=z;cases z'⟩
 keep:=fun i h h' st k=>k it @2 _ st
 item:=by
  intro X hP hw hK hc i pins s Z H E I hf st hg;subst hP hw hK;obtain⟨f0,f1,f2,f3,f4,f5⟩:=hf it @2;have W:=Walks.range (prog:=X.prog) (w:=X.w) (I.ok.hd hc) it lo 1 n;refine W.item i s _ _ hg st fun v h' tk hv JW kk=>?_;obtain⟨t,rfl⟩:=hv;have I1:Inv X pins Z H { s with heap:=h',toks:=tk }:=I.turned (fun b o hb e=>kk b o (by simpa using hb) e) f0 f1 f3 f4 f5;refine⟨_,rfl,CM (s:={ s with heap:=h',toks:=tk }) (n := "range_iterator") JW rfl rfl @1 ⟨.int (lo+i),H,I1,⟨t,?_⟩,⟨rfl,rfl⟩,JW,fun b hb=>(hf b hb).1⟩⟩;rw[Int.mul_one]
 done:=by
  intro X hP hw hK hc i pins s Z H E I hf st hg;subst hP hw hK;obtain⟨f0,f1,f2,f3,f4,f5⟩:=hf it @2;exact wpAny_pyNext_range_end (I.ok.hd hc) st (by have:n<=i:=hg;omega) fun h' eb=>⟨rfl,I.turned (t':=s.toks) (fun b o hb e=>eb b o hb e) f0 f1 f3 f4 f5⟩
 self:=fun _ _ _ _ _ st h=>wpAny_pyIter_rangeiter st h
noncomputable def CN(K:zn)(tl:TE):TI:=fun Z H R=>tl Z H fun x H1=>∃ a,x=.ref a/\(∃ xs,gk K H1 a xs)/\R (Vs K a) H1
noncomputable def Mn(K:zn)(tl:TE):TI:=fun Z H R=>tl Z H fun x H1=>∃ a,x=.ref a/\(∃ xs,fX K H1 a xs)/\R (Vt K a) H1
theorem He{l:Expr}{tl:TE}(hl:PE X l tl):PI X tg l (CN X.K tl):=by
 intro pins s Z H R I h;refine cL (hl pins s Z H _ I h) fun v s1 zz=>?_;obtain⟨x,H1,I1,r1,q1⟩:=zz;obtain⟨a,e,⟨xs,hq⟩,q⟩:=q1;subst e;cases r1;obtain⟨aV,rv,p,hz⟩:=I1.list hq;refine abT p.isList ?_;refine⟨s1.heap.objs.size,[s1.heap.objs.size],_,_,H1,rfl,I1.kept (t':=s1.toks) fun b o e=>aax _ e,AV a _,⟨_,aaG _ rfl,rfl,rfl⟩,fun b hb=>?_,q⟩;have e:b=s1.heap.objs.size:=by simpa using hb
 subst e;exact I1.wY (aaC _) (I1.cu.fresh (aaC _))
theorem Mo{l:Expr}{tl:TE}(hl:PE X l tl):PI X tg l (Mn X.K tl):=by
 intro pins s Z H R I h;refine cL (hl pins s Z H _ I h) fun v s1 zz=>?_;obtain⟨x,H1,I1,r1,q1⟩:=zz;obtain⟨a,e,⟨xs,hq⟩,q⟩:=q1;subst e;cases r1;obtain⟨aV,rv,p,hz⟩:=I1.tuple hq;refine acr (show s1.heap.IsTuple a aV.toArray from p) ?_;refine⟨s1.heap.objs.size,[s1.heap.objs.size],_,_,H1,rfl,I1.kept (t':=s1.toks) fun b o e=>aax _ e,wZ a _,⟨_,aaG _ rfl,rfl,rfl⟩,fun b hb=>?_,q⟩;have e:b=s1.heap.objs.size:=by simpa using hb
 subst e;exact I1.wY (aaC _) (I1.cu.fresh (aaC _))
theorem CO{R:It->Hp->Prop}{lo hi:Int}{t u v:Tok}{tk:Nat}(I:Inv X pins Z H s)(h1:-(2 ^ 62)<=lo)(h2:lo < 2 ^ 62)(h3:-(2 ^ 62)<=hi)(h4:hi < 2 ^ 62)(q:R (Uj lo (hi - lo).toNat) H):wpAny (model X.prog X.w) X.A (pyIter (.ref s.heap.objs.size)) (YI X pins Z tg R) E { s with heap:=s.heap.push { cls:=.type "range",data:=.fields #[.int lo t,.int hi u,.int 1 v] },toks:=tk }:=by
 refine wpAny_pyIter_range (IsRange.new ..) (small_one h1 h2 h3 h4) ?_;have I1:Inv X pins Z H { s with heap:=s.heap.push { cls:=.type "range",data:=.fields #[.int lo t,.int hi u,.int 1 v] },toks:=tk }:=I.kept fun b o e=>aax _ e;refine⟨(s.heap.push { cls:=.type "range",data:=.fields #[.int lo t,.int hi u,.int 1 v] }).objs.size,[(s.heap.push { cls:=.type "range",data:=.fields #[.int lo t,.int hi u,.int 1 v] }).objs.size],_,_,H,rfl,
  I1.kept (t':=tk) fun b o e=>aax _ e,xa _ lo (hi - lo).toNat,?_,fun b hb=>?_,q⟩
 .have e1:lo+((0:Nat):Int) * 1=lo:=by simp
  have e2:(((hi - lo).toNat:Nat):Int) - ((0:Nat):Int)=Builtin.Range.rangeSize lo hi 1:=by rw[rangeSize_one];split<;>omega
  show IsRangeIter _ _ (lo+((0:Nat):Int) * 1) ((((hi - lo).toNat:Nat):Int) - ((0:Nat):Int)) 1;rw[e1,e2];exact aaG _ rfl
 .have e:b=(s.heap.push { cls:=.type "range",data:=.fields #[.int lo t,.int hi u,.int 1 v] }).objs.size:=by simpa using hb
  subst e;exact I1.wY (aaC _) (I1.cu.fresh (aaC _))
def CP(ta:TA):TI:=fun Z H R=>ta Z H fun vs H1=>∃ j:Int,vs=[.int j]/\-(2 ^ 62)<=j/\j < 2 ^ 62/\R (Uj 0 j.toNat) H1
theorem AW{a:Expr}{ta:TA}(hg:Gl X "range")(hm:X.mg "range"=none)(ha:PA X [a] ta)(hs:autoParam (starEach [a] X.env=[(false,eval a X.env)]) ra0):PI X tg (.Call (.Name "range" p) [a] [] pos) (CP ta):=by
 intro pins s Z H R I h;refine Call_ (ki I hg hm boot_range (ab2 (cL (ha pos pins s Z H _ I h) fun us s1 zz=>?_) hs rfl));obtain⟨vs,H1,I1,r1,q1⟩:=zz;obtain⟨j,e,q1,q2,q⟩:=q1;subst e;cases r1 with
 | cons r rr =>
  cases rr;obtain⟨t,rfl⟩:=r;exact call_range_1 (CO I1 @0 @0 q1 q2 (by simpa using q))
def Mp(wi:TI)(g:TG)(tb:TS):TS:=fun D Z H=>wi Z H fun am H1=>∃ W:Nat->Nat->St->Hp->Prop,(∃ m,W 0 m Z H1)/\∀ i m Z H,W i m Z H ->
 (am.stop i H/\D.nx Z H)\/(am.go i H/\∃ N:St->Hp->Prop,(∀ bH H',N bH H'->∃ m',m' < m/\W (i+1) m' bH H')/\∀ x H',am.CL i H x H'->g x Z H' fun Ci H2=>tb { D with nx:=N,ct:=N,bk:=D.nx } Ci H2)
def gB(fp:ww)(h:Heap):List (Addr×Obj):=fp.filterMap fun b=>(h.get? b).map fun o=>(b,o)
theorem gc{o:Obj}(hb:b∈fp)(e:h.get? b=some o):(b,o)∈gB fp h:=adt.mpr ⟨b,hb,by rw[e];rfl⟩
theorem qf{p:Addr×Obj}(hp:p∈gB fp h):p.1∈fp/\h.get? p.1=some p.2:=by
 obtain⟨b,hb,e⟩:=adt.mp hp;cases q:h.get? b with
 | none=>rw[q]at e;cases e
 | some o =>
  rw[q]at e;have e':(b,o)=p:=abb e;subst e';exact⟨hb,q⟩
theorem Inv.pinned(I:Inv X pins Z H s)(hf:∀ b∈fp,kJ X pins H b)(ho:∀ b∈fp,∃ o,s.heap.get? b=some o/\∀ v,o.data≠.cell v):Inv X (pins++gB fp s.heap) Z H s :=
 I.zg fun p hp=>(abn.mp hp).elim (fun z=>I.pin p (aaW _ z)) fun z=>by
  obtain⟨hb,e⟩:=qf z;obtain⟨f0,f1,f2,_⟩:=hf p.1 hb;obtain⟨o,e',d⟩:=ho p.1 hb;rw[e]at e';cases e';exact⟨e,f0,f1,f2,d⟩
theorem Inv.kK{pl:yp}(I:Inv X (pins++pl) Z H s):Inv X pins Z H s:=I.zg fun p hp=>I.pin p (aaW _ (acE _ hp))
theorem Mq{iter:Expr}{wi:TI}{g:TG}{tb:TS}(hp:PassesOwn (model X.prog X.w) X.A X.env X.xe)(hc:X.calm=true)(hi:PI X tg iter wi)(hg:PG X tg g)(hb:zh X body tb)(hs:autoParam (∀ x,foldedSetIterable iter X.env x=pure x) ra3):PS X (.For tg iter body [] pos) (Mp wi g tb):=by
 intro pins s Z H D I h;refine wpAny_For (cL (hi pins s Z H _ I h) fun v s1 h1=>cL h1 fun Ui s2 h2=>?_) hs;obtain⟨it,fp,tn,am,H2,e,I2,T,qg,f2,W,⟨m0,w0⟩,turn⟩:=h2;subst e
 -- Qz stays true of P0 Mr objects through P0 loop
 have xb:∀{H':Hp},(∀ b∈fp,H' b=none)->∀ b∈fp,kJ X pins H' b:=fun hn b hb=>⟨hn b hb,(f2 b hb).2⟩;refine codeAny_forLoop_any (fun n s'=>∃ i bH H',Inv X pins bH H' s'/\tn i s'.heap/\(∀ b∈fp,H' b=none)/\W i n bH H') ?_ m0 ⟨0,Z,H2,I2,qg,fun b hb=>(f2 b hb).1,w0⟩;rintro n s3 ⟨i,zj,H3,I3,YJ,YK,w3⟩;rcases turn i n zj H3 w3 with⟨stop,qn⟩ | ⟨go,N,hN,step⟩
 .refine aci hp (cL (T.done X rfl rfl rfl hc i pins s3 zj H3 X.xe I3 (xb YK) YJ stop) fun r s4 zz=>?_);obtain⟨hr,I4⟩:=zz;subst hr;exact adh ⟨zj,H3,I4,qn⟩
 .refine aci hp (cL (T.item X rfl rfl rfl hc i pins s3 zj H3 X.xe I3 (xb YK) YJ go) fun r s4 zz=>?_);obtain⟨u,hr,h4⟩:=zz;subst hr;refine aci hp (cL h4 fun _ s5 zy=>?_);obtain⟨x,H5,I5,r5,y5,P1,Uk⟩:=zy;have QA:=I5.pinned (xb Uk) (T.obj _ _ P1);refine aci hp (cL (hg _ s5 zj H5 x u _ QA r5 (step x H5 y5)) fun _ s6 zx=>?_);obtain⟨σ6,H6,I6,q6⟩:=zx;refine aci hp (cL (hb _ s6 σ6 H6 _ I6 q6) fun f s7 q7=>?_);have again:∀{CQ:St} {H7:Hp},Inv X (pins++gB fp s5.heap) CQ H7 s7->N CQ H7->∃ m,m < n/\∃ i bH H',Inv X pins bH H' s7/\tn i s7.heap/\(∀ b∈fp,H' b=none)/\W i m bH H':=fun{CQ H7} I7 n7=>by
   obtain⟨m',hm,w7⟩:=hN CQ H7 n7;refine⟨m',hm,i+1,CQ,H7,I7.kK,T.keep _ _ _ P1 fun b hb o e=>(I7.pin (b,o) (aaW _ (aaW _ (gc hb e)))).1,fun b hb=>?_,w7⟩;obtain⟨o,e,d⟩:=T.obj _ _ P1 b hb;exact(I7.pin (b,o) (aaW _ (aaW _ (gc hb e)))).2.1
  cases f with
  | next=>obtain⟨CQ,H7,I7,n7⟩:=q7;exact again I7 n7
  | cont=>obtain⟨CQ,H7,I7,n7⟩:=q7;exact again I7 n7
  | brk=>obtain⟨CQ,H7,I7,q7⟩:=q7;exact⟨CQ,H7,I7.kK,q7⟩
  | ret v=>obtain⟨x7,CQ,H7,I7,r7,q7⟩:=q7;exact⟨x7,CQ,H7,I7.kK,r7,q7⟩
abbrev R2:=V->V->Hp->VK->Prop
def iP(X:Cx)(f:Value->Value->Sem Value)(r:R2):Prop :=
 ∀(pins:yp) (s:Shared) (Z:St) (H:Hp) (x y:V) (v u:Value) (Q:VK),Inv X pins Z H s->RelV x v->RelV y u->r x y H Q ->
  wpAny (model X.prog X.w) X.A (f v u) (EP X pins Z Q) X.xe s
def Ul(X:Cx)(f:Value->Sem Value)(r:V->Hp->VK->Prop):Prop :=
 ∀(pins:yp) (s:Shared) (Z:St) (H:Hp) (x:V) (v:Value) (Q:VK),Inv X pins Z H s->RelV x v->r x H Q ->
  wpAny (model X.prog X.w) X.A (f v) (EP X pins Z Q) X.xe s
def gb(X:Cx)(f:Value)(r:List V->Hp->VK->Prop):Prop :=
 ∀(pins:yp) (s:Shared) (Z:St) (H:Hp) (xs:List V) (us:wf) (Q:VK),Inv X pins Z H s->Vals xs us->r xs H Q ->
  wpAny (model X.prog X.w) X.A (call f us) (EP X pins Z Q) X.xe s
def AX(r:R2)(ta tb:TE):TE:=fun Z H Q=>ta Z H fun x H1=>tb Z H1 fun y H2=>r x y H2 Q
def Um(r:V->Hp->VK->Prop)(ta:TE):TE:=fun Z H Q=>ta Z H fun x H1=>r x H1 Q
def rI(C:Int->Int->Prop)(g:Int->Int->V):R2:=fun x y H Q=>∃ i j,x=.int i/\y=.int j/\C i j/\Q (g i j) H
def GP(g:Int->Int->V):R2:=fun x y H Q=>∃ i j,x=.int i/\y=.int j/\Q (g i j) H
def rU(g:Int->V):V->Hp->VK->Prop:=fun x H Q=>∃ i,x=.int i/\Q (g i) H
section
variable {a b:Expr}{tb tc:TE}
theorem Ms(ha:PE X a ta)(hb:PE X b tb){R:V->V->Hp->Prop}(I:Inv X pins Z H s)(h:ta Z H fun x H1=>tb Z H1 fun y H2=>R x y H2)(hf:∀ v u s2 x y H2,Inv X pins Z H2 s2->RelV x v->RelV y u->R x y H2->wpAny (model X.prog X.w) X.A (f v u) Q X.xe s2) :
  wpAny (model X.prog X.w) X.A (eval a X.env) (fun v bL=>wpAny (model X.prog X.w) X.A (eval b X.env) (fun u bw=>wpAny (model X.prog X.w) X.A (f v u) Q X.xe bw) X.xe bL) X.xe s:=by
 refine cL (ha pins s Z H _ I h) fun v s1 zz=>?_;obtain⟨x,H1,I1,r1,q1⟩:=zz;refine cL (hb pins s1 Z H1 _ I1 q1) fun u s2 zy=>?_;obtain⟨y,H2,I2,r2,q2⟩:=zy;exact hf v u s2 x y H2 I2 r1 r2 q2
theorem QB{op:Operator}{r:R2}(ho:iP X (binaryOp op) r)(ha:PE X a ta)(hb:PE X b tb):PE X (.BinOp a op b pos) (AX r ta tb):=by
 intro pins s Z H Q I h;exact wpAny_BinOp (Ms ha hb I h fun v u s2 x y H2 I2 rx ry q=>ho pins s2 Z H2 x y v u Q I2 rx ry q)
theorem QC{op:UnaryOp}{r:V->Hp->VK->Prop}(ho:Ul X (unaryOp op) r)(ha:PE X a ta):PE X (.UnaryOp op a pos) (Um r ta):=by
 intro pins s Z H Q I h;exact UnaryOp_ (cL (ha pins s Z H _ I h) fun v s1 zz=>(by obtain⟨x,H1,I1,r1,q1⟩:=zz;exact ho pins s1 Z H1 x v Q I1 r1 q1))
theorem Uo{C:Int->Int->Prop}{g:Int->Int->Int}(rule:∀(i j:Int) (t u:Tok) (s:Shared) (Q:xz) (E:xz),C i j->Q (.int (g i j) s.toks) { s with toks:=s.toks+1 }->wpAny (model X.prog X.w) X.A (f (.int i t) (.int j u)) Q E s) :
  iP X f (rI C fun i j=>.int (g i j)):=by
 intro pins s Z H x y v u Q I rx ry h;obtain⟨i,j,rfl,rfl,hc,q⟩:=h;obtain⟨t,rfl⟩:=rx;obtain⟨t',rfl⟩:=ry;exact rule i j t t' s _ _ hc ⟨.int (g i j),H,I.tok _,⟨_,rfl⟩,q⟩
theorem Mt{g:Int->Int->Int}(rule:∀(i j:Int) (t u:Tok) (s:Shared) (Q:xz) (E:xz),Q (.int (g i j) s.toks) { s with toks:=s.toks+1 }->wpAny (model X.prog X.w) X.A (f (.int i t) (.int j u)) Q E s) :
  iP X f (GP fun i j=>.int (g i j)):=by
 intro pins s Z H x y v u Q I rx ry h;obtain⟨i,j,rfl,rfl,q⟩:=h;obtain⟨t,rfl⟩:=rx;obtain⟨t',rfl⟩:=ry;exact rule i j t t' s _ _ ⟨.int (g i j),H,I.tok _,⟨_,rfl⟩,q⟩
theorem Hf{g:Int->Int->Bool}(rule:∀(i j:Int) (t u:Tok) (s:Shared) (Q:xz) (E:xz),Q (.bool (g i j)) s->wpAny (model X.prog X.w) X.A (f (.int i t) (.int j u)) Q E s) :
  iP X f (GP fun i j=>.bl (g i j)):=by
 intro pins s Z H x y v u Q I rx ry h;obtain⟨i,j,rfl,rfl,q⟩:=h;obtain⟨t,rfl⟩:=rx;obtain⟨t',rfl⟩:=ry;exact rule i j t t' s _ _ ⟨.bl (g i j),H,I,rfl,q⟩
def Vu(i j:Int):Prop:=0<=j/\j<=1000000/\i.natAbs < 2 ^ 64
def Mv(i j:Int):Prop:=(-(2 ^ 64) < i/\i < 2 ^ 64)\/(-(2 ^ 64) < j/\j < 2 ^ 64)
theorem Mv.ok{i j:Int}(h:Mv i j):IntMulOk i j:=by
 rcases h with⟨h1,h2⟩ | ⟨h1,h2⟩
 .exact .of_left (intBits_le_64 h1 h2)
 .exact .of_right (intBits_le_64 h1 h2)
theorem bf:iP X (binaryOp .Add) (GP fun i j=>.int (i+j)):=Mt fun _ _ _ _ _ _ _ q=>add_int q
theorem kj:iP X (binaryOp .Sub) (GP fun i j=>.int (i - j)):=Mt fun _ _ _ _ _ _ _ q=>sub_int q
theorem i8:iP X (binaryOp .Mult) (rI Mv fun i j=>.int (i * j)):=Uo fun _ _ _ _ _ _ _ hc q=>mul_int q hc.ok
theorem gU:iP X (binaryOp .Mod) (rI (fun _ j=>0 < j) fun i j=>.int (i % j)):=Uo fun i j _ _ _ _ _ hc q=>by
 have h1:(0:Int) < j:=hc;exact mod_int' @0 (by rw[Int.fmod_eq_emod_of_nonneg i @0];exact q)
theorem lJ:iP X (binaryOp .Pow) (rI Vu fun i j=>.int (i ^ j.toNat)):=Uo fun _ _ _ _ _ _ _ hc q=>pow_int_small hc.1 hc.2.1 hc.2.2 q
theorem rG:iP X (inplaceOp .Add) (GP fun i j=>.int (i+j)):=Mt fun _ _ _ _ _ _ _ q=>iadd_int q
theorem unI{f:Value->Sem Value}{g:Int->Int}(rule:∀(i:Int) (t:Tok) (s:Shared) (Q:xz) (E:xz),Q (.int (g i) s.toks) { s with toks:=s.toks+1 }->wpAny (model X.prog X.w) X.A (f (.int i t)) Q E s) :
  Ul X f (rU fun i=>.int (g i)):=by
 intro pins s Z H x v Q I rx h;obtain⟨i,rfl,q⟩:=h;obtain⟨t,rfl⟩:=rx;exact rule i t s _ _ ⟨.int (g i),H,I.tok _,⟨_,rfl⟩,q⟩
theorem rH:Ul X (unaryOp .USub) (rU fun i=>.int (-i)):=unI fun _ _ _ _ _ q=>neg_int q
end
noncomputable def QD:V->V->Bool
 | .dH,.dH=>true | .dH,.int _=>true | .int _,.dH=>true | .dH,.bl _=>true | .bl _,.dH=>true | .dH,.str _=>true | .str _,.dH=>true
 | .int _,.int _=>true | .bl _,.bl _=>true | .str _,.str _=>true | .zf _,.zf _=>true
 | .int _,.str _=>true | .str _,.int _=>true | .bl _,.str _=>true | .str _,.bl _=>true
 | _,_=>false
noncomputable def YL:R2:=fun x y H Q=>QD x y=true/\Q (.bl (decide (x=y))) H
noncomputable def YM:R2:=fun x y H Q=>QD x y=true/\Q (.bl (!decide (x=y))) H
theorem zk{i j:Int}:decide (V.int i=V.int j)=(i == j):=by
 rw[acR];simp
theorem CS{i j:Bool}:decide (V.bl i=V.bl j)=(i == j):=by
 rw[acR];simp
theorem zl{i j:Str}:decide (V.str i=V.str j)=(i == j):=by
 rw[acR];simp
theorem zm{i j:Array UInt8}:decide (V.zf i=V.zf j)=(i.toList == j.toList):=by
 rw[acR];cases i;cases j;simp
section
variable {a b:Expr}{tb tc:TE}
theorem bU{Q:VK}{k k':Bool}(I:Inv X pins Z H s)(q:Q (.bl k) H)(e:k=k'):EP X pins Z Q (.bool k') s:=by
 subst e;exact⟨.bl k,H,I,rfl,q⟩
theorem QE:iP X (compareOp .Eq) YL:=by
 intro pins s Z H x y v u Q I rx ry h;obtain⟨hs,q⟩:=h;cases x with
 | dH =>
  cases rx;cases y with
  | dH=>cases ry;exact PySem.EqNone.eq_none_none (bU I q @2)
  | bl j=>cases ry;exact PySem.EqNone.eq_none_bool (bU I q @2)
  | int j=>obtain⟨t',rfl⟩:=ry;exact PySem.EqNone.eq_none_int (bU I q @2)
  | str j=>obtain⟨t',rfl⟩:=ry;exact PySem.EqNone.eq_none_str (bU I q @2)
  | _=>exact absurd (show false=true from hs) aaK
 | bl i =>
  cases rx;cases y with
  | dH=>cases ry;exact PySem.EqNone.eq_bool_none (bU I q @2)
  | bl j=>cases ry;exact eq_bool (bU I q CS)
  | str j=>obtain⟨t',rfl⟩:=ry;exact PySem.EqMixed.eq_bool_str (bU I q @2)
  | _=>exact absurd (show false=true from hs) aaK
 | int i =>
  obtain⟨t,rfl⟩:=rx;cases y with
  | dH=>cases ry;exact PySem.EqNone.eq_int_none (bU I q @2)
  | int j=>obtain⟨t',rfl⟩:=ry;exact eq_int (bU I q zk)
  | str j=>obtain⟨t',rfl⟩:=ry;exact PySem.EqMixed.eq_int_str (bU I q @2)
  | _=>exact absurd (show false=true from hs) aaK
 | str i =>
  obtain⟨t,rfl⟩:=rx;cases y with
  | dH=>cases ry;exact PySem.EqNone.eq_str_none (bU I q @2)
  | bl j=>cases ry;exact PySem.EqMixed.eq_str_bool (bU I q @2)
  | int j=>obtain⟨t',rfl⟩:=ry;exact PySem.EqMixed.eq_str_int (bU I q @2)
  | str j=>obtain⟨t',rfl⟩:=ry;exact eq_str (bU I q zl)
  | _=>exact absurd (show false=true from hs) aaK
 | zf i =>
  obtain⟨t,rfl⟩:=rx;cases y with
  | zf j=>obtain⟨t',rfl⟩:=ry;exact PySem.W.eq_bytes (bU I q zm)
  | _=>exact absurd (show false=true from hs) aaK
 | _=>cases y<;>exact absurd (show false=true from hs) aaK
theorem QF:iP X (compareOp .NotEq) YM:=by
 intro pins s Z H x y v u Q I rx ry h;obtain⟨hs,q⟩:=h;cases x with
 | dH =>
  cases rx;cases y with
  | dH=>cases ry;exact PySem.EqNone.ne_none_none (bU I q @2)
  | bl j=>cases ry;exact PySem.EqNone.ne_none_bool (bU I q @2)
  | int j=>obtain⟨t',rfl⟩:=ry;exact PySem.EqNone.ne_none_int (bU I q @2)
  | str j=>obtain⟨t',rfl⟩:=ry;exact PySem.EqNone.ne_none_str (bU I q @2)
  | _=>exact absurd (show false=true from hs) aaK
 | bl i =>
  cases rx;cases y with
  | dH=>cases ry;exact PySem.EqNone.ne_bool_none (bU I q @2)
  | bl j=>cases ry;exact ne_bool (bU I q (ab4 not CS))
  | str j=>obtain⟨t',rfl⟩:=ry;exact PySem.EqMixed.ne_bool_str (bU I q @2)
  | _=>exact absurd (show false=true from hs) aaK
 | int i =>
  obtain⟨t,rfl⟩:=rx;cases y with
  | dH=>cases ry;exact PySem.EqNone.ne_int_none (bU I q @2)
  | int j=>obtain⟨t',rfl⟩:=ry;exact ne_int (bU I q (ab4 not zk))
  | str j=>obtain⟨t',rfl⟩:=ry;exact PySem.EqMixed.ne_int_str (bU I q @2)
  | _=>exact absurd (show false=true from hs) aaK
 | str i =>
  obtain⟨t,rfl⟩:=rx;cases y with
  | dH=>cases ry;exact PySem.EqNone.ne_str_none (bU I q @2)
  | bl j=>cases ry;exact PySem.EqMixed.ne_str_bool (bU I q @2)
  | int j=>obtain⟨t',rfl⟩:=ry;exact PySem.EqMixed.ne_str_int (bU I q @2)
  | str j=>obtain⟨t',rfl⟩:=ry;exact ne_str (bU I q (ab4 not zl))
  | _=>exact absurd (show false=true from hs) aaK
 | zf i =>
  obtain⟨t,rfl⟩:=rx;cases y with
  | zf j=>obtain⟨t',rfl⟩:=ry;exact PySem.W.ne_bytes (bU I q (ab4 not zm))
  | _=>exact absurd (show false=true from hs) aaK
 | _=>cases y<;>exact absurd (show false=true from hs) aaK
theorem gL:iP X (compareOp .Lt) (GP fun i j=>.bl (decide (i < j))):=Hf fun _ _ _ _ _ _ _ q=>lt_int q
theorem zo:iP X (compareOp .LtE) (GP fun i j=>.bl (decide (i<=j))):=Hf fun _ _ _ _ _ _ _ q=>le_int q
theorem uo:iP X (compareOp .Gt) (GP fun i j=>.bl (decide (j < i))):=Hf fun _ _ _ _ _ _ _ q=>gt_int q
theorem j9:iP X (compareOp .GtE) (GP fun i j=>.bl (decide (j<=i))):=Hf fun _ _ _ _ _ _ _ q=>ge_int q
theorem CT(b:Expr)(h:autoParam (op≠.In) ra1)(h2:autoParam (op≠.NotIn) ra1):behindInMarks op b=false:=by
 have e1:(op == CmpOp.In)=false:=by cases op<;>first | rfl | exact absurd rfl h
 have e2:(op == CmpOp.NotIn)=false:=by cases op<;>first | rfl | exact absurd rfl h2
 cases b<;>simp[behindInMarks,e1,e2]
theorem zp{r:R2}(ho:iP X (compareOp op) r)(ha:PE X a ta)(hb:PE X b tb)(hm:behindInMarks op b=false):PE X (.Compare a [op] [b] pos) (AX r ta tb):=by
 intro pins s Z H Q I h;exact wpAny_Compare1 (Ms ha hb I h fun v u s2 x y H2 I2 rx ry q=>ho pins s2 Z H2 x y v u Q I2 rx ry q) hm
def zq(t:TE):TT:=fun Z H Q=>t Z H fun x H'=>∃ k,x=.bl k/\Q k H'
theorem zr{r:R2}(ho:iP X (compareOp op) r)(ha:PE X a ta)(hb:PE X b tb)(hm:behindInMarks op b=false):PT X (.Compare a [op] [b] pos) (zq (AX r ta tb)):=by
 intro pins s Z H Q I h;refine wpAny_isTrue_Compare1 (cL (ha pins s Z H _ I h) fun v s1 ⟨x,H1,I1,r1,q1⟩=>cL (hb pins s1 Z H1 _ I1 q1) fun u s2 ⟨y,H2,I2,r2,q2⟩ =>
  cL (ho pins s2 Z H2 x y v u _ I2 r1 r2 q2) fun c s3 ⟨z,H3,I3,r3,k,e,q3⟩=>?_) hm
 subst e;cases r3;exact abS ⟨H3,I3,q3⟩
def xc(r r':R2)(ta tb tc:TE):TE:=fun Z H Q=>ta Z H fun x H1=>tb Z H1 fun y H2=>r x y H2 fun z H3=>∃ k,z=.bl k /\
 (if k=true then tc Z H3 fun w' H4=>r' y w' H4 Q else Q (.bl false) H3)
theorem CU{Mw:CmpOp}{r r':R2}(ho:iP X (compareOp op) r)(Cs:iP X (compareOp Mw) r')(ha:PE X a ta)(hb:PE X b tb)(hc:PE X c tc)(hm:autoParam (lastMarks [op,Mw] [b,c]=false) ra2):PE X (.Compare a [op,Mw] [b,c] pos) (xc r r' ta tb tc):=by
 intro pins s Z H Q I h;refine Compare_chain (cL (ha pins s Z H _ I h) fun v s1 ⟨x,H1,I1,r1,q1⟩=>chain_link (cL (hb pins s1 Z H1 _ I1 q1) fun u s2 ⟨y,H2,I2,r2,q2⟩ =>
  cL (ho pins s2 Z H2 x y v u _ I2 r1 r2 q2) fun d s3 ⟨z,H3,I3,r3,k,e,q3⟩=>?_)) hm
 subst e;cases r3;refine abS ?_;cases k with
 | false=>exact ite_ff ⟨.bl false,H3,I3,rfl,q3⟩
 | true=>exact ite_tt (chain_last (cL (hc pins s3 Z H3 _ I3 q3) fun w' s4 zz=>(by obtain⟨z',H4,I4,r4,q4⟩:=zz;exact Cs pins s4 Z H4 y z' u w' Q I4 r2 r4 q4)))
theorem og:(sizeLine:Nat) < 2 ^ 63:=by rw[sizeLine_eq];decide
theorem vals1{x:V}(r:Vals [x] us):∃ u,us=[u]/\RelV x u:=by
 cases r with
 | cons r1 r2=>cases r2;exact⟨_,rfl,r1⟩
theorem vals2{x:V}(r:Vals [x,y] us):∃ u w',us=[u,w']/\RelV x u/\RelV y w':=by
 cases r with
 | cons r1 r2 =>
  cases r2 with
  | cons r3 r4=>cases r4;exact⟨_,_,rfl,r1,r3⟩
theorem AY(hc:X.calm=true):gb X (.builtin "max") (fun xs H Q=>∃ i j,xs=[.int i,.int j]/\Q (.int (if j > i then j else i)) H):=by
 intro pins s Z H xs us Q I r h;obtain⟨i,j,rfl,q⟩:=h;obtain⟨u,w',rfl,⟨t,rfl⟩,⟨t',rfl⟩⟩:=vals2 r;refine max_two_ints (I.ok.hd hc) fun h' tk k=>⟨_,H,I.kept k,?_,q⟩
 by_cases hj:j > i
 .rw[aaO hj,aaO hj];exact⟨_,rfl⟩
 .rw[aaD hj,aaD hj];exact⟨_,rfl⟩
theorem AZ:gb X (.type "int") (fun xs H Q=>(∃ i,xs=[.int i]/\Q (.int i) H)\/∃ k,xs=[.bl k]/\Q (.int (if k then 1 else 0)) H):=by
 intro pins s Z H xs us Q I r h;rcases h with⟨i,rfl,q⟩ | ⟨k,rfl,q⟩
 .obtain⟨u,rfl,t,rfl⟩:=vals1 r;exact call_int_int ⟨.int i,H,I,⟨_,rfl⟩,q⟩
 .obtain⟨u,rfl,r1⟩:=vals1 r;cases r1;exact call_int_bool ⟨.int (if k then 1 else 0),H,I.tok _,⟨_,rfl⟩,q⟩
end
structure xf(h:Heap)(x dx C:Addr)(mA:xL):Prop where
 obj:h.get? x=some (PySem.W.instObj C dx)
 ns:h.Ns1 dx mA
 ne:dx≠x
theorem A0(n:h.Ns1 dx mA):∃ od,h.get? dx=some od/\∀ name,PySem.W.lookIn name od=some (mA name):=by
 obtain⟨o,es,ep,ho,hd,hk,_,hm⟩:=n;refine⟨o,ho,fun name=>?_⟩;have e:=hm name;unfold nsFind findBy at e;rw[<- Array.find?_toList]at e;unfold PySem.W.lookIn;rw[hd];dsimp only;split
 .rename_i y q;rw[q]at e;exact ab4 some e
 .rename_i q;rw[q]at e;have a:es.toList.any (·.refKey)=false:=by
   rw[List.any_eq_false];intro y hy;obtain⟨z,t,Mx⟩:=hk y (Array.mem_toList_iff.mp hy);simp[DictEntry.refKey,Mx]
  have a':¬ es.toList.any (·.refKey)=true:=by rw[a];exact aaK
  rw[aaD a'];exact ab4 some e
theorem xf.look{x:Addr}(I:xf h x dx C mA):∃ od,PySem.W.InstAt h x (PySem.W.instObj C dx) C (some od)/\∀ name,PySem.W.lookIn name od=some (mA name) :=
 let ⟨od,ho,hl⟩:=A0 I.ns
 ⟨od,⟨I.obj,rfl,rfl,ho⟩,hl⟩
section
variable {K:zn}{x f:Addr}{name:Str}{v:Value}
theorem get_map{expr:Bool}(X:K.In s.heap)(I:xf s.heap x dx C mA)(hg:PySem.W.plainGet K C name=true)(hh:PySem.W.hasDictIn K C=true)(ha:PySem.W.findIn K (.ref C) name=some none)(hv:mA name=some v)(hv':PySem.W.handedIn v=true)(h:Q v { s with toks:=s.toks+1 }) :
  wpAny (model prog w) A (getAttr (.ref x) name expr) Q E s:=by
 obtain⟨od,am,hl⟩:=I.look;exact PySem.W.get_value X am (adi hg).1 (PySem.W.findObj_own hh ha rfl (by rw[hl,hv])) hv' h
theorem CV{Q:Value×wf->Shared->Prop}(X:K.In s.heap)(I:xf s.heap x dx C mA)(hg:PySem.W.plainGet K C name=true)(hf:PySem.W.findIn K (.ref C) name=some (some (.ref f)))(ht:PySem.W.isFn K (.ref f)=true)(hv:mA name=none)(h:Q (.ref f,[.ref x]) s) :
  wpAny (model prog w) A (getMethod (.ref x) name pl) Q E s:=by
 obtain⟨od,am,hl⟩:=I.look;exact PySem.W.method_fn X am (adi hg).1 (adi hg).2 hf (acp.mp ht) (by show(PySem.W.lookIn name od).map (·.isSome)=some false;rw[hl,hv];rfl) h
theorem Hg{ns:wv}{Q:Unit->Shared->Prop}(X:K.In s.heap)(I:xf s.heap x dx C mA)(hs:PySem.W.findIn K (.ref C) "__setattr__"=some (some (.builtin "object.__setattr__")))(hp:PySem.W.plainOver K C=true)(ht:PySem.W.takerIn K C name=some none)(hh:PySem.W.hasDictIn K C=true)(hw:PySem.Within mA ns)(hsz:ns.length<=sizeLine)(h:∀ h',xf h' x dx C (fun y=>if y=name then some v else mA y)->Heap.SameBut dx s.heap h'->Q () { s with heap:=h',toks:=s.toks+2 }) :
  wpAny (model prog w) A (setAttr (.ref x) name v) Q E s:=by
 obtain⟨od,am,hl⟩:=I.look;refine PySem.W.set_plain X am hs (PySem.W.osa_open (s:={ s with toks:=s.toks+1 }) (r:=none) X am hp ht fun b=>?_);obtain⟨cd,hc,JR⟩:=PySem.W.any_some hh;have hx:s.heap.get? x=some ⟨.ref C,some dx,.plain,#[]⟩:=I.obj;refine aaw (aay (aaw (aaw (wpAny_loadPart hx (aaw (PySem.W.Looks.here (s:={ s with toks:=s.toks+1 }) (PySem.W.looks_clsIn X hc) ?_))))));rw[JR];refine aay (a:=some dx) (aaw (aay (aaw ?_)));refine wpAny_nsSet1 (s:={ s with toks:=s.toks+1 }) I.ns fun h' JX mO=>?_;obtain⟨oD,esD,epD,hoD,hdD,hcD⟩:=JX.count (PySem.Within.cons name v hw);refine aaw (wpAny_lookBehind hoD (by rw[hdD];exact pastItsLine_dict (aaE hcD (by rw[aaX];omega))) ?_);exact aay (h _ ⟨(mO.2 _ (acD I.ne)).trans I.obj,JX,I.ne⟩ mO)
theorem CW{R:Result->Shared->Prop}{vs:wf}(X:K.In s.heap)(hm:PySem.W.makesIn K C=true)(hi:PySem.W.findIn K (.ref C) "__init__"=some (some (.ref f)))(hf:PySem.W.typeIn K (.ref f)=some (.type "function"))(h:codeAny (model prog w) (A.under (.builtin "type.__call__" ⟨.ref C::vs,kw⟩)) (.call (.ref f) ⟨.ref (s.heap.objs.size+1)::vs,kw⟩) (PySem.W.InitBack (s.heap.objs.size+1) R)
   { s with heap:=(s.heap.push PySem.W.emptyDict).push (PySem.W.instObj C s.heap.objs.size) }) :
  codeAny (model prog w) A (.call (.ref C) ⟨vs,kw⟩) R s:=by
 obtain⟨hh,g,d,t,os⟩:=s;exact PySem.W.make_core (PySem.W.makes_of X hm) (PySem.W.looks_findIn X hi) (fun self=>PySem.W.bind_fn X self hf) (.inl rfl) h
end
noncomputable def iy(f:Str)(v:V):List (Str×V)->List (Str×V)
 | []=>[(f,v)]
 | (g,x)::r=>if g=f then(g,v)::r else(g,x)::iy f v r
theorem mw(f g:Str)(v:V):∀ fs:List (Str×V),(iy f v fs).lookup g=if g=f then some v else fs.lookup g
 | []=>by
  show List.lookup g [(f,v)]=_
  by_cases h:g=f
  .have hb:(g == f)=true:=acp.mpr h;simp only[List.lookup,hb,aaO h]
  .have hb:(g == f)=false:=acm.mpr h;simp only[List.lookup,hb,aaD h]
 | (k,x)::r=>by
  have ih:=mw f g v r;rw[show iy f v ((k,x)::r)=(if k=f then(k,v)::r else(k,x)::iy f v r) from rfl]
  by_cases hk:k=f
  .rw[aaO hk]
   by_cases h:g=k
   .have hb:(g == k)=true:=acp.mpr h;simp only[List.lookup,hb,aaO (h.trans hk)]
   .have hb:(g == k)=false:=acm.mpr h;simp only[List.lookup,hb,aaD (fun e:g=f=>h (e.trans hk.symm))]
  .rw[aaD hk]
   by_cases h:g=k
   .have hb:(g == k)=true:=acp.mpr h;simp only[List.lookup,hb,aaD (fun e:g=f=>hk (h.symm.trans e))]
   .have hb:(g == k)=false:=acm.mpr h;simp only[List.lookup,hb];exact ih
theorem lK(f:Str)(v:V):∀ fs:List (Str×V),f∈(iy f v fs).map (·.1)/\∀ g,g∈fs.map (·.1)->g∈(iy f v fs).map (·.1)
 | []=>⟨by simp[iy],fun g h=>by simp at h⟩
 | (k,x)::r=>by
  obtain⟨i1,i2⟩:=lK f v r;rw[show iy f v ((k,x)::r)=(if k=f then(k,v)::r else(k,x)::iy f v r) from rfl]
  by_cases hk:k=f
  .rw[aaO hk];subst hk;exact⟨@2,fun g h=>by simpa using h⟩
  .rw[aaD hk];refine⟨?_,fun g h=>?_⟩
   .rw[aaM];exact aaI _ i1
   .rw[aaM]at h ⊢;rcases aaA.mp h with e | e
    .exact aaA.mpr (.inl e)
    .exact aaI _ (i2 g e)
theorem mx(f:Str)(v:V):∀ fs:List (Str×V),(iy f v fs).length<=fs.length+1
 | []=>by simp[iy]
 | (k,x)::r=>by
  have ih:=mx f v r;rw[show iy f v ((k,x)::r)=(if k=f then(k,v)::r else(k,x)::iy f v r) from rfl]
  by_cases hk:k=f
  .rw[aaO hk,aaX,aaX];omega
  .rw[aaD hk,aaX,aaX];omega
theorem js.some_of{o:wP}(r:js (some v) o):∃ u,o=some u/\RelV v u:=by
 cases o with
 | none=>exact(show False from r).elim
 | some u=>exact⟨u,rfl,r⟩
theorem js.none_of{o:wP}(r:js none o):o=none:=by
 cases o with
 | none=>rfl
 | some u=>exact(show False from r).elim
theorem A1(r:RelV v u):PySem.W.handedIn u=true:=by
 cases v with
 | dH=>cases (show u=Value.none from r);rfl
 | bl b=>cases (show u=Value.bool b from r);rfl
 | int i=>obtain⟨t,e⟩:=(show ∃ t,u=Value.int i t from r);cases e;rfl
 | str x=>obtain⟨t,e⟩:=(show ∃ t,u=Value.str x t from r);cases e;rfl
 | zf b=>obtain⟨t,e⟩:=(show ∃ t,u=Value.bytes b t from r);cases e;rfl
 | G1 b=>obtain⟨t,e⟩:=(show ∃ t,u=Value.float b t from r);cases e;rfl
 | ref a=>cases (show u=Value.ref a from r);rfl
 | ty n=>cases (show u=Value.type n from r);rfl
section
variable {fs gK:List (Str×V)}
theorem nu(cu:eV P w H h)(e:H a=some (.ins C dx fs)):∃ mA,xf h a dx C mA/\(∀ f,js (fs.lookup f) (mA f))/\PySem.Within mA (fs.map (·.1))/\fs.length<=1000/\H dx=some (.own a):=by
 obtain⟨d,z,ne,ob,mA,n,r,q⟩:=(show cm P w H h a (.ins C dx fs) from cu a _ e);exact⟨mA,⟨ob,n,ne⟩,r,q,z,d⟩
end
structure mP(K:zn)(C:Addr):Prop where
 pg:PySem.W.plainGet K C Str.empty=true
 hd:PySem.W.hasDictIn K C=true
 po:PySem.W.plainOver K C=true
 sa:PySem.W.findIn K (.ref C) "__setattr__"=some (some (.builtin "object.__setattr__"))
theorem mP.get{K:zn}{C:Addr}(c:mP K C)(f:Str):PySem.W.plainGet K C f=true:=c.pg
def cM(K:zn)(C:Addr)(f:Str):Prop:=PySem.W.findIn K (.ref C) f=some none
theorem cM.QG{K:zn}{f:Str}(n:cM K C f):PySem.W.takerIn K C f=some none:=by
 unfold PySem.W.takerIn;rw[show PySem.W.findIn K (.ref C) f=some none from n]
 rfl
structure Meth(K:zn)(C:Addr)(m:Str)(f:Addr):Prop where
 at_:PySem.W.findIn K (.ref C) m=some (some (.ref f))
 fn:PySem.W.isFn K (.ref f)=true
 kp:PySem.W.keepIn K (.ref f)=true
section
variable {fs:List (Str×V)}{f:Str}
theorem oh{b:Bool}(I:Inv X pins Z H s)(e:H a=some (.ins C dx fs))(c:mP X.K C)(n:cM X.K C f)(l:fs.lookup f=some v)(h:∀ u s',Inv X pins Z H s'->RelV v u->Q u s'):wpAny (model X.prog X.w) A (getAttr (.ref a) f b) Q E s:=by
 obtain⟨mA,O,r,_,_,_⟩:=nu I.cu e;obtain⟨u,hu,ru⟩:=js.some_of (v:=v) (o:=mA f) (by rw[<- l];exact r f);exact get_map I.mr O (c.get f) c.hd n hu (A1 ru) (h u _ (I.tok _) ru)
theorem oi{m:Str}{g:Addr}{Q:Value×wf->Shared->Prop}(I:Inv X pins Z H s)(e:H a=some (.ins C dx fs))(c:mP X.K C)(k:Meth X.K C m g)(l:fs.lookup m=none)(h:Q (.ref g,[.ref a]) s):wpAny (model X.prog X.w) A (getMethod (.ref a) m pl) Q E s:=by
 obtain⟨mA,O,r,_,_,_⟩:=nu I.cu e;have hn:mA m=none:=js.none_of (by rw[<- l];exact r m);exact CV I.mr O (c.get m) k.at_ k.fn hn h
theorem oj{Q:Unit->Shared->Prop}(I:Inv X pins Z H s)(e:H a=some (.ins C dx fs))(c:mP X.K C)(n:cM X.K C f)(hl:fs.length < 1000)(ry:RelV y u)(h:∀ s',Inv X pins Z (upd H a (.ins C dx (iy f y fs))) s'->Q () s'):wpAny (model X.prog X.w) A (setAttr (.ref a) f u) Q E s:=by
 obtain⟨mA,O,r,wi,_,ho⟩:=nu I.cu e;have hz:(fs.map (·.1)).length<=sizeLine:=by rw[aav,sizeLine_eq];omega
 refine Hg I.mr O c.sa c.po n.QG c.hd wi hz fun h' O' sb=>h _ ?_;have hd:∃ o,h'.get? dx=some o:=let ⟨o,_,_,e',_⟩:=O'.ns;⟨o,e'⟩;refine I.write (x:=a) (e:=dx) (by rw[e];exact True.intro) (.inr ho) (fun b q hb z=>(sb.2 b hb).trans z) hd ?_;refine⟨by rw[bA O.ne];exact ho,?_,O.ne,O'.obj,_,O'.ns,fun g=>?_,fun g hg=>?_⟩
 .have:=mx f y fs;omega
 .show js ((iy f y fs).lookup g) (if g=f then some u else mA g);rw[mw]
  by_cases q:g=f
  .rw[aaO q,aaO q];exact ry
  .rw[aaD q,aaD q];exact r g
 .by_cases q:g=f
  .rw[q];exact(lK f y fs).1
  .refine(lK f y fs).2 g (wi g fun z=>hg ?_);show(if g=f then some u else mA g)=none;rw[aaD q];exact z
theorem Inv.made(I:Inv X pins Z H s):Inv X pins Z (upd (upd H s.heap.objs.size (.own (s.heap.objs.size+1))) (s.heap.objs.size+1) (.ins C s.heap.objs.size []))
  { s with heap:=(s.heap.push PySem.W.emptyDict).push (PySem.W.instObj C s.heap.objs.size) }:=by
 have e1:(s.heap.push PySem.W.emptyDict).get? s.heap.objs.size=some PySem.W.emptyDict:=aaG s.heap rfl;have e2:((s.heap.push PySem.W.emptyDict).push (PySem.W.instObj C s.heap.objs.size)).get? (s.heap.objs.size+1)=some (PySem.W.instObj C s.heap.objs.size):=by
  have:=aaG (s.heap.push PySem.W.emptyDict) (o:=PySem.W.instObj C s.heap.objs.size) rfl
  rwa [abu]at this
 have e3:(s.heap.push PySem.W.emptyDict).Ns s.heap.objs.size (fun _=>none):=⟨PySem.W.emptyDict,#[],_,e1,rfl,(fun e he=>absurd he @2),fun _=>rfl⟩;have I1:=I.laid (a:=s.heap.objs.size) (o:=.own (s.heap.objs.size+1)) (h':=s.heap.push PySem.W.emptyDict) (t':=s.toks) (fun b u q=>aax _ q) (aaC _) ⟨_,e1⟩;refine I1.laid (a:=s.heap.objs.size+1) (o:=.ins C s.heap.objs.size []) (t':=s.toks) (fun b u q=>aax _ q) (acs (abu _ _)) ?_;have ne:s.heap.objs.size≠s.heap.objs.size+1:=aa6 (ab6 _);refine⟨by rw[bA ne,cv],aaY _,ne,e2,fun _=>none,(Heap.Ns1.of_empty e3).at fun o q=>aax _ q,fun _=>True.intro,fun y hy=>absurd rfl hy⟩
theorem Hh{env:Env}{e:Expr}(hb:attributeBase e f env (eval e env)=eval e env)(h:wpAny (model prog w) A (eval e env) (fun o bL=>wpAny (model prog w) A (getAttr o f true) Q E bL) E s):wpAny (model prog w) A (eval (.Attribute e f pos) env) Q E s :=
 Attribute_any_ h (by rw[arm_eval_Attribute,hb])
end
def My(K:zn)(ta:TE)(f:Str):TE:=fun Z H Q=>ta Z H fun x H1=>∃ a C dx fs v,x=.ref a/\H1 a=some (.ins C dx fs)/\mP K C/\cM K C f/\fs.lookup f=some v/\Q v H1
noncomputable def Mz(K:zn)(ta tv:TE)(f:Str):TS:=fun D Z H=>tv Z H fun y H1=>ta Z H1 fun x H2=>∃ a C dx fs,x=.ref a/\H2 a=some (.ins C dx fs)/\mP K C/\cM K C f/\fs.length < 1000 /\
 D.nx Z (upd H2 a (.ins C dx (iy f y fs)))
def Vv(X:Cx)(op:Operator)(rd:V->V->Hp->VK->Prop):Prop :=
 ∀(pins:yp) (s:Shared) (Z:St) (H:Hp) (x y:V) (u v:Value) (Q:VK),Inv X pins Z H s->RelV x u->RelV y v->rd x y H Q->wpAny (model X.prog X.w) X.A (inplaceOp op u v) (EP X pins Z Q) X.xe s
noncomputable def rJ(K:zn)(ta tv:TE)(rd:V->V->Hp->VK->Prop)(f:Str):TS:=fun D Z H=>ta Z H fun x H1=>∃ a C dx fs v,x=.ref a/\H1 a=some (.ins C dx fs)/\mP K C/\cM K C f/\fs.lookup f=some v /\
 tv Z H1 fun y H2=>rd v y H2 fun z H3=>∃ Vw gK,H3 a=some (.ins C Vw gK)/\gK.length < 1000/\D.nx Z (upd H3 a (.ins C Vw (iy f z gK)))
section
variable {e value:Expr}{f:Str}{pos' CY:Pos}{tv:TE}
theorem MA(he:PE X e ta)(hb:attributeBase e f X.env (eval e X.env)=eval e X.env):PE X (.Attribute e f pos) (My X.K ta f):=by
 intro pins s Z H Q I h;refine Hh hb (cL (he pins s Z H _ I h) fun u s1 zz=>?_);obtain⟨x,H1,I1,rx,a,C,dx,fs,v,ex,ea,c,n,l,q⟩:=zz;subst ex;obtain rfl:u=Value.ref a:=rx;exact oh I1 ea c n l fun u' s2 I2 ru=>⟨v,H1,I2,ru,q⟩
theorem MB(ha:PE X o ta)(hv:PE X value tv)(hs:swapsWith value (some (.Attribute o f pos')) pos.line X.env=pure false):PS X (.Assign [.Attribute o f pos'] value pos) (Mz X.K ta tv f):=by
 intro pins s Z H D I h;refine plainObj_wpAny_Assign_Attribute (cL (hv pins s Z H _ I h) fun u s1 zz=>?_) hs;obtain⟨y,H1,I1,ry,q⟩:=zz;refine cL (ha pins s1 Z H1 _ I1 q) fun ov s2 zy=>?_;obtain⟨x,H2,I2,rx,a,C,dx,fs,ex,ea,c,n,l,q2⟩:=zy;subst ex;obtain rfl:ov=Value.ref a:=rx;exact oj I2 ea c n l ry fun s3 I3=>⟨Z,_,I3,q2⟩
theorem A2{op:Operator}{rd:V->V->Hp->VK->Prop}(ha:PE X o ta)(hv:PE X value tv)(Vx:Vv X op rd):PS X (.AugAssign (.Attribute o f CY) op value pos) (rJ X.K ta tv rd f):=by
 intro pins s Z H D I h;refine wpAny_AugAssign_AttributeAny (cL (ha pins s Z H _ I h) fun ov s1 zz=>?_);obtain⟨x,H1,I1,rx,a,C,dx,fs,v,ex,ea,c,n,l,q⟩:=zz;subst ex;obtain rfl:ov=Value.ref a:=rx;refine oh I1 ea c n l fun u s2 I2 ru=>cL (hv pins s2 Z H1 _ I2 q) fun w3 s3 zy=>?_;obtain⟨y,H2,I3,ry,q3⟩:=zy;refine cL (Vx pins s3 Z H2 v y u w3 _ I3 ru ry q3) fun w4 s4 zx=>?_;obtain⟨z,H3,I4,rz,Vw,gK,ea',l',q4⟩:=zx;exact oj I4 ea' c n l' rz fun s5 I5=>⟨Z,_,I5,q4⟩
end
section
variable {c:Value}{b:Bool}
set_option genInjectivity true in
inductive kL (K:zn) (H:Hp):V->Value->Prop where
 | dH:kL K H .dH (.type "NoneType")
 | bl (x:Bool):kL K H (.bl x) (.type "bool")
 | int (i:Int):kL K H (.int i) (.type "int")
 | str (x:Str):kL K H (.str x) (.type "str")
 | G1 (x:UInt64):kL K H (.G1 x) (.type "float")
 | lst {a:Addr} {xs:List V} (e:H a=some (.lst xs)):kL K H (.ref a) (.type "list")
 | lG {a:Addr} {o:Obj} {xs:List V} (e:H a=some (.lG o (.lst xs))):kL K H (.ref a) (.type "list")
 | tup {a:Addr} {xs:List V} (e:H a=some (.tup xs)):kL K H (.ref a) (.type "tuple")
 | dK {a:Addr} {kvs:List (Key×V)} (e:H a=some (.dK kvs)):kL K H (.ref a) (.type "dict")
 | dT {a:Addr} {kvs:List (List Key×V)} (e:H a=some (.dT kvs)):kL K H (.ref a) (.type "dict")
 | ins {a C dx:Addr} {fs:List (Str×V)} (e:H a=some (.ins C dx fs)) (cl:mP K C) (ha:PySem.W.findIn K (.ref C) "__class__"=some (some (.builtin "object.__class__")))
   (hn:PySem.W.specialIn K (.builtin "object.__class__") "__get__"=some (some (.builtin "getset_descriptor.__get__"))) (YN:PySem.W.takesIn K (.builtin "object.__class__")=some true)
   (hm:PySem.W.mroIn K C (.type "object")=some true):kL K H (.ref a) (.ref C)
theorem A3{x:V}{t:Value}(I:Inv X pins Z H s)(rx:RelV x u)(ty:kL X.K H x t)(e:PySem.W.kitOne X.K t c=some b)(h:∀ tk,Q (.bool b) { s with toks:=tk }) :
  wpAny (model X.prog X.w) A (call (.builtin "isinstance") [u,c]) Q E s:=by
 cases ty with
 | dH=>cases (show u=Value.none from rx);exact abC PySem.W.kitx_none I.mr True.intro e (fun z=>nomatch z) h
 | bl y=>cases (show u=Value.bool y from rx);exact abC PySem.W.kitx_bool I.mr True.intro e (fun z=>nomatch z) h
 | int i=>obtain⟨t,q⟩:=(show ∃ t,u=Value.int i t from rx);cases q;exact abC PySem.W.kitx_int I.mr True.intro e (fun z=>nomatch z) h
 | str y=>obtain⟨t,q⟩:=(show ∃ t,u=Value.str y t from rx);cases q;exact abC PySem.W.kitx_str I.mr True.intro e (fun z=>nomatch z) h
 | G1 y=>obtain⟨t,q⟩:=(show ∃ t,u=Value.float y t from rx);cases q;exact abC PySem.W.kitx_float I.mr True.intro e (fun z=>nomatch z) h
 | @lst a xs ea =>
  cases (show u=Value.ref a from rx);obtain⟨_,_,n,_,h1⟩:=(show cm X.prog X.w H s.heap a (.lst xs) from I.cu a _ ea);exact abC PySem.W.kitx_list I.mr ⟨_,h1,rfl⟩ e (fun z=>nomatch z) h
 | @lG a ob xs ea =>
  cases (show u=Value.ref a from rx);obtain⟨_,_,_,n,_,h1⟩:=(show cm X.prog X.w H s.heap a (.lG ob (.lst xs)) from I.cu a _ ea);exact abC PySem.W.kitx_list I.mr ⟨_,h1,rfl⟩ e (fun z=>nomatch z) h
 | @tup a xs ea =>
  cases (show u=Value.ref a from rx);obtain⟨_,_,_,p⟩:=(show cm X.prog X.w H s.heap a (.tup xs) from I.cu a _ ea);obtain⟨o,h1,h2,_⟩:=p;exact abC PySem.W.kitx_tuple I.mr ⟨o,h1,h2⟩ e (fun z=>nomatch z) h
 | @dK a kvs ea =>
  cases (show u=Value.ref a from rx);obtain⟨_,_,vs,_,p⟩:=(show cm X.prog X.w H s.heap a (.dK kvs) from I.cu a _ ea);obtain⟨o,es,ep,h1,h2,_⟩:=p;exact abC PySem.W.kitx_dict I.mr ⟨o,h1,h2.1⟩ e (fun z=>nomatch z) h
 | @dT a kvs ea =>
  cases (show u=Value.ref a from rx);obtain⟨_,_,xs,_,o,es,ep,h1,h2,_⟩:=(show cm X.prog X.w H s.heap a (.dT kvs) from I.cu a _ ea);exact abC PySem.W.kitx_dict I.mr ⟨o,h1,h2.1⟩ e (fun z=>nomatch z) h
 | @ins a C dx fs ea cl ha hn YN hm =>
  cases (show u=Value.ref a from rx);obtain⟨mA,O,_⟩:=nu I.cu ea;obtain⟨od,am,_⟩:=O.look;exact abC (PySem.W.kitx_own (cl.get _) cl.hd ha hn YN hm) I.mr am e (fun z=>nomatch z) h
end
structure de(k:Nat)(A:tx):Prop where
 hd:A.handled=none
 dp:A.depth+3 * k+5 < recursionLimit
 un:A.units+16 * k+200 < cLine
theorem de.mono{j k:Nat}(r:de k A)(h:j<=k):de j A:=⟨r.hd,by have:=r.dp;omega,by have:=r.un;omega⟩
theorem de.deeper{k:Nat}(r:de (k+1) A)(env:Env):de k (A.deeper env) :=
 ⟨r.hd,by have:=r.dp;show A.depth+1+3 * k+5 < _;omega,by have:=r.un;show A.units+3+16 * k+200 < _;omega⟩
theorem xg:(A.under (.builtin "type.__call__" ⟨.ref C::us,kw⟩)).depth=A.depth+1:=by
 first | rfl | simp[Around.under,Code.weight,Code.isCreation,Code.isGuard,Code.isCaller,Code.frames,Code.isFrame,guardIds]
theorem xh:(A.under (.builtin "type.__call__" ⟨.ref C::us,kw⟩)).units=A.units+1:=by
 first | rfl | simp[Around.under,Code.cUnits,Code.frames,Code.isFrame]
theorem de.make{k:Nat}(r:de (k+1) A)(C:Addr)(us:wf)(kw:List (Str×Value)):de k (A.under (.builtin "type.__call__" ⟨.ref C::us,kw⟩)) :=
 ⟨r.hd,by have:=r.dp;rw[xg];omega,by have:=r.un;rw[xh];omega⟩
theorem de.depth{k:Nat}(r:de k A):A.depth < recursionLimit:=by have:=r.dp;omega
theorem de.units{k:Nat}(r:de k A):A.units+64 < cLine:=by have:=r.un;omega
def rK:TA:=fun _ H Q=>Q [] H
def om(ta:TE)(tr:TA):TA:=fun Z H Q=>ta Z H fun x H1=>tr Z H1 fun xs H2=>Q (x::xs) H2
section
variable {e:Expr}{t:TA}
theorem xi:PA X [] rK:=fun _ _ _ _ H Q I h=>adC ⟨[],H,I,.nil,h⟩
theorem nv(ha:PE X e te)(hr:PA X es t)(hs:autoParam (starEach (e::es) X.env=(false,eval e X.env)::starEach es X.env) ra0):PA X (e::es) (om te t):=by
 intro pos pins s Z H Q I h;rw[hs];show wpAny _ _ (spliced ((false,eval e X.env)::backTo pos (starEach es X.env))) _ _ s;refine adu (cL (ha pins s Z H _ I h) fun u s1 zz=>?_);obtain⟨x,H1,I1,r1,q1⟩:=zz;exact cL (hr pos pins s1 Z H1 _ I1 q1) fun us s2 zy=>(by obtain⟨xs,H2,I2,r2,q2⟩:=zy;exact ⟨x::xs,H2,I2,.cons r1 r2,q2⟩)
def MC(t:TA):TE:=fun Z H Q=>t Z H fun xs H1=>xs.length<=sizeLine/\∀ p,H1 p=none->Q (.ref p) (upd H1 p (.tup xs))
def CZ(t:TA):TE:=fun Z H Q=>t Z H fun xs H1=>xs.length<=sizeLine/\∀ p,H1 p=none->Q (.ref p) (upd H1 p (.lst xs))
theorem MD{x1}(h:PA X es t):PE X (.Tuple es x1 pos) (MC t):=by
 intro pins s Z H Q I hq;refine wpAny_Tuple_spliced (cL (h pos pins s Z H _ I hq) fun us s1 zz=>?_);obtain⟨xs,H1,I1,r,z,q⟩:=zz;refine ⟨by rw[<- r.length];exact z,?_⟩;have hf:H1 s1.heap.objs.size=none:=I1.cu.fresh (aaC _);refine⟨.ref s1.heap.objs.size,upd H1 s1.heap.objs.size (.tup xs),I1.laid (t':=s1.toks) (fun b u e=>aax _ e) (aaC _) ?_,rfl,q _ hf⟩;exact⟨z,us,r,⟨_,aaG _ rfl,rfl,_,rfl⟩⟩
theorem ME(h:PA X es t):PE X (.List es pos) (CZ t):=by
 intro pins s Z H Q I hq;refine wpAny_List_spliced (cL (h pos pins s Z H _ I hq) fun us s1 zz=>?_);obtain⟨xs,H1,I1,r,z,q⟩:=zz;refine ⟨by rw[<- r.length];exact z,?_⟩;have hf:H1 s1.heap.objs.size=none:=I1.cu.fresh (aaC _);refine⟨.ref s1.heap.objs.size,upd H1 s1.heap.objs.size (.lst xs),I1.laid (t':=s1.toks) (fun b u e=>aax _ e) (aaC _) ?_,rfl,q _ hf⟩;exact⟨z,us,0,r,aaG _ rfl⟩
end
abbrev Sp:=List V->Hp->VK->XK->Prop
abbrev A4:=List Env->Hp->Shared->XK->Value->Shared->Prop
variable {CX:A4}
structure xj(P:u8)(w:World)(K:zn)(mg:xL)(base:Heap)(A:tx)(outer:List Env)(s:Shared)(H:Hp):Prop where
 frames:A.frames=some outer
 mod:Mod K mg base
 bs:∀ b o,base.get? b=some o->s.heap.get? b=some o/\H b=none
 JQ:base.objs.size<=s.heap.objs.size
 mM:s.heap.FunFrames base outer
 GL:∀ b∈iB outer,H b=none
 cu:eV P w H s.heap
 bare:AllBare s.gens
noncomputable def CE(outer:List Env)(P:u8)(w:World)(H:Hp)(s:Shared)(Q:VK)(u:Value)(s':Shared):Prop :=
 ∃ v H',s'.os=s.os/\AllBare s'.gens/\Un (iB outer) [] H H' s.heap s'.heap/\eV P w H' s'.heap/\RelV v u/\Q v H'
noncomputable def CR(CX:A4)(outer:List Env)(P:u8)(w:World)(H:Hp)(s:Shared)(Q:VK)(E:XK)(r:Result)(s':Shared):Prop :=
 match r with
 | .ok (.ret u)=>CE outer P w H s Q u s'
 | .ok _=>False
 | .error e=>CX outer H s E e s'
structure ba(P:u8)(w:World)(K:zn)(mg:xL)(base:Heap)(CX:A4)(k:Nat)(f:Addr)(fd:wT)(ps:wv)(sp:Sp):Prop where
 len:∀ vs H Q E,sp vs H Q E->vs.length=ps.length
 run:∀(A:tx) (outer:List Env) (s:Shared) (H:Hp) (args:Args) (us:wf) (vs:List V) (Q:VK) (E:XK),de k A->xj P w K mg base A outer s H->BindsTo s fd args (ps.zip us)->Vals vs us->sp vs H Q E ->
  codeAny (model P w) A (.call (.ref f) args) (CR CX outer P w H s Q E) s
theorem ba.mono{P:u8}{w:World}{K:zn}{mg:xL}{base:Heap}{CX:A4}{j k:Nat}{f:Addr}{fd:wT}{ps:wv}{sp:Sp}(F:ba P w K mg base CX j f fd ps sp)(h:j<=k) :
  ba P w K mg base CX k f fd ps sp:=⟨F.len,fun A outer s H args us vs Q E hr=>F.run A outer s H args us vs Q E (hr.mono h)⟩
theorem xj.make{K:zn}{outer:List Env}(e:xj P w K mg base A outer s H)(C:Addr)(us:wf)(kw:List (Str×Value)) :
  xj P w K mg base (A.under (.builtin "type.__call__" ⟨.ref C::us,kw⟩)) outer s H:=⟨by first | exact e.frames | (simpa [Around.under,Code.envs,Code.isFrame,pushEnvs] using e.frames),e.mod,e.bs,e.JQ,e.mM,e.GL,e.cu,e.bare⟩
theorem Inv.QH(I:Inv X pins Z H s):xj X.prog X.w X.K X.mg X.base X.A X.stack s H :=
 ⟨I.ok.frames,I.ok.mod,I.bs,aaE I.ok.JQ I.sz,I.stack,I.rF,I.cu,I.bare⟩
theorem Inv.after{Q:VK}(I:Inv X pins Z H s)(h:CE X.stack X.prog X.w H s Q u s'):EP X pins Z Q u s':=by
 obtain⟨v,H',os,bare,un,cu,r,q⟩:=h;obtain⟨hh,g,d,t,os'⟩:=s';obtain rfl:os'=s.os:=os;exact⟨v,H',I.call (h':=hh) (g':=g) (d':=d) (t':=t) (ch:=[]) un cu bare (fun b z=>absurd z @2),r,q⟩
def zt(sp:Sp)(aK:List V)(E:XK)(t:TA):TE:=fun Z H Q=>t Z H fun vs H1=>sp (vs++aK) H1 Q E
def ur(C:Addr)(m:Str)(sp:Sp)(aK:List V)(E:XK)(ta:TE)(t:TA):TE:=fun Z H Q=>ta Z H fun x H1=>∃ a dx fs,x=.ref a/\H1 a=some (.ins C dx fs)/\fs.lookup m=none /\
 t Z H1 fun vs H2=>sp (x::(vs++aK)) H2 Q E
def C1(C:Addr)(sp:Sp)(aK:List V)(E:XK)(t:TA):TE:=fun Z H Q=>t Z H fun vs H1=>∀ x dx,H1 x=none->H1 dx=none->dx≠x ->
 sp (.ref x::(vs++aK)) (upd (upd H1 dx (.own x)) x (.ins C dx [])) (fun v H2=>v=.dH/\Q (.ref x) H2) E
def Binds(K:zn)(fd:wT)(ps:wv)(ds:wf):Prop :=
 ∀(s:Shared) (us:wf),K.In s.heap->(us++ds).length=ps.length->BindsTo s fd ⟨us,[]⟩ (ps.zip (us++ds))
theorem Binds.all{K:zn}(h:∀ us:List Value,us.length=ps.length->bindArgs fd ⟨us,[]⟩=pure (ps.zip us)):Binds K fd ps []:=fun s us _ hl=>by
 rw[acu]at hl ⊢;exact .of_eq (h us hl)
def Passes(CX:A4)(X:Cx)(E:XK):Prop:=∀(pins:yp) (Z:St) (H:Hp) (s:Shared) (e:Value) (s':Shared),Inv X pins Z H s->CX X.stack H s E e s'->X.xe e s'
section
variable {k:Nat}{f:Addr}{sp:Sp}{aK:List V}{ds:wf}{E:XK}{m:Str}{apos:Pos}{e:Expr}{t:TA}
theorem xk{Q:VK}(F:ba X.prog X.w X.K X.mg X.base CX k f fd ps sp)(hr:de k X.A)(hb:Binds X.K fd ps ds)(hd:Vals aK ds)(hx:Passes CX X E)(I:Inv X pins Z H s)(r:Vals vs us)(h:sp (vs++aK) H Q E):wpAny (model X.prog X.w) X.A (call (.ref f) us) (EP X pins Z Q) X.xe s:=by
 have r2:Vals (vs++aK) (us++ds):=r.append hd;have hl:(us++ds).length=ps.length:=by rw[<- r2.length];exact F.len _ _ _ _ h
 refine wpAny_call (acv (F.run X.A X.stack s H ⟨us,[]⟩ (us++ds) (vs++aK) Q E hr I.QH (hb s us I.mr hl) r2 h) fun r s' hq=>?_);cases r with
 | error e=>exact hx pins Z H s e s' I hq
 | ok fl =>
  cases fl with
  | ret u=>exact I.after hq
  | next=>exact False.elim hq
  | brk=>exact False.elim hq
  | cont=>exact False.elim hq
theorem Hi(F:ba X.prog X.w X.K X.mg X.base CX k f fd ps sp)(hr:de k X.A)(hg:Gl X x)(hm:X.mg x=some (.ref f))(hk:PySem.W.keepIn X.K (.ref f)=true)(hb:Binds X.K fd ps ds)(hd:Vals aK ds)(hx:Passes CX X E)(ha:PA X (e::es) t)(uu:autoParam ((x == ("__debug__":Str))=false) ra1)(he:autoParam (starEach (e::es) X.env=(false,eval e X.env)::starEach es X.env) ra0)(oo:autoParam ((backTo pos (starEach es X.env)).any (·.1)=false) ra0) :
  PE X (.Call (.Name x p) (e::es) [] pos) (zt sp aK E t):=by
 intro pins s Z H Q I h;refine ab8 (nr I hg hm ?_ uu);refine adv (h₀:=X.base) I.ok.mod.Cg hk (cL (ha pos pins s Z H _ I h) fun us s1 zz=>?_) he oo;obtain⟨vs,H1,I1,r,q⟩:=zz;refine ⟨I1.mr,?_⟩;exact xk F hr hb hd hx I1 r q
theorem Hj(he:PE X o ta)(c:mP X.K C)(hm:Meth X.K C m f)(F:ba X.prog X.w X.K X.mg X.base CX k f fd ps sp)(hr:de k X.A)(hb:Binds X.K fd ps ds)(hd:Vals aK ds)(hx:Passes CX X E)(ha:PA X (e::es) t)(wG:autoParam (starEach (e::es) X.env=(false,eval e X.env)::starEach es X.env) ra0)(oo:autoParam ((backTo pos (starEach es X.env)).any (·.1)=false) ra0)(ht:eval (.Call (.Attribute o m apos) (e::es) [] pos) X.env=(do
   let ov <- eval o X.env
   standAt apos.atName
   let (f,first) <- holding [ov] (getMethod ov m pl)
   callWith pos f first (backTo pos (starEach (e::es) X.env)) (backToKw pos (keywordEach [] X.env))):=by rfl) :
  PE X (.Call (.Attribute o m apos) (e::es) [] pos) (ur C m sp aK E ta t):=by
 intro pins s Z H Q I h;refine PySem.W.methodCall_KW (pl:=pl) (cL (he pins s Z H _ I h) fun u s1 zz=>?_) ht;obtain⟨x,H1,I1,rx,a,dx,fs,ex,ea,l,q⟩:=zz;subst ex;obtain rfl:u=Value.ref a:=rx;refine oi I1 ea c hm l ?_;refine adv (first:=[.ref a]) (h₀:=X.base) I.ok.mod.Cg hm.kp (cL (ha pos pins s1 Z H1 _ I1 q) fun us s2 zy=>?_) wG oo;obtain⟨vs,H2,I2,r,q2⟩:=zy;refine ⟨I2.mr,?_⟩;exact xk (us:=.ref a::us) (vs:=.ref a::vs) F hr hb hd hx I2 (.cons rfl r) q2
theorem C3(he:PE X o ta)(c:mP X.K C)(hm:Meth X.K C m f)(F:ba X.prog X.w X.K X.mg X.base CX k f fd ps sp)(hr:de k X.A)(hb:Binds X.K fd ps ds)(hd:Vals aK ds)(hx:Passes CX X E)(ht:eval (.Call (.Attribute o m apos) [] [] pos) X.env=(do
   let ov <- eval o X.env
   standAt apos.atName
   let (f,first) <- holding [ov] (getMethod ov m pl)
   callWith pos f first (backTo pos (starEach [] X.env)) (backToKw pos (keywordEach [] X.env))):=by rfl) :
  PE X (.Call (.Attribute o m apos) [] [] pos) (ur C m sp aK E ta rK):=by
 intro pins s Z H Q I h;refine PySem.W.methodCall_KW (pl:=pl) (cL (he pins s Z H _ I h) fun u s1 zz=>?_) ht;obtain⟨x,H1,I1,rx,a,dx,fs,ex,ea,l,q⟩:=zz;subst ex;obtain rfl:u=Value.ref a:=rx;refine oi I1 ea c hm l ?_;exact PySem.W.callWith_K0 (first:=[.ref a]) I1.mr hm.kp (xk (us:=[.ref a]) (vs:=[.ref a]) F hr hb hd hx I1 (.cons rfl .nil) q)
structure Mk(K:zn)(C f:Addr):Prop where
 makes:PySem.W.makesIn K C=true
 init:PySem.W.findIn K (.ref C) "__init__"=some (some (.ref f))
 fn:PySem.W.isFn K (.ref f)=true
 kp:PySem.W.keepIn K (.ref C)=true
theorem C4{Q:VK}(M:Mk X.K C f)(F:ba X.prog X.w X.K X.mg X.base CX k f fd ps sp)(hr:de (k+1) X.A)(hb:Binds X.K fd ps ds)(hd:Vals aK ds)(hx:Passes CX X E)(I:Inv X pins Z H s)(r:Vals vs us)(h:∀ x dx,H x=none->H dx=none->dx≠x->sp (.ref x::(vs++aK)) (upd (upd H dx (.own x)) x (.ins C dx [])) (fun v H2=>v=.dH/\Q (.ref x) H2) E) :
  wpAny (model X.prog X.w) X.A (call (.ref C) us) (EP X pins Z Q) X.xe s:=by
 have hq:=h (s.heap.objs.size+1) s.heap.objs.size (I.cu.fresh (abI _)) (I.cu.fresh (aaC _)) (aa6 (ab6 _));have I2:=Inv.made (C:=C) I;have r2:Vals (V.ref (s.heap.objs.size+1)::(vs++aK)) (Value.ref (s.heap.objs.size+1)::(us++ds)):=.cons rfl (r.append hd);have hl:(Value.ref (s.heap.objs.size+1)::us++ds).length=ps.length:=by
  have e:=r2.length;rw[F.len _ _ _ _ hq]at e;exact e.symm
 refine wpAny_call (CW (f:=f) I.mr M.makes M.init (acp.mp M.fn) (acv (F.run _ X.stack _ _ ⟨Value.ref (s.heap.objs.size+1)::us,[]⟩ (Value.ref (s.heap.objs.size+1)::(us++ds)) _ _ E (hr.make C us [])
  (I2.QH.make C us []) (hb _ (Value.ref (s.heap.objs.size+1)::us) I2.mr hl) r2 hq) fun r s' QI=>?_))
 cases r with
 | error e=>exact hx pins Z _ _ e s' I2 QI
 | ok fl =>
  cases fl with
  | ret u =>
   obtain⟨v,H',I3,rv,ev,q3⟩:=I2.after QI;subst ev;exact⟨rv,⟨V.ref (s.heap.objs.size+1),H',I3,rfl,q3⟩⟩
  | next=>exact False.elim QI
  | brk=>exact False.elim QI
  | cont=>exact False.elim QI
theorem Hk(M:Mk X.K C f)(F:ba X.prog X.w X.K X.mg X.base CX k f fd ps sp)(hr:de (k+1) X.A)(hg:Gl X x)(hm:X.mg x=some (.ref C))(hb:Binds X.K fd ps ds)(hd:Vals aK ds)(hx:Passes CX X E)(ha:PA X (e::es) t)(uu:autoParam ((x == ("__debug__":Str))=false) ra1)(he:autoParam (starEach (e::es) X.env=(false,eval e X.env)::starEach es X.env) ra0)(oo:autoParam ((backTo pos (starEach es X.env)).any (·.1)=false) ra0) :
  PE X (.Call (.Name x p) (e::es) [] pos) (C1 C sp aK E t):=by
 intro pins s Z H Q I h;refine ab8 (nr I hg hm ?_ uu);refine adv (h₀:=X.base) I.ok.mod.Cg M.kp (cL (ha pos pins s Z H _ I h) fun us s1 zz=>?_) he oo;obtain⟨vs,H1,I1,r,q⟩:=zz;refine ⟨I1.mr,?_⟩;exact C4 M F hr hb hd hx I1 r q
end
section
variable {k:Nat}{f:Addr}{ks:wv}{sp:Sp}{E:XK}{m:Str}{apos aaa:Pos}{e:Expr}{kws:List Keyword}{t tk:TA}{nm:Option Str}
variable {g:wf->wf->wf}{gV:List V->List V->List V}
end
structure az(N P:wv)(sc:Scope):Prop where
 kind:sc.kind=.function
 co:sc.isCoroutine=false
 gen:sc.isGenerator=false
 nd:N.Nodup
 pre:N.take P.length=P
 par:∀ x∈P,sc.names.lookup x=some .local\/sc.names.lookup x=some .cell
 MF:∀ y∈sc.names,y.2≠.free
theorem qh{kindOf:Str->Option NameKind}{x:Str}:∀{binds:List (Str×Value)} {m:xL},(∀ v,(x,v) ∉ binds)->bindL kindOf binds m x=m x
 | [],_,_=>rfl
 | (n,v)::r,m,h=>by
  unfold bindL;rw[qh fun w hw=>h w (aaI _ hw)];split
  .have:x≠n:=by rintro rfl;exact h v aaP
   simp[this]
  .rfl
theorem qi{kindOf:Str->Option NameKind}{x:Str}:∀{binds:List (Str×Value)} {m:xL},(∀ v,(x,v) ∉ binds)->bindC kindOf binds m x=m x
 | [],_,_=>rfl
 | (n,v)::r,m,h=>by
  unfold bindC;rw[qi fun w hw=>h w (aaI _ hw)];split
  .rfl
  .have:x≠n:=by rintro rfl;exact h v aaP
   simp[this]
theorem qj{kindOf:Str->Option NameKind}{x:Str}{v:Value}:∀{P:wv} {vs:wf} {i:Nat} {m:xL},P.Nodup->P[i]?=some x->vs[i]?=some v->kindOf x=some .local ->
  bindL kindOf (P.zip vs) m x=some v
 | [],_,_,_,_,h,_,_=>by simp at h
 | _::_,[],_,_,_,_,h,_=>by simp at h
 | p::P,w::vs,0,m,nd,h1,h2,hk=>by
  simp at h1 h2;subst h1;subst h2;show bindL kindOf ((p,w)::P.zip vs) m p=_;unfold bindL;rw[qh fun v hv=>(acw.mp nd).1 (adU hv).1,aaO hk];simp
 | p::P,w::vs,i+1,m,nd,h1,h2,hk=>by
  show bindL kindOf ((p,w)::P.zip vs) m x=_;unfold bindL;exact qj (i:=i) (acw.mp nd).2 (by simpa using h1) (by simpa using h2) hk
theorem qk{kindOf:Str->Option NameKind}{x:Str}{v:Value}:∀{P:wv} {vs:wf} {i:Nat} {m:xL},P.Nodup->P[i]?=some x->vs[i]?=some v->kindOf x≠some .local ->
  bindC kindOf (P.zip vs) m x=some v
 | [],_,_,_,_,h,_,_=>by simp at h
 | _::_,[],_,_,_,_,h,_=>by simp at h
 | p::P,w::vs,0,m,nd,h1,h2,hk=>by
  simp at h1 h2;subst h1;subst h2;show bindC kindOf ((p,w)::P.zip vs) m p=_;unfold bindC;rw[qi fun v hv=>(acw.mp nd).1 (adU hv).1,aaD hk];simp
 | p::P,w::vs,i+1,m,nd,h1,h2,hk=>by
  show bindC kindOf ((p,w)::P.zip vs) m x=_;unfold bindC;exact qk (i:=i) (acw.mp nd).2 (by simpa using h1) (by simpa using h2) hk
noncomputable def start(N:wv)(vs:List V):St:=vs.map some++List.replicate (N.length - vs.length) none
noncomputable def gC(CX:A4)(P:u8)(w:World)(K:zn)(mg:xL)(base:Heap)(N:wv)(qual:Str)(scope:Scope)(f:Addr)(cd:Value)(A:tx)(outer:List Env)(s:Shared)(H:Hp)(E:XK):Cx where
 prog:=P
 w:=w
 K:=K
 mg:=mg
 base:=base
 A:=A.deeper (envOfC qual scope s.heap.objs.size f cd)
 N:=N
 bg:=s
 bG:=H
 env:=envOfC qual scope s.heap.objs.size f cd
 outer:=outer
 stack:=envOfC qual scope s.heap.objs.size f cd::outer
 ex:=[]
 calm:=true
 fn:=fun _=>true
 pn:=[]
 xe:=fun e s'=>wpAny (model P w) (A.deeper (envOfC qual scope s.heap.objs.size f cd)) (leaving (envOfC qual scope s.heap.objs.size f cd) e) (fun _ P2=>CX outer H s E e P2) (fun e' P2=>CX outer H s E e' P2) s'
theorem uv{sc:Scope}{n:Nat}(h:sc.names.lookup x=some .cell):∃ c,(cellsFrom n sc.names []).lookup x=some c:=by
 have q:=PySem.W.cellsFrom_some sc.names n [] (.inl h);exact abJ.mp q
theorem A5{K:zn}{qual:Str}{scope:Scope}{f:Addr}{cd:Value}{outer:List Env}{s1:Shared}{E:XK}(S:az N ps scope)(hd:A.handled=none)(e0:xj P w K mg base A outer s H)(hl:vs.length=ps.length)(r:Vals vs us)(x:InCallC s s.heap.objs.size (bindL (envOfC qual scope s.heap.objs.size f cd).kindOf (ps.zip us) fun _=>none) (cellsFrom (s.heap.objs.size+1) scope.names []) (bindC (envOfC qual scope s.heap.objs.size f cd).kindOf (ps.zip us) fun _=>none) s1) :
  Inv (gC CX P w K mg base N qual scope f cd A outer s H E) [] (start N vs) H s1:=by
 have oo:ps.length<=N.length:=by have:=ab4 List.length S.pre;rw[abc]at this;omega
 obtain⟨h1,tk,rfl,hk⟩:=x.done;have QJ:∀ b:Addr,b ∉ (gC CX P w K mg base N qual scope f cd A outer s H E).ex:=fun b z=>absurd (show b∈([]:ww) from z) @2;refine⟨⟨e0.mod,S.kind,rfl,rfl,aaC _,fun y z c h1 h2=>?_,fun y hy=>?_,fun y c _ h=>?_,fun _=>hd,Around.frames_deeper e0.frames,.inr ⟨rfl,rfl⟩,fun b z=>absurd z (QJ b),e0.bs,e0.JQ,fun b _ _=>QJ b,fun b z=>absurd z (QJ b),e0.mM,e0.GL⟩,
  rfl,e0.bare,Un.kept hk,⟨_,x.toInCall.ns,fun i y v h1 h2 h3=>?_⟩,fun y c h=>⟨_,x.cell y c h⟩,e0.cu.fresh (aaC _),fun y c h=>?_,fun p hp=>absurd (show p∈([]:yp) from hp) @2,e0.cu.kept hk,?_⟩
 .exact name_of_addr x.apart (acn h1) (acn h2)
 .have hy:scope.names.lookup y=some .cell\/scope.names.lookup y=some .free:=hy;rcases hy with hy | hy
  .exact uv hy
  .exact absurd rfl (S.MF _ (acn hy))
 .exact aaQ (x.above y c (acn h))
 .have hi:i < vs.length:=by
   unfold start at h2
   by_cases hi:i < vs.length
   .exact hi
   .rw[ads (by simpa using hi)]at h2;rw[List.getElem?_replicate]at h2;split at h2<;>cases h2
  have ha:vs[i]?=some v:=by
   unfold start at h2;rw[adx (by simpa using hi),aaz]at h2;cases e:vs[i]? with
   | none=>rw[e]at h2;cases h2
   | some a=>rw[e]at h2;cases h2;rfl
  obtain⟨u,hu,rv⟩:=r.get ha;have hp:ps[i]?=some y:=by
   rw[<- S.pre,adD @0];exact h1
  have YO:ps.Nodup:=by rw[<- S.pre];exact S.nd.sublist (List.take_sublist _ _)
  refine⟨u,rv,?_⟩;rcases S.par y (abQ hp)with k | k
  .exact .inl ⟨k,qj YO hp hu k⟩
  .obtain⟨c,e⟩:=uv (n:=s.heap.objs.size+1) k;refine .inr ⟨.inl k,c,e,?_⟩;have q:=x.cell y c e;rw[qk YO hp hu (by show scope.names.lookup y≠_;rw[k];decide)]at q;exact q
 .exact e0.cu.fresh (aaQ (x.above y c (acn h)))
 .unfold start;show _=N.length;rw[aaV,aav,acx];omega
theorem JY{K:zn}{k:Nat}{f:Addr}{name qual:Str}{params:Arguments}{scope:Scope}{dV kV doc pm bB ct oc:Value}{an od:wS}{xl:Array wP}{sp:Sp}(lk:K.lookup f=some ⟨oc,od,.func (PySem.W.fnOf name qual params body scope dV kV doc pm an bB ct),xl⟩)(AS:PySem.W.codeIn K bB qual=true)(S:az N ps scope)(len:∀ vs H Q E,sp vs H Q E->vs.length=ps.length)(eG:∀(A:tx) (outer:List Env) (s:Shared) (H:Hp) (vs:List V) (Q:VK) (E:XK),de k (A.deeper (envOfC qual scope s.heap.objs.size f bB))->sp vs H Q E ->
   ∃ t,zh (gC CX P w K mg base N qual scope f bB A outer s H E) body t/\t { nx:=fun _ H'=>Q .dH H',rt:=Q } (start N vs) H) :
  ba P w K mg base CX (k+1) f (PySem.W.fnOf name qual params body scope dV kV doc pm an bB ct) ps sp:=by
 refine⟨len,fun A outer s H args us vs Q E hr e0 hb r xm=>?_⟩;have hl:=len _ _ _ _ xm;have KX:K.In s.heap:=e0.mod.Cg.keeps fun b o e=>(e0.bs b o e).1;have lim:s.heap.NoLimit:=e0.mod.nolimit.keeps fun b o e=>(e0.bs b o e).1;have QK:∀ y∈ps.zip us,scope.names.lookup y.1=some .local\/(scope.names.lookup y.1=some .cell/\((cellsFrom (s.heap.objs.size+1) scope.names []).lookup y.1).isSome=true):=fun⟨n,v⟩ hy=>by
  rcases S.par n (adU hy).1 with q | q
  .exact .inl q
  .exact .inr ⟨q,PySem.W.cellsFrom_some _ _ _ (.inl q)⟩
 refine codeAny_call_function hr.depth (KX _ _ lk) rfl S.co S.gen rfl (PySem.W.codeRec_of KX AS) (hb _ _ _ _ ?_);refine wpAny_newFunctionEnv_cells S.kind QK fun env he s1 x=>?_;subst he;refine⟨lim.keeps x.toInCall.keep,codeAny_func ?_⟩;obtain⟨t,ht,hq⟩:=eG A outer s H vs Q E (hr.deeper _) xm;have I:Inv (gC CX P w K mg base N qual scope f bB A outer s H E) [] (start N vs) H s1:=A5 S hr.hd e0 hl r x;refine abP (ht [] s1 (start N vs) H _ I hq) (fun fl s' hs=>?_) fun e s' hs=>hs;have fin:∀{bH:St} {H':Hp} {v:V} {u:Value},Inv (gC CX P w K mg base N qual scope f bB A outer s H E) [] bH H' s'->RelV v u->Q v H'->CE outer P w H s Q u s' :=
  fun{bH H' v u} am rv q=>⟨v,H',am.os,am.bare,am.base,am.cu,rv,q⟩
 cases fl with
 | ret u =>
  obtain⟨v,bH,H',am,rv,q⟩:=hs;exact fin am rv q
 | next =>
  obtain⟨bH,H',am,q⟩:=hs;exact fin (v:=V.dH) (u:=Value.none) am rfl q
 | brk =>
  obtain⟨_,_,_,q⟩:=hs;exact False.elim q
 | cont =>
  obtain⟨_,_,_,q⟩:=hs;exact False.elim q
section
variable {e:Expr}{t:TA}{id T:String}{r:List V->Hp->VK->Prop}
def MG(r:List V->Hp->VK->Prop)(t:TA):TE:=fun Z H Q=>t Z H fun vs H1=>r vs H1 Q
theorem uw(hc:gb X (.builtin id) r)(hg:Gl X x)(hm:X.mg x=none)(hv:bootBuiltins x=some (.builtin id))(ha:PA X (e::es) t)(hn:autoParam (x ≠ "__name__") ra1)(uu:autoParam ((x == ("__debug__":Str))=false) ra1)(he:autoParam (starEach (e::es) X.env=(false,eval e X.env)::starEach es X.env) ra0)(oo:autoParam ((backTo pos (starEach es X.env)).any (·.1)=false) ra0):PE X (.Call (.Name x p) (e::es) [] pos) (MG r t):=by
 intro pins s Z H Q I h;refine ab8 (ki I hg hm hv ?_ hn uu);exact ac3 (cL (ha pos pins s Z H _ I h) fun us s1 zz=>(by obtain⟨vs,H1,I1,r1,q1⟩:=zz;exact hc pins s1 Z H1 vs us Q I1 r1 q1)) he oo
theorem A6(hc:gb X (.type T) r)(hg:Gl X x)(hm:X.mg x=none)(hv:bootBuiltins x=some (.type T))(ha:PA X (e::es) t)(hn:autoParam (x ≠ "__name__") ra1)(uu:autoParam ((x == ("__debug__":Str))=false) ra1)(he:autoParam (starEach (e::es) X.env=(false,eval e X.env)::starEach es X.env) ra0)(oo:autoParam ((backTo pos (starEach es X.env)).any (·.1)=false) ra0):PE X (.Call (.Name x p) (e::es) [] pos) (MG r t):=by
 intro pins s Z H Q I h;refine ab8 (ki I hg hm hv ?_ hn uu);exact ab2 (cL (ha pos pins s Z H _ I h) fun us s1 ⟨vs,H1,I1,r1,q1⟩=>hc pins s1 Z H1 vs us Q I1 r1 q1) he oo
end
section
variable {κ:Type}[DecidableEq κ]
noncomputable def iz(kvs:List (κ×V))(k:κ):Option V:=(kvs.find? fun kv=>decide (kv.1=k)).map (·.2)
noncomputable def putK(kvs:List (κ×V))(k:κ)(v:V):List (κ×V) :=
 if(kvs.any fun kv=>decide (kv.1=k))=true then kvs.map (fun kv=>if kv.1=k then(kv.1,v)else kv)else kvs++[(k,v)]
theorem kM{p:κ×V}{r:List (κ×V)}{k:κ}(e:p.1=k):iz (p::r) k=some p.2:=by simp[iz,abL,e]
theorem ju{p:κ×V}{r:List (κ×V)}{k:κ}(e:¬ p.1=k):iz (p::r) k=iz r k:=by simp[iz,abL,e]
theorem ux(k:κ):∀ kvs:List (κ×V),(kvs.any fun kv=>decide (kv.1=k))=(iz kvs k).isSome
 | []=>rfl
 | p::r=>by
  rw[abF]
  by_cases e:p.1=k
  .simp only[kM e,aa2 e,Bool.true_or,Option.isSome_some]
  .rw[ju e,aaJ e,Bool.false_or];exact ux k r
theorem jv(kvs:List (κ×V))(k:κ)(v:V):(putK kvs k v).length<=kvs.length+1:=by
 unfold putK;split
 .rw[aav];omega
 .rw[aaV,aaX,acj];omega
theorem js.A7{o:Option V}{u:wP}(r:js o u):o.isSome=u.isSome:=by
 cases o with
 | none=>cases u with
  | none=>rfl
  | some _=>exact(show False from r).elim
 | some _=>cases u with
  | none=>exact(show False from r).elim
  | some _=>rfl
theorem KV.val{kvs:List (κ×V)}{vs:List (κ×Value)}(r:KV kvs vs)(k:κ):js (iz kvs k) (valueAt vs k):=by
 unfold KV at r;induction r with
 | nil=>exact True.intro
 | @cons p q ps qs h t ih =>
  obtain⟨h1,h2⟩:=h
  by_cases e:p.1=k
  .have e':q.1=k:=h1.symm.trans e;have b:valueAt (q::qs) k=some q.2:=by simp[valueAt,abL,e']
   rw[kM e,b];exact h2
  .have e':¬ q.1=k:=fun z=>e (h1.trans z);have b:valueAt (q::qs) k=valueAt qs k:=by simp[valueAt,abL,e']
   rw[ju e,b];exact ih
theorem KV.any{kvs:List (κ×V)}{vs:List (κ×Value)}(r:KV kvs vs)(k:κ):(kvs.any fun kv=>decide (kv.1=k))=vs.any fun kv=>decide (kv.1=k):=by
 unfold KV at r;induction r with
 | nil=>rfl
 | cons h t ih=>rw[abF,abF,ih,h.1]
theorem KV.MH{kvs:List (κ×V)}{vs:List (κ×Value)}(r:KV kvs vs)(k:κ)(ry:RelV y u) :
  KV (kvs.map fun kv=>if kv.1=k then(kv.1,y)else kv) (vs.map fun kv=>if kv.1=k then(kv.1,u)else kv):=by
 unfold KV at r ⊢;induction r with
 | nil=>exact .nil
 | @cons p q ps qs h t ih =>
  rw[aaM,aaM];refine .cons ?_ ih;obtain⟨h1,h2⟩:=h
  by_cases e:p.1=k
  .rw[aaO e,aaO (h1.symm.trans e)];exact⟨h1,ry⟩
  .rw[aaD e,aaD (fun z=>e (h1.trans z))];exact⟨h1,h2⟩
theorem KV.put{kvs:List (κ×V)}{vs:List (κ×Value)}(r:KV kvs vs)(k:κ)(ry:RelV y u):KV (putK kvs k y) (stored vs k u):=by
 unfold putK stored;rw[r.any k]
 by_cases e:(vs.any fun kv=>decide (kv.1=k))=true
 .rw[aaO e,aaO e];exact r.MH k ry
 .rw[aaD e,aaD e];exact Paired.snoc r ⟨rfl,ry⟩
theorem KV.keys{kvs:List (κ×V)}{vs:List (κ×Value)}(r:KV kvs vs):kvs.map (·.1)=vs.map (·.1):=by
 unfold KV at r;induction r with
 | nil=>rfl
 | cons h t ih=>rw[aaM,aaM,ih,h.1]
theorem KV.length{kvs:List (κ×V)}{vs:List (κ×Value)}(r:KV kvs vs):kvs.length=vs.length:=Paired.length r
end
theorem ql{k:Key}(r:RelV (kV k) u):(cb P w).is k u=true:=by
 cases k with
 | inl i=>obtain⟨t,e⟩:=(show ∃ t,u=Value.int i t from r);subst e;exact uf P w i t
 | inr x=>obtain⟨t,e⟩:=(show ∃ t,u=Value.str x t from r);subst e;exact ug P w x t
theorem qm{P:u8}{w:World}:∀{ks:List Key} {us:wf},Vals (ks.map kV) us->ItemsAre (cb P w) ks us
 | [],_,r=>by rw[acN]at r;cases r;exact .nil
 | k::ks,_,r=>by
  rw[aaM]at r;cases r with
  | cons h t=>exact .cons (ql h) (qm t)
noncomputable abbrev KT(H:Hp):List (List Key×V)->List (List Key×Addr×Value)->Prop:=Paired fun p q=>p.1=q.1/\H q.2.1=some (.tup (p.1.map kV))/\RelV p.2 q.2.2
theorem KT.val(r:KT H kvs xs)(k:List Key):js (iz kvs k) ((atKey xs k).map (·.2)):=by
 induction r with
 | nil=>exact True.intro
 | @cons p q ps qs h t ih =>
  obtain⟨h1,_,h2⟩:=h
  by_cases e:p.1=k
  .have e':q.1=k:=h1.symm.trans e;have b:atKey (q::qs) k=some q.2:=by simp[atKey,abL,e']
   rw[kM e,b];exact h2
  .have e':¬ q.1=k:=fun z=>e (h1.trans z);have b:atKey (q::qs) k=atKey qs k:=by simp[atKey,abL,e']
   rw[ju e,b];exact ih
theorem KT.MH(r:KT H kvs xs)(k:List Key)(ry:RelV y u) :
  KT H (kvs.map fun kv=>if kv.1=k then(kv.1,y)else kv) (xs.map (putAt k u)):=by
 induction r with
 | nil=>exact .nil
 | @cons p q ps qs h t ih =>
  rw[aaM,aaM];refine .cons ?_ ih;obtain⟨h1,h2,h3⟩:=h;unfold putAt
  by_cases e:p.1=k
  .rw[aaO e,aaO (h1.symm.trans e)];exact⟨h1,h2,ry⟩
  .rw[aaD e,aaD (fun z=>e (h1.trans z))];exact⟨h1,h2,h3⟩
theorem KT.put(r:KT H kvs xs)(k:List Key)(hb:H b=some (.tup (k.map kV)))(ry:RelV y u) :
  KT H (putK kvs k y) (storedH xs k b u):=by
 have e:(kvs.any fun kv=>decide (kv.1=k))=(atKey xs k).isSome:=by
  rw[ux,(r.val k).A7,Option.isSome_map]
 unfold putK storedH;rw[e]
 by_cases q:(atKey xs k).isSome=true
 .rw[aaO q,aaO q];exact r.MH k ry
 .rw[aaD q,aaD q];exact Paired.snoc r ⟨rfl,hb,ry⟩
theorem KT.keeps(r:KT H kvs xs)(ht:∀ b ys,H b=some (.tup ys)->H' b=some (.tup ys)):KT H' kvs xs :=
 Paired.LR r fun _ _ z=>⟨z.1,ht _ _ z.2.1,z.2.2⟩
theorem JZ{u:HO}(ok:eV P w H h)(e:Rd H a u):cm P w H h a u:=e.ok ok
theorem C5{kvs:List (Key×V)}(ok:eV P w H h)(e:Rd H a (.dK kvs)):kvs.length<=sizeLine/\(a == sysModules)=false/\∃ vs,KV kvs vs/\h.DictOf (cb P w) a vs :=
 show cm P w H h a (.dK kvs) from JZ ok e
theorem uy{kvs:List (Key×V)}(ok:eV P w H h)(e:H a=some (.dK kvs)):kvs.length<=sizeLine/\(a == sysModules)=false/\∃ vs,KV kvs vs/\h.DictOf (cb P w) a vs:=C5 ok (.inl e)
theorem xn{ks:List Key}(ok:eV P w H h)(e:H a=some (.tup (ks.map kV))):(tupleKind (cb P w)).is h ks a:=by
 obtain⟨_,aV,r,o,h1,h2,n,h3⟩:=(show cm P w H h a (.tup (ks.map kV)) from ok a _ e);exact⟨o,aV.toArray,n,h1,h2,h3,by simpa using qm r⟩
theorem C6(ok:eV P w H h)(e:Rd H a (.dT kvs)):kvs.length<=sizeLine/\(a == sysModules)=false /\
  ∃ xs,KT H kvs xs/\h.DictOfH (tupleKind (cb P w)) a xs:=by
 obtain⟨z,y,xs,r,o,es,ep,h1,h2,h3,h4,h5⟩:=(show cm P w H h a (.dT kvs) from JZ ok e);refine⟨z,y,xs,r,o,es,ep,h1,h2,h3,h4,fun x hx=>?_,h5⟩;have all:∀{l:List (List Key×V)} {m:List (List Key×Addr×Value)},KT H l m->∀ x∈m,(tupleKind (cb P w)).is h x.1 x.2.1:=by
  intro l m q;induction q with
  | nil=>intro x hx;exact nomatch hx
  | @cons p q ps qs hq t ih =>
   intro x hx;rcases aaA.mp hx with e | hx
   .subst e;exact xn ok (by rw[<- hq.1];exact hq.2.1)
   .exact ih x hx
 exact all r x hx
theorem QL(ok:eV P w H h)(e:H a=some (.dT kvs)):kvs.length<=sizeLine/\(a == sysModules)=false /\
  ∃ xs,KT H kvs xs/\h.DictOfH (tupleKind (cb P w)) a xs:=C6 ok (.inl e)
noncomputable def pO(H:Hp)(a:Addr)(y:V)(r:Option V):Prop :=
 (∃ kvs k,Rd H a (.dK kvs)/\y=kV k/\r=iz kvs k)\/∃ kvs k b,Rd H a (.dT kvs)/\y=.ref b/\H b=some (.tup (k.map kV))/\r=iz kvs k
noncomputable def rL(H:Hp)(a:Addr)(y v:V)(H':Hp):Prop :=
 (∃ kvs k,H a=some (.dK kvs)/\y=kV k/\kvs.length < sizeLine/\H'=upd H a (.dK (putK kvs k v))) \/
 ∃ kvs k b,H a=some (.dT kvs)/\y=.ref b/\H b=some (.tup (k.map kV))/\kvs.length < sizeLine/\H'=upd H a (.dT (putK kvs k v))
theorem pO.k{H:Hp}{a:Addr}{kvs:List (Key×V)}{k:Key}(e:H a=some (.dK kvs)):pO H a (kV k) (iz kvs k):=.inl ⟨kvs,k,.inl e,rfl,rfl⟩
theorem pO.t{k:List Key}(e:H a=some (.dT kvs))(eb:H b=some (.tup (k.map kV))):pO H a (.ref b) (iz kvs k):=.inr ⟨kvs,k,b,.inl e,rfl,eb,rfl⟩
theorem rL.k{H:Hp}{a:Addr}{kvs:List (Key×V)}{k:Key}{v:V}(e:H a=some (.dK kvs))(hl:kvs.length < sizeLine):rL H a (kV k) v (upd H a (.dK (putK kvs k v))):=.inl ⟨kvs,k,e,rfl,hl,rfl⟩
theorem rL.t{k:List Key}(e:H a=some (.dT kvs))(eb:H b=some (.tup (k.map kV)))(hl:kvs.length < sizeLine) :
  rL H a (.ref b) v (upd H a (.dT (putK kvs k v))):=.inr ⟨kvs,k,b,e,rfl,eb,hl,rfl⟩
section
variable {r:Value}{o:Option V}
theorem Inv.big(I:Inv X pins Z H s):sysModules < s.heap.objs.size:=by
 have h:mainGlobals < s.heap.objs.size:=(I.mod.glob.keeps I.bk).lt;exact Nat.lt_trans @1 h
theorem A8(hu:A.units+1 < cLine)(I:Inv X pins Z H s)(g:pO H a y (some v))(ry:RelV y u)(h:∀ w' s',Inv X pins Z H s'->RelV v w'->Q w' s') :
  wpAny (model X.prog X.w) A (getItem (.ref a) u) Q E s:=by
 rcases g with⟨kvs,k,e,ey,l⟩ | ⟨kvs,k,b,e,ey,eb,l⟩
 .subst ey;obtain⟨z,hd,vs,rel,dd⟩:=C5 I.cu e;obtain⟨w',hw,xo⟩:=js.some_of (v:=v) (o:=valueAt vs k) (by rw[l];exact rel.val k);exact wpAny_getItem_of (ql ry) dd.mapOf hw (h w' _ (I.tok _) xo)
 .subst ey;cases (show u=Value.ref b from ry);obtain⟨z,hd,xs,rel,dd⟩:=C6 I.cu e;obtain⟨w',hw,xo⟩:=js.some_of (v:=v) (o:=(atKey xs k).map (·.2)) (by rw[l];exact rel.val k);obtain⟨p,hp,Up⟩:=aaB.mp hw;refine wpAny_getItem_heap (tupleKind_room_in1 hu) (xn I.cu eb) dd hp ?_;rw[Up];exact h w' _ (I.tok _) xo
theorem ny{ob:HO}(I:Inv X pins Z H s)(mu:Qk (H a))(hs:Heap.SameBut a s.heap h')(he:∃ q,h'.get? a=some q)(new:cm X.prog X.w (upd H a ob) h' a ob) :
  Inv X pins Z (upd H a ob) { s with heap:=h',toks:=t' } :=
 I.write (x:=a) (e:=a) mu (.inl rfl) (fun b q hb z=>(hs.2 b hb).trans z) he new
theorem xp{kvs:List (Key×V)}{vs:List (Key×Value)}(z:kvs.length<=sizeLine)(hd:(a == sysModules)=false)(rel:KV kvs vs)(dd:h'.DictOf (cb P w) a vs) :
  cm P w H' h' a (.dK kvs):=⟨z,hd,vs,rel,dd⟩
theorem A9{Q:Unit->Shared->Prop}(hu:A.units+1 < cLine)(I:Inv X pins Z H s)(g:rL H a y v H')(ry:RelV y u)(rv:RelV v r)(h:∀ s',Inv X pins Z H' s'->Q () s') :
  wpAny (model X.prog X.w) A (setItem (.ref a) u r) Q E s:=by
 rcases g with⟨kvs,k,e,ey,l,eH⟩ | ⟨kvs,k,b,e,ey,eb,l,eH⟩
 .subst ey eH;obtain⟨z,hd,vs,rel,dd⟩:=uy I.cu e;have hz:vs.length<=sizeLine:=by rw[<- rel.length];exact z
  have hl:(putK kvs k v).length<=sizeLine:=by have:=jv kvs k v;omega
  refine wpAny_setItem_pairs (hsz:=hz) (ql ry) dd fun h' GQ hs=>h _ ?_;have he:∃ q,h'.get? a=some q:=let ⟨q,_,_,hq,_⟩:=GQ;⟨q,hq⟩;exact ny I (by rw[e];exact True.intro) hs he (xp hl hd (rel.put k rv) GQ)
 .subst ey eH;cases (show u=Value.ref b from ry);obtain⟨z,hd,xs,rel,dd⟩:=QL I.cu e;have hz:xs.length<=sizeLine:=by rw[<- Paired.length rel];exact z
  have hl:(putK kvs k v).length<=sizeLine:=by have:=jv kvs k v;omega
  refine wpAny_setItem_heap (hsz:=hz) (tupleKind_room_in1 hu) (xn I.cu eb) dd fun h' GQ hs=>h _ ?_;obtain⟨q,es,ep,hq,h2,h3,h4,_,h5⟩:=GQ;refine ny I (by rw[e];exact True.intro) hs ⟨q,hq⟩ ⟨hl,hd,_,(rel.put k eb rv).keeps fun c ys ec=>?_,q,es,ep,hq,h2,h3,h4,h5⟩;rw[bA (Qh ec e (fun z=>nomatch z))];exact ec
end
def Ba(i:Expr):Prop:=∀ ov iv,subscripted i false ov iv=operate [ov,iv] (getItem ov iv)
theorem zu{env:Env}{value slice:Expr}{T id:String}(hl:typeLookup (.type T) "__getitem__"=pure (some (.builtin id)))(hs:Ba slice)(h:wpAny (model prog w) A (eval value env) (fun o bL=>wpAny (model prog w) A (eval slice env) (fun i bw=>bw.TypeIs o T/\wpAny (model prog w) A (getItem o i) Q E bw) E bL) E s) :
  wpAny (model prog w) A (eval (.Subscript value slice pos) env) Q E s:=by
 refine Subscript_ (abP h (fun o bL gr=>abP gr (fun i bw i9=>?_) fun _ _ x=>x) fun _ _ x=>x);obtain⟨hT,i9⟩:=i9;unfold subscriptTail;refine aaw ?_;rw[getitemInPython_of_ne hT.not_modules];refine aaw (wpAny_specialOf hT hl ?_);have fin:wpAny (model prog w) A (subscripted slice false o i) (fun r s₃=>wpAny (model prog w) A (letTemporaryGo value o r >>= fun _=>pure r) Q E s₃) E bw:=by
  rw[hs o i];exact wpAny_operating (abP i9 (fun r s₃ oq=>aaw (wpAny_letTemporaryGo (aay oq))) fun _ _ x=>x)
 first
  | exact aay (aaw fin)
  | exact aaw (aay (aaw fin))
  | exact aaw fin
theorem uz{o:Option V}(I:Inv X pins Z H s)(g:pO H a y o):s.TypeIs (.ref a) "dict":=by
 rcases g with⟨kvs,k,e,_,_⟩ | ⟨kvs,k,b,e,_,_,_⟩
 .obtain⟨_,_,vs,_,dd⟩:=C5 I.cu e;exact dd.typeIs
 .obtain⟨_,_,xs,_,dd⟩:=C6 I.cu e;exact dd.typeIs
noncomputable def C7(td ty:TE):TE:=fun Z H Q=>td Z H fun x H1=>ty Z H1 fun y H2=>∃ a v,x=.ref a/\pO H2 a y (some v)/\Q v H2
noncomputable def C8(td ty tv:TE):TS:=fun D Z H=>tv Z H fun v H1=>td Z H1 fun x H2=>ty Z H2 fun y H3=>∃ a H4,x=.ref a/\rL H3 a y v H4/\D.nx Z H4
section
variable {i e value:Expr}{pos' CY:Pos}{td ty tv:TE}
theorem Hl(hu:X.A.units+1 < cLine)(ho:PE X o td)(hi:PE X i ty)(hs:Ba i):PE X (.Subscript o i pos) (C7 td ty):=by
 intro pins s Z H Q I h;refine zu ady.lookup hs (cL (ho pins s Z H _ I h) fun u s1 zz=>?_);obtain⟨x,H1,I1,rx,q1⟩:=zz;refine cL (hi pins s1 Z H1 _ I1 q1) fun iv s2 zy=>?_;obtain⟨y,H2,I2,ry,a,v,ex,g,q2⟩:=zy;subst ex;obtain rfl:u=Value.ref a:=rx;exact⟨uz I2 g,A8 hu I2 g ry fun w' s3 I3 xo=>⟨v,H2,I3,xo,q2⟩⟩
theorem Hm(hu:X.A.units+1 < cLine)(ho:PE X o td)(hi:PE X i ty)(hv:PE X value tv)(hs:swapsWith value (some (.Subscript o i pos')) pos.line X.env=pure false) :
  PS X (.Assign [.Subscript o i pos'] value pos) (C8 td ty tv):=by
 intro pins s Z H D I h;refine wpAny_Assign_Subscript (cL (hv pins s Z H _ I h) fun r s1 zz=>?_) hs;obtain⟨v,H1,I1,rv,q1⟩:=zz;refine cL (ho pins s1 Z H1 _ I1 q1) fun u s2 zy=>?_;obtain⟨x,H2,I2,rx,q2⟩:=zy;refine cL (hi pins s2 Z H2 _ I2 q2) fun iv s3 zx=>?_;obtain⟨y,H3,I3,ry,a,H4,ex,g,q3⟩:=zx;subst ex;obtain rfl:u=Value.ref a:=rx;exact A9 hu I3 g ry rv fun s4 I4=>⟨Z,H4,I4,q3⟩
end
theorem C9(h:Heap)(hb:sysModules < h.objs.size):cm P w H (h.push { cls:=.type "dict",data:=.dict #[] }) h.objs.size (.dK []) :=
 ⟨aaY _,acm.mpr (acD (aa6 hb)),[],.nil,Heap.DictOf.new h⟩
def rM:List (TE×TE)->St->Hp->(List (V×V)->Hp->Prop)->Prop
 | [],_,H,Q=>Q [] H
 | (tk,tv)::r,Z,H,Q=>tk Z H fun x H1=>tv Z H1 fun y H2=>rM r Z H2 fun ps H3=>Q ((x,y)::ps) H3
abbrev VV:List (V×V)->List (Value×Value)->Prop:=Paired fun p q=>RelV p.1 q.1/\RelV p.2 q.2
def QM(X:Cx)(pos:Pos)(keys:List (Option Expr))(values:v6)(uA:List (TE×TE)):Prop :=
 ∀(pins:yp) (s:Shared) (Z:St) (H:Hp) (Q:List (V×V)->Hp->Prop),Inv X pins Z H s->rM uA Z H Q ->
  wpAny (model X.prog X.w) X.A (evalPairs (pairTrees keys values X.env pos)) (fun vs s'=>∃ ps H',Inv X pins Z H' s'/\VV ps vs/\Q ps H') X.xe s
theorem Hn:QM X pos [] [] []:=fun pins s Z H Q I h=>pairTrees_nil_walk ⟨[],H,I,.nil,h⟩
theorem Dc{k v:Expr}{ks:List (Option Expr)}{vs:v6}{tk tv:TE}{uA:List (TE×TE)}(hk:PE X k tk)(hv:PE X v tv)(hr:QM X pos ks vs uA) :
  QM X pos (some k::ks) (v::vs) ((tk,tv)::uA):=fun pins s Z H Q I h =>
 pairTrees_cons_walk (cL (hk pins s Z H _ I h) fun u s1 ⟨x,H1,I1,rx,q1⟩=>cL (hv pins s1 Z H1 _ I1 q1) fun w2 s2 ⟨y,H2,I2,ry,q2⟩ =>
  cL (hr pins s2 Z H2 _ I2 q2) fun ws s3 zz=>(by obtain⟨ps,H3,I3,rel,q3⟩:=zz;exact ⟨(x,y)::ps,H3,I3,.cons ⟨rx,ry⟩ rel,q3⟩))
noncomputable def ja(kvs more:List (Key×V)):List (Key×V):=more.foldl (fun acc kv=>putK acc kv.1 kv.2) kvs
theorem KV.merge:∀{more:List (Key×V)} {rs:List (Key×Value)} {kvs:List (Key×V)} {vs:List (Key×Value)},KV more rs->KV kvs vs->KV (ja kvs more) (merged vs rs):=by
 intro more rs kvs vs r;unfold KV at r;induction r generalizing kvs vs with
 | nil=>intro q;exact q
 | @cons p q ps qs h t ih =>
  intro r0;have e:KV (putK kvs p.1 p.2) (stored vs q.1 q.2):=by
   have:=r0.put p.1 h.2;rw[<- h.1];exact this
  exact ih e
theorem iK:∀(more kvs:List (Key×V)),(ja kvs more).length<=kvs.length+more.length
 | [],kvs=>by show kvs.length<=kvs.length+0;omega
 | p::r,kvs=>by
  have h1:=iK r (putK kvs p.1 p.2);have h2:=jv kvs p.1 p.2;show(ja (putK kvs p.1 p.2) r).length<=_;rw[aaX];omega
theorem ot{P:u8}{w:World}:∀{kvs:List (Key×V)} {ws:List (Value×Value)},VV (kvs.map fun kv=>(kV kv.1,kv.2)) ws->∃ rs,Carries (cb P w) ws rs/\KV kvs rs
 | [],_,r=>by rw[acN]at r;cases r;exact⟨[],True.intro,.nil⟩
 | p::kvs,_,r=>by
  rw[aaM]at r;cases r with
  | @cons a b as bs h t =>
   obtain⟨rs,c,q⟩:=ot (P:=P) (w:=w) t;obtain⟨b1,b2⟩:=b;exact⟨(p.1,b2)::rs,⟨ql h.1,rfl,c⟩,.cons ⟨rfl,h.2⟩ q⟩
noncomputable def Dd(uA:List (TE×TE)):TE:=fun Z H Q=>∀ p,H p=none->rM uA Z (upd H p (.dK [])) fun ps H2=>H2 p=some (.dK [])/\∃ kvs:List (Key×V),ps=kvs.map (fun kv=>(kV kv.1,kv.2))/\kvs.length<=15/\Q (.ref p) (upd H2 p (.dK (ja [] kvs)))
theorem Ho{keys:List (Option Expr)}{values:v6}{uA:List (TE×TE)}(h:QM X pos keys values uA)(kN:keys.all (·.isSome)=true)(hl:keys.length=values.length)(h0:keys≠[])(Vy:keys.length<=15):PE X (.Dict keys values pos) (Dd uA):=by
 intro pins s Z H Q I q;have hn:=I.cu.fresh (aaC s.heap.objs.size);have I1:=I.laid (a:=s.heap.objs.size) (o:=.dK []) (h':=s.heap.push { cls:=.type "dict",data:=.dict #[] }) (t':=s.toks) (fun _ _ q=>aax _ q) (aaC _) (C9 s.heap I.big);refine wpAny_Dict_walk (knd:=cb X.prog X.w) kN hl h0 Vy (cL (h pins _ Z _ _ I1 (q _ hn)) fun ws s2 zz=>?_);obtain⟨ps,H2,I2,rel,e,kvs,ep,lk,q2⟩:=zz;subst ep;obtain⟨rs,c,rk⟩:=ot (P:=X.prog) (w:=X.w) rel;obtain⟨z,hd,vs0,r0,dd⟩:=uy I2.cu e;cases r0;refine⟨rs,c,dd,fun h' GQ hs=>⟨.ref s.heap.objs.size,_,?_,rfl,q2⟩⟩;have hz:(ja [] kvs).length<=sizeLine:=by
  have h1:=iK kvs [];rw[acj]at h1;rw[sizeLine_eq];omega
 have he:∃ q,h'.get? s.heap.objs.size=some q:=let ⟨q,_,_,hq,_⟩:=GQ;⟨q,hq⟩;exact ny I2 (by rw[e];exact True.intro) hs he (xp hz hd (rk.merge .nil) GQ)
end L2
namespace HT
open PySem PyProof.Rows
section
open PySem.SeqAt
open PySem.AutoSeq1 (wpAny_loadPart')
open PySem.MeetsSeq PySem.MeetsSeq2 PySem.MeetsSeq3
end
section
variable {prog:u8}{w:World}{A:tx}{E:xz}{s:Shared}
theorem Hq{t b:Addr}{vs ws:wf}{Q:xz}(ht:IsTup s.heap t vs.toArray)(hb:IsTup s.heap b ws.toArray)(hv:vs≠[])(h1:ws=[]->Q (.ref t) s)(h2:ws≠[]->Q (.ref s.heap.objs.size) { s with heap:=s.heap.push { cls:=.type "tuple",data:=.seq (vs++ws).toArray } })(hsz:vs.length+ws.length<=sizeLine):wpAny (model prog w) A (binaryOp .Add (.ref t) (.ref b)) Q E s:=by
 obtain⟨⟨cls,dd,data,sl⟩,ho,hc,n,hd⟩:=id ht;obtain⟨⟨Vz,P4,data2,Uq⟩,kO,Cj,n2,hd2⟩:=id hb;simp only at hc hd Cj hd2;subst hc hd Cj hd2;have e:vs.toArray++ws.toArray=(vs++ws).toArray:=by simp
 by_cases hw:ws=[]
 .exact concat_meets ⟨_,ho,rfl⟩ ⟨_,kO,rfl⟩ noFill_tuple_add seq_tuple_add acY acS (acO _ _)
   (tuple_addW1 t b vs.toArray ws.toArray n n2 dd P4 sl Uq (by simpa using hv) (by simp[hw])) ⟨ho,kO,h1 hw⟩
 .refine concat_meets ⟨_,ho,rfl⟩ ⟨_,kO,rfl⟩ noFill_tuple_add seq_tuple_add acY acS (acO _ _)
   (tuple_addW2 t b vs.toArray ws.toArray n n2 dd P4 sl Uq (by simpa using hv) (by simpa using hw) (by rw[aaL,aaL];exact hsz)) ⟨ho,kO,?_⟩
  rw[e];exact h2 hw
noncomputable def dG(n d:Nat):v0->Nat
 | none=>d
 | some v=>if v < 0 then(v+(n:Int)).toNat else min v.toNat n
theorem ou(n d:Nat):dG n d none=d:=rfl
theorem jR(n d k:Nat):dG n d (some (k:Int))=min k n:=by
 show(if(k:Int) < 0 then((k:Int)+(n:Int)).toNat else min (k:Int).toNat n)=min k n;rw[aaD @0,abi]
theorem MI(n d:Nat)(hd:d<=n)(o:v0):dG n d o<=n:=by
 cases o with
 | none=>exact hd
 | some v =>
  show(if v < 0 then(v+(n:Int)).toNat else min v.toNat n)<=n
  by_cases hv:v < 0
  .rw[aaO hv];omega
  .rw[aaD hv];exact ac7 _ _
theorem zv(v:Int)(n d:Nat):(if v < 0 then max (v+(n:Int)) 0 else min v (n:Int))=((dG n d (some v):Nat):Int):=by
 show(if v < 0 then max (v+(n:Int)) 0 else min v (n:Int))=(((if v < 0 then(v+(n:Int)).toNat else min v.toNat n):Nat):Int)
 by_cases hv:v < 0
 .simp only[aaO hv];omega
 .simp only[aaD hv];omega
theorem xq(lo hi:v0)(n:Nat):Builtin.Slice.sliceAdjust lo hi 1 (n:Int)=(((dG n 0 lo:Nat):Int),((dG n n hi:Nat):Int)):=by
 have h1:¬ ((1:Int) < 0):=by omega
 unfold Builtin.Slice.sliceAdjust;simp only[h1,adN];refine Prod.ext ?_ ?_
 .cases lo with
  | none=>rfl
  | some v=>exact zv v n 0
 .cases hi with
  | none=>rfl
  | some v=>exact zv v n n
theorem xr(i j:Nat):Builtin.Slice.slicePlaces (i:Int) (j:Int) 1=j - i:=by
 unfold Builtin.Slice.slicePlaces;have h1:(1:Int) > 0:=by omega
 simp only[h1,acT,Int.ediv_one];split<;>omega
theorem ox{v:Value}{o:v0}{Q:v0->Shared->Prop}(p:IsPart v o)(h:Q o s):wpAny (model prog w) A (Builtin.Slice.slicePartIndex v) Q E s:=by
 cases p with
 | none=>exact slicePart_none h
 | int i t=>exact slicePart_int h
theorem iR{sl:Addr}{vl vu:Value}{lo hi:v0}{n:Nat}{Q:Int×Int×Nat->Shared->Prop}(hs:s.heap.IsSliceOf sl vl vu .none)(pl:IsPart vl lo)(pu:IsPart vu hi)(h:Q (((dG n 0 lo:Nat):Int),1,dG n n hi - dG n 0 lo) s):wpAny (model prog w) A (Builtin.Slice.sliceApplied (.ref sl) (pure (n:Int))) Q E s:=by
 obtain⟨os,MJ,Ur,QN⟩:=id hs;unfold Builtin.Slice.sliceApplied Builtin.Slice.sliceFields;refine aaw (aaw (abM MJ QN (x:=vl) rfl (aaw (abM MJ QN (x:=vu) rfl (aaw (abM MJ QN (x:=.none) rfl (aay ?_)))))));refine aaw (slicePart_none ?_);show wpAny _ _ (if((1:Int) == 0)=true then _ else _) _ _ s;rw[aaD @1];refine aaw (ox pl (aaw (ox pu (aaw (aay ?_)))));show wpAny _ _ (match Builtin.Slice.sliceAdjust lo hi 1 (n:Int)with | (lo,hi)=>pure (lo,(1:Int),Builtin.Slice.slicePlaces lo hi 1)) _ _ s;rw[xq lo hi n];show wpAny _ _ (pure (((dG n 0 lo:Nat):Int),(1:Int),Builtin.Slice.slicePlaces ((dG n 0 lo:Nat):Int) ((dG n n hi:Nat):Int) 1)) _ _ s;rw[xr];exact aay h
theorem Dg(xs:Array Value)(i k:Nat):((List.range k).filterMap fun(m:Nat)=>xs[((i:Int)+(m:Int) * 1).toNat]?).toArray=((xs.toList.drop i).take k).toArray:=by
 have e:(fun(m:Nat)=>xs[((i:Int)+(m:Int) * 1).toNat]?)=fun m=>xs[i+m]?:=by
  funext m;have:((i:Int)+(m:Int) * 1).toNat=i+m:=by omega
  rw[this]
 rw[e];have:=pick_run xs i k;rw[List.filterMap_map]at this;have e2:((fun x=>xs[x]?) ∘ fun x=>i+x)=fun m=>xs[i+m]?:=rfl;rw[e2]at this;rw[this]
theorem kP{t sl:Addr}{items:Array Value}{vl vu:Value}{lo hi:v0}{Q:xz}(ht:IsTup s.heap t items)(hs:s.heap.IsSliceOf sl vl vu .none)(pl:IsPart vl lo)(pu:IsPart vu hi)(hw:¬ (dG items.size 0 lo=0/\dG items.size items.size hi=items.size))(h:Q (.ref s.heap.objs.size) { s with heap:=s.heap.push { cls:=.type "tuple",data:=.seq ((items.toList.drop (dG items.size 0 lo)).take (dG items.size items.size hi - dG items.size 0 lo)).toArray } })(hsz:items.size<=sizeLine):wpAny (model prog w) A (getItem (.ref t) (.ref sl)) Q E s:=by
 have zw:sizeOk (.seq ((items.toList.drop (dG items.size 0 lo)).take (dG items.size items.size hi - dG items.size 0 lo)).toArray):=by
  show((items.toList.drop (dG items.size 0 lo)).take (dG items.size items.size hi - dG items.size 0 lo)).toArray.size<=sizeLine;rw[aaL,abc,abG,aa7];omega
 have hj:dG items.size items.size hi<=items.size:=MI _ _ (aaC _) hi;obtain⟨os,MJ,Ur,QN⟩:=id hs;have VA:s.TypeIs (.ref sl) "slice":=⟨os,MJ,Ur⟩;unfold getItem
 try with_reducible refine abw ?_
 first | refine aaw (aay ?_) | skip
 refine aaw (wpAny_sequenceKey ht.typeIs @1 ?_);refine aaw (abr (name:=Str.ofString "__getitem__") ht.typeIs abp
  (abx abp ht.typeIs entry_tuple_getitem ?_ (args_tuple_getitem _ _)))
 show wpAny _ _ (Builtin.Tuple.tupleItemsOf (.ref t) >>= _) _ _ s;refine aaw (tupleItemsOf_ ht ?_);refine aaw (adw VA ?_);rw[aaO @1];refine aaw (iR hs pl pu ?_);have VB:¬ ((((dG items.size 0 lo:Nat):Int) == 0&&(1:Int) == 1&&(dG items.size items.size hi - dG items.size 0 lo) == items.size)=true):=by
  intro q;rw[aaN,aaN]at q;have q1:((dG items.size 0 lo:Nat):Int)=0:=eq_of_beq q.1.1;have q2:dG items.size items.size hi - dG items.size 0 lo=items.size:=eq_of_beq q.2;exact hw ⟨@0,@0⟩
 show wpAny _ _ (if(((dG items.size 0 lo:Nat):Int) == 0&&(1:Int) == 1&&(dG items.size items.size hi - dG items.size 0 lo) == items.size)=true then _ else _) _ _ s;rw[aaD VB,Dg]
 first
  | exact aaw (m:=Builtin.Tuple.tupleExact _) (abv (aay ⟨_,rfl,aay h⟩) zw)
  | exact aaw (m:=Builtin.Tuple.tupleExact _) (abv (aaw (aay (aay ⟨_,rfl,aay h⟩))) zw)
  | exact aaw (aaw (m:=Builtin.Tuple.tupleExact _) (abv (aay (aay ⟨_,rfl,aay h⟩)) zw))
  | exact aaw (aaw (m:=Builtin.Tuple.tupleExact _) (abv (aay ⟨_,rfl,aay h⟩) zw))
end
end HT
namespace L2
open PySem PySem.Spec PyProof.Rows
variable {X:Cx}{xs:List V}{n:Nat}{J:Type}{pins:yp}{s:Shared}{aV:wf}{A:tx}{v:Value}
abbrev TO:=St->Hp->(Option Int->Hp->Prop)->Prop
def PO(X:Cx)(e:Option Expr)(t:TO):Prop :=
 ∀(pins:yp) (s:Shared) (Z:St) (H:Hp) (Q:v0->Hp->Prop),Inv X pins Z H s->t Z H Q ->
  wpAny (model X.prog X.w) X.A (evalPart e X.env) (fun u s'=>∃ o H',Inv X pins Z H' s'/\IsPart u o/\Q o H') X.xe s
def rN:TO:=fun _ H Q=>Q none H
def Dh(t:TE):TO:=fun Z H Q=>t Z H fun x H1=>∃ i,x=.int i/\Q (some i) H1
theorem intsAre_of{ns:wn}:∀{us:wf},Vals (ns.map V.int) us->IntsAre us ns:=by
 induction ns with
 | nil=>intro us r;rw[acN]at r;cases r;exact .nil
 | cons n ns ih =>
  intro us r;rw[aaM]at r;cases r with
  | cons r1 r2 =>
   obtain⟨t,e⟩:=r1;subst e;exact .cons n t (ih r2)
section
variable {e:Expr}{te:TE}{lo hi:Option Expr}{tl th:TO}{pos p2:Pos}
theorem Hr:PO X none rN:=by
 intro pins s Z H Q I h;rw[evalPart_none];exact aay ⟨none,H,I,.none,h⟩
theorem Hs(h:PE X e te):PO X (some e) (Dh te):=by
 intro pins s Z H Q I hw;rw[evalPart_some];refine cL (h pins s Z H _ I hw) fun u s1 zz=>?_;obtain⟨x,H1,I1,r1,q1⟩:=zz;obtain⟨i,rfl,q⟩:=q1;obtain⟨t,rfl⟩:=r1;exact⟨some i,H1,I1,.int i t,q⟩
def QO(X:Cx)(r:V->v0->v0->Hp->VK->Prop):Prop :=
 ∀(pins:yp) (s:Shared) (Z:St) (H:Hp) (x:V) (v vl vu:Value) (lo hi:v0) (sl:Addr) (Q:VK),Inv X pins Z H s->RelV x v->s.heap.IsSliceOf sl vl vu .none->IsPart vl lo->IsPart vu hi->r x lo hi H Q ->
  ∃ T id,typeLookup (.type T) "__getitem__"=pure (some (.builtin id))/\s.TypeIs v T/\wpAny (model X.prog X.w) X.A (getItem v (.ref sl)) (EP X pins Z Q) X.xe s
def VC(r:V->v0->v0->Hp->VK->Prop)(te:TE)(tl th:TO):TE:=fun Z H Q=>te Z H fun x H1=>tl Z H1 fun l H2=>th Z H2 fun u H3=>r x l u H3 Q
theorem Di{r:V->v0->v0->Hp->VK->Prop}(hr:QO X r)(he:PE X e te)(hl:PO X lo tl)(hu:PO X hi th):PE X (.Subscript e (.Slice lo hi none p2) pos) (VC r te tl th):=by
 intro pins s Z H Q I h;refine Subscript_ (cL (he pins s Z H _ I h) fun v s1 zz=>?_);obtain⟨x,H1,I1,r1,q1⟩:=zz;refine wpAny_Slice (cL (hl pins s1 Z H1 _ I1 q1) fun vl s2 zy=>?_);obtain⟨l,H2,I2,pl,q2⟩:=zy;refine cL (hu pins s2 Z H2 _ I2 q2) fun vu s3 zx=>?_;obtain⟨u,H3,I3,pu,q3⟩:=zx;rw[evalPart_none];refine aay ?_;have I4:Inv X pins Z H3 { s3 with heap:=s3.heap.push { cls:=.type "slice",data:=.fields #[vl,vu,.none] } }:=I3.kept (t':=s3.toks) fun b ob q=>aax _ q;obtain⟨T,id,hT,ht,hg⟩:=hr pins { s3 with heap:=s3.heap.push { cls:=.type "slice",data:=.fields #[vl,vu,.none] } } Z H3 x v vl vu l u s3.heap.objs.size Q I4 r1 (Heap.IsSliceOf.new ..) pl pu q3;show wpAny (model X.prog X.w) X.A (subscriptTail e (.Slice lo hi none p2) v (.ref s3.heap.objs.size)) (EP X pins Z Q) X.xe { s3 with heap:=s3.heap.push { cls:=.type "slice",data:=.fields #[vl,vu,.none] } };exact tail_any (ops:=[.ref s3.heap.objs.size,v]) ht hT hg (by with_unfolding_all rfl)
noncomputable def lL(xs:List V)(lo hi:v0):List V:=(xs.drop (HT.dG xs.length 0 lo)).take (HT.dG xs.length xs.length hi - HT.dG xs.length 0 lo)
theorem my(xs:List V)(lo hi:v0):(lL xs lo hi).length<=xs.length:=by
 unfold lL;rw[abc,abG];omega
noncomputable def QP(K:zn):V->v0->v0->Hp->VK->Prop:=fun x lo hi H Q=>∃ a xs,x=.ref a/\fX K H a xs /\
 ¬ (HT.dG xs.length 0 lo=0/\HT.dG xs.length xs.length hi=xs.length)/\∀ p,H p=none->Q (.ref p) (upd H p (.tup (lL xs lo hi)))
theorem oy:QO X (QP X.K):=by
 intro pins s Z H x v vl vu lo hi sl Q I rx hs pl pu h;obtain⟨a,xs,rfl,hx,hw,q⟩:=h;cases rx;obtain⟨aV,r,ht,hz⟩:=I.tuple hx;have hlen:aV.toArray.size=xs.length:=by rw[aaL];exact r.length.symm
 refine⟨"tuple",_,abp.lookup,ht.typeIs,?_⟩;refine HT.kP ht hs pl pu (by rw[hlen];exact hw) ?_ (by rw[hlen];exact hz);rw[hlen];refine⟨.ref s.heap.objs.size,_,I.laid (t':=s.toks) (o:=.tup (lL xs lo hi)) (fun b ob q=>aax _ q) (aaC _) ?_,rfl,q _ (I.cu.fresh (aaC _))⟩;exact⟨aaE (my xs lo hi) hz,_,(r.drop (HT.dG xs.length 0 lo)).take (HT.dG xs.length xs.length hi - HT.dG xs.length 0 lo),IsTup.new _ _⟩
theorem Vals.nA{us:wf}(r:Vals xs us):us=[]↔xs=[]:=by
 cases r with
 | nil=>simp
 | cons _ _=>simp
end
noncomputable def Bb(n:Nat)(i:Int):Option Nat:=if 0<=i then(if i < n then some i.toNat else none)else if -(n:Int)<=i then some (i+n).toNat else none
noncomputable def jb{J:Type}(xs:List J)(i:Int):Option J:=(Bb xs.length i).bind fun j=>xs[j]?
theorem zx{i:Int}{j:Nat}(h:Bb n i=some j):seqIndex? i n=some j/\j < n/\-(n:Int)<=i/\i < n:=by
 unfold Bb at h
 by_cases h0:0<=i
 .rw[aaO h0]at h
  by_cases h1:i < n
  .rw[aaO h1]at h;have e:i.toNat=j:=abb h;exact⟨by rw[seqIndex_of h0 h1,e],@0,@0,h1⟩
  .rw[aaD h1]at h;cases h
 .rw[aaD h0]at h
  by_cases h1:-(n:Int)<=i
  .rw[aaO h1]at h;have e:(i+n).toNat=j:=abb h;exact⟨by rw[seqIndex_neg @0 h1,e],@0,h1,@0⟩
  .rw[aaD h1]at h;cases h
theorem rO{xs:List J}{i:Int}{v:J}(h:jb xs i=some v):∃ j,seqIndex? i xs.length=some j/\xs[j]?=some v/\j < xs.length/\-(xs.length:Int)<=i/\i < xs.length:=by
 unfold jb at h;cases e:Bb xs.length i with
 | none=>rw[e]at h;cases h
 | some j =>
  rw[e]at h;obtain⟨h1,h2,h3,h4⟩:=zx e;exact⟨j,h1,h,h2,h3,h4⟩
theorem bY{xs:List J}{j:Nat}{v:J}(h:xs[j]?=some v):jb xs (j:Int)=some v:=by
 have hj:j < xs.length:=(aaH.mp h).1;have e:Bb xs.length (j:Int)=some j:=by
  unfold Bb;rw[aaO @0,aaO @0];simp
 unfold jb;rw[e];exact h
def zz(b:Expr):Prop:=∀ o i,subscripted b false o i=operate [o,i] (getItem o i)
def Ht(X:Cx)(r:R2):Prop :=
 ∀(value slice:Expr) (pins:yp) (s:Shared) (Z:St) (H:Hp) (x y:V) (v u:Value) (Q:VK),Inv X pins Z H s->RelV x v->RelV y u->r x y H Q ->
  subscripted slice false v u=operate [v,u] (getItem v u)->wpAny (model X.prog X.w) X.A (subscriptTail value slice v u) (EP X pins Z Q) X.xe s
def Us(X:Cx)(id:String)(r:V->List V->Hp->VK->Prop):Prop :=
 ∀(pins:yp) (s:Shared) (Z:St) (H:Hp) (x:V) (xs:List V) (v:Value) (us:wf) (Q:VK),Inv X pins Z H s->RelV x v->Vals xs us->r x xs H Q ->
  wpAny (model X.prog X.w) X.A (call (.builtin id) (v::us)) (EP X pins Z Q) X.xe s
section
variable {a b:Expr}{ta tb:TE}{pos:Pos}
theorem Ht.or{r r':R2}(h:Ht X r)(h':Ht X r'):Ht X (fun x y H Q=>r x y H Q\/r' x y H Q):=by
 intro value slice pins s Z H x y v u Q I rx ry q hs;rcases q with q | q
 .exact h value slice pins s Z H x y v u Q I rx ry q hs
 .exact h' value slice pins s Z H x y v u Q I rx ry q hs
theorem QQ{r:R2}(hr:Ht X r)(ha:PE X a ta)(hb:PE X b tb)(hs:zz b):PE X (.Subscript a b pos) (AX r ta tb):=by
 intro pins s Z H Q I h;exact Subscript_ (Ms ha hb I h fun v u s2 x y H2 I2 rx ry q=>hr a b pins s2 Z H2 x y v u Q I2 rx ry q (hs _ _))
noncomputable def QR(K:zn):R2:=fun x y H Q=>∃ p xs i v,x=.ref p/\y=.int i/\gk K H p xs/\jb xs i=some v/\Q v H
noncomputable def QS(K:zn):R2:=fun x y H Q=>∃ p xs i v,x=.ref p/\y=.int i/\fX K H p xs/\jb xs i=some v/\Q v H
noncomputable def QT:R2:=fun x y H Q=>∃ z i c,x=.str z/\y=.int i/\z.length<=sizeLine/\jb z.cps.toList i=some c/\Q (.str ⟨#[c]⟩) H
theorem Hu:Ht X (QR X.K):=by
 intro value slice pins s Z H x y v u Q I rx ry h hs;obtain⟨p,xs,i,z,rfl,rfl,hq,he,q⟩:=h;cases rx;obtain⟨t,rfl⟩:=ry;obtain⟨aV,r,pl,hz⟩:=I.list hq;obtain⟨j,h1,h2,h3,h4,h5⟩:=rO he;obtain⟨w,ew,xo⟩:=r.get h2;have hl:=r.length;have hn:=og;have fin:EP X pins Z Q w s:=⟨z,H,I,xo,q⟩
 by_cases h0:0<=i
 .have hj:i.toNat=j:=by
   rw[seqIndex_of h0 h5]at h1;exact abb h1
  exact item_listR pl.isList h0 @0 (by rw[hj];simpa using ew) fin hs
 .have hj:(i+(aV.toArray.size:Int)).toNat=j:=by
   rw[seqIndex_neg @0 h4]at h1;rw[aaL,<- hl];exact abb h1
  exact subscriptTail_builtinR (x:=w) pl.isList.typeIs slot_list_getitem.lookup
   (wpAny_getItem_list_neg (Q:=fun r s'=>r=w/\EP X pins Z Q r s') pl.isList @0 (by rw[aaL]<;>omega) @0 (by rw[hj];simpa using ew) ⟨rfl,fin⟩) hs
theorem MK:Ht X (QS X.K):=by
 intro value slice pins s Z H x y v u Q I rx ry h hs;obtain⟨p,xs,i,z,rfl,rfl,hq,he,q⟩:=h;cases rx;obtain⟨t,rfl⟩:=ry;obtain⟨aV,r,pl,hz⟩:=I.tuple hq;obtain⟨j,h1,h2,h3,h4,h5⟩:=rO he;obtain⟨w,ew,xo⟩:=r.get h2;have hl:=r.length;have hn:=og;have fin:EP X pins Z Q w s:=⟨z,H,I,xo,q⟩;exact subscriptTail_builtinR (x:=w) pl.typeIs abp.lookup
  (getItem_tuple (j:=j) (Q:=fun r s'=>r=w/\EP X pins Z Q r s') pl @0 @0 (by rw[aaL,<- hl];exact h1) (by simpa using ew) ⟨rfl,fin⟩) hs
theorem ML:Ht X QT:=by
 intro value slice pins s Z H x y v u Q I rx ry h hs;obtain⟨z,i,c,rfl,rfl,hz,he,q⟩:=h;obtain⟨t,rfl⟩:=rx;obtain⟨t',rfl⟩:=ry;obtain⟨j,h1,h2,h3,h4,h5⟩:=rO he;have hl:z.cps.toList.length=z.length:=by simp[Str.length]
 rw[hl]at h1 h4 h5;have hn:=og;exact tail_any (typeIs_str s z t) slot_str_getitem.lookup (getItem_str (c:=c) (by
  have e1:decide (i < -(2 ^ 63:Int))=false:=aaJ @0;have e2:decide (i ≥ 2 ^ 63)=false:=aaJ @0;rw[e1,e2,Bool.or_false]) (by rw[h1];simpa using h2) ⟨.str ⟨#[c]⟩,H,I.tok _,⟨_,rfl⟩,q⟩) hs
noncomputable def Ut(K:zn):R2:=fun x y H Q=>QR K x y H Q\/QS K x y H Q\/QT x y H Q
theorem MM:Ht X (Ut X.K):=Hu.or (MK.or ML)
theorem xt(aV:wf)(n j:Nat)(u:Value):Obj.mapSeq (·.setIfInBounds j u) { cls:=.type "list",data:=.seq aV.toArray n }={ cls:=.type "list",data:=.seq (aV.set j u).toArray n }:=by
 simp[Obj.mapSeq]
theorem Inv.lst{pins:yp}{Z:St}{H:Hp}{s:Shared}{p:Addr}{xs:List V}(I:Inv X pins Z H s)(h:H p=some (.lst xs)) :
  ∃(aV:wf) (n:Nat),Vals xs aV/\s.heap.get? p=some { cls:=.type "list",data:=.seq aV.toArray n }/\xs.length<=sizeLine:=by
 obtain⟨z,aV,n,r,e⟩:=I.cu p _ h;exact⟨aV,n,r,e,z⟩
theorem Inv.MN{Z:St}{H:Hp}{p:Addr}{ys:List V}{its':wf}{n':Nat}{f:Obj->Obj}(I:Inv X pins Z H s)(h:H p=some (.lst xs))(ho:s.heap.get? p=some { cls:=.type "list",data:=.seq aV.toArray n })(hf:f { cls:=.type "list",data:=.seq aV.toArray n }={ cls:=.type "list",data:=.seq its'.toArray n' })(r:Vals ys its')(hz:ys.length<=sizeLine)(t:Nat) :
  Inv X pins Z (upd H p (.lst ys)) { s with heap:=s.heap.update p f,toks:=t }:=by
 have e:(s.heap.update p f).get? p=some { cls:=.type "list",data:=.seq its'.toArray n' }:=by
  rw[abq f ho (by rw[hf]<;>rfl),hf]
 refine I.write (x:=p) (e:=p) (by rw[h];trivial) (.inl rfl) (fun b u hb q=>(acq _ _ (acD hb)).trans q) ⟨_,e⟩ ?_;exact⟨hz,its',n',r,e⟩
noncomputable def J0:V->V->V->Hp->(Hp->Prop)->Prop:=fun o i v H Q=>∃ p xs k j,o=.ref p/\i=.int k/\H p=some (.lst xs)/\Bb xs.length k=some j/\Q (upd H p (.lst (xs.set j v)))
theorem set_list:Mf X J0:=by
 intro pins s Z H o i v ov iv u Q I ro ri rv h;obtain⟨p,xs,k,j,rfl,rfl,hp,hj,q⟩:=h;cases ro;obtain⟨t,rfl⟩:=ri;obtain⟨aV,n,r,ho,hz⟩:=I.lst hp;obtain⟨h1,h2,h3,h4⟩:=zx hj;have hl:=r.length;have hn:=og;have I':Inv X pins Z (upd H p (.lst (xs.set j v))) { s with heap:=s.heap.update p (Obj.mapSeq (·.setIfInBounds j u)) } :=
  I.MN hp ho (xt aV n j u) (r.set rv j) (by rw[adV];exact hz) s.toks
 by_cases h0:0<=k
 .have hk:k.toNat=j:=by
   rw[seqIndex_of h0 h4]at h1;exact abb h1
  exact PySem.W.ki_setAt ho h0 @0 (by rw[aaL,<- hl];exact h4) (by rw[hk];exact⟨_,I',q⟩)
 .have hk:(k+(aV.toArray.size:Int)).toNat=j:=by
   rw[seqIndex_neg @0 h3]at h1;rw[aaL,<- hl];exact abb h1
  exact PySem.W.ki_setBack ho @0 (by rw[aaL,<- hl];exact h3) @0 (by rw[hk];exact⟨_,I',q⟩)
theorem rP(lo hi:v0)(n:Nat):(sliceBounds lo hi none n).1=((HT.dG n 0 lo:Nat):Int)/\(sliceBounds lo hi none n).2.1=((HT.dG n n hi:Nat):Int)/\(sliceBounds lo hi none n).2.2=1:=by
 refine⟨?_,?_,rfl⟩
 .cases lo with
  | none=>simp[sliceBounds,HT.dG]
  | some i =>
   simp only[sliceBounds,HT.dG,Option.getD_none,show(1:Int) > 0 by decide,acT]
   by_cases h:i < 0
   .simp only[h,acT]<;>omega
   .simp only[h,adN]<;>omega
 .cases hi with
  | none=>simp[sliceBounds,HT.dG]
  | some i =>
   simp only[sliceBounds,HT.dG,Option.getD_none,show(1:Int) > 0 by decide,acT]
   by_cases h:i < 0
   .simp only[h,acT]<;>omega
   .simp only[h,adN]<;>omega
theorem pP(aV:wf)(lo hi:v0):slicePick aV.toArray lo hi none=((aV.drop (HT.dG aV.length 0 lo)).take (HT.dG aV.length aV.length hi - HT.dG aV.length 0 lo)).toArray:=by
 obtain⟨h1,h2,h3⟩:=rP lo hi aV.toArray.size;unfold slicePick;rw[h1,h2,h3];simp only[sliceRange_one,pick_run,aaL]<;>rfl
noncomputable def QU(K:zn):V->v0->v0->Hp->VK->Prop:=fun x lo hi H Q=>∃ a xs,x=.ref a/\gk K H a xs/\∀ p,H p=none->Q (.ref p) (upd H p (.lst (lL xs lo hi)))
theorem jc:QO X (QU X.K):=by
 intro pins s Z H x v vl vu lo hi sl Q I rx hs pl pu h;obtain⟨a,xs,rfl,hx,q⟩:=h;cases rx;obtain⟨aV,r,ht,hz⟩:=I.list hx;have hlen:=r.length;refine⟨"list",_,slot_list_getitem.lookup,ht.isList.typeIs,?_⟩;refine wpAny_getItem_list_slice ht.isList hs pl pu .none @2 ?_ (by rw[aaL]<;>omega);rw[pP,<- hlen];refine⟨.ref s.heap.objs.size,_,I.laid (t':=s.toks) (o:=.lst (lL xs lo hi)) (fun b ob q=>aax _ q) (aaC _) ?_,rfl,q _ (I.cu.fresh (aaC _))⟩;exact⟨aaE (my xs lo hi) hz,_,0,(r.drop (HT.dG xs.length 0 lo)).take (HT.dG xs.length xs.length hi - HT.dG xs.length 0 lo),aaG _ rfl⟩
def eW:V->Bool
 | .dH=>true
 | .bl _=>true
 | .int _=>true
 | .str _=>true
 | _=>false
noncomputable def Hv:V->V->Bool
 | .dH,.dH=>true
 | .bl a,.bl b=>a == b
 | .bl a,.int b=>(if a then 1 else 0) == b
 | .int a,.bl b=>a == (if b then 1 else 0)
 | .int a,.int b=>a == b
 | .str a,.str b=>a == b
 | _,_=>false
theorem MO{y x:V}{u:Value}(ry:RelV y u)(rx:RelV x v)(fy:eW y=true)(fx:eW x=true):SeqAt.EqAt A s u v (Hv y x):=by
 cases y with
 | dH =>
  cases ry;cases x with
  | dH=>cases rx;exact SeqAt.EqAt.same _
  | bl b=>cases rx;exact SeqAt.EqAt.none_bool b
  | int b=>obtain⟨t,rfl⟩:=rx;exact SeqAt.EqAt.none_int b t
  | str b=>obtain⟨t,rfl⟩:=rx;exact SeqAt.EqAt.none_str b t
  | _=>exact absurd (show false=true from fx) aaK
 | bl a =>
  cases ry;cases x with
  | dH=>cases rx;exact SeqAt.EqAt.bool_none a
  | bl b=>cases rx;exact SeqAt.EqAt.bool_bool a b
  | int b=>obtain⟨t,rfl⟩:=rx;exact SeqAt.EqAt.bool_int a b t
  | str b=>obtain⟨t,rfl⟩:=rx;exact SeqAt.EqAt.bool_str a b t
  | _=>exact absurd (show false=true from fx) aaK
 | int a =>
  obtain⟨t',rfl⟩:=ry;cases x with
  | dH=>cases rx;exact SeqAt.EqAt.int_none a t'
  | bl b=>cases rx;exact SeqAt.EqAt.int_bool a t' b
  | int b=>obtain⟨t,rfl⟩:=rx;exact SeqAt.EqAt.int_int a t' b t
  | str b=>obtain⟨t,rfl⟩:=rx;exact SeqAt.EqAt.int_str a t' b t
  | _=>exact absurd (show false=true from fx) aaK
 | str a =>
  obtain⟨t',rfl⟩:=ry;cases x with
  | dH=>cases rx;exact SeqAt.EqAt.str_none a t'
  | bl b=>cases rx;exact SeqAt.EqAt.str_bool a t' b
  | int b=>obtain⟨t,rfl⟩:=rx;exact SeqAt.EqAt.str_int a t' b t
  | str b=>obtain⟨t,rfl⟩:=rx;exact SeqAt.EqAt.str_str a t' b t
  | _=>exact absurd (show false=true from fx) aaK
 | _=>exact absurd (show false=true from fy) aaK
noncomputable def xu(x:V)(u:Value):Bool:=match u with
 | .none=>Hv .dH x
 | .bool b=>Hv (.bl b) x
 | .int i _=>Hv (.int i) x
 | .str z _=>Hv (.str z) x
 | _=>false
theorem Dj{x y:V}{u:Value}(r:RelV y u)(f:eW y=true):xu x u=Hv y x:=by
 cases y with
 | dH=>cases r;rfl
 | bl b=>cases r;rfl
 | int i=>obtain⟨t,rfl⟩:=r;rfl
 | str z=>obtain⟨t,rfl⟩:=r;rfl
 | _=>exact absurd (show false=true from f) aaK
theorem kQ{x:V}:∀{xs:List V} {us:wf},Vals xs us->xs.all eW=true->us.any (xu x)=xs.any fun y=>Hv y x
 | _,_,.nil,_=>rfl
 | y::xs,u::us,.cons r t,f=>by
  rw[abh,aaN]at f;rw[abF,abF,Dj r f.1,kQ t f.2]
theorem jw{A:tx}{s:Shared}{x:V}{v:Value}(rx:RelV x v)(fx:eW x=true):∀{xs:List V} {us:wf},Vals xs us->xs.all eW=true->∀ u∈us,SeqAt.EqAt A s u v (xu x u)
 | _,_,.nil,_=>fun u hu=>by cases hu
 | y::xs,u::us,.cons r t,f=>fun u' hu=>by
  rw[abh,aaN]at f;rcases aaA.mp hu with rfl | hu
  .rw[Dj r f.1];exact MO r rx f.1 fx
  .exact jw rx fx t f.2 u' hu
noncomputable def Uu(x:V)(xs:List V):Bool:=xs.any fun y=>Hv y x
noncomputable def VD(K:zn)(neg:Bool):R2:=fun x y H Q=>∃ p xs,y=.ref p/\(gk K H p xs\/fX K H p xs)/\eW x=true/\xs.all eW=true/\Q (.bl (if neg then !Uu x xs else Uu x xs)) H
theorem Bc:iP X (compareOp .In) (VD X.K false):=by
 intro pins s Z H x y v u Q I rx ry h;obtain⟨p,xs,rfl,hq,fx,fs,q⟩:=h;cases ry;rcases hq with hq | hq
 .obtain⟨aV,r,pl,hz⟩:=I.list hq;refine SeqAt.in_listAt (xu x) pl.isList (fun w hw=>jw rx fx r fs w (by simpa using hw)) ⟨.bl _,H,I,rfl,?_⟩;rw[show aV.toArray.any (xu x)=aV.any (xu x) by simp,kQ r fs];exact q
 .obtain⟨aV,r,pl,hz⟩:=I.tuple hq;refine SeqAt.in_tupleAt (xu x) pl (fun w hw=>jw rx fx r fs w (by simpa using hw)) ⟨.bl _,H,I,rfl,?_⟩;rw[show aV.toArray.any (xu x)=aV.any (xu x) by simp,kQ r fs];exact q
theorem rQ:iP X (compareOp .NotIn) (VD X.K true):=by
 intro pins s Z H x y v u Q I rx ry h;obtain⟨p,xs,rfl,hq,fx,fs,q⟩:=h;cases ry;rcases hq with hq | hq
 .obtain⟨aV,r,pl,hz⟩:=I.list hq;refine SeqAt.notIn_listAt (xu x) pl.isList (fun w hw=>jw rx fx r fs w (by simpa using hw)) ⟨.bl _,H,I,rfl,?_⟩;rw[show aV.toArray.any (xu x)=aV.any (xu x) by simp,kQ r fs];exact q
 .obtain⟨aV,r,pl,hz⟩:=I.tuple hq;refine SeqAt.notIn_tupleAt (xu x) pl (fun w hw=>jw rx fx r fs w (by simpa using hw)) ⟨.bl _,H,I,rfl,?_⟩;rw[show aV.toArray.any (xu x)=aV.any (xu x) by simp,kQ r fs];exact q
theorem rR:gb X (.builtin "len") (fun xs H Q=>∃ p ys,xs=[.ref p]/\(gk X.K H p ys\/fX X.K H p ys)/\Q (.int ys.length) H):=by
 intro pins s Z H xs us Q I r h;obtain⟨p,ys,rfl,hq,q⟩:=h;obtain⟨u,rfl,rx⟩:=vals1 r;cases rx;have hn:=og;rcases hq with hq | hq
 .obtain⟨aV,r',pl,hz⟩:=I.list hq;have hlen:=r'.length;exact Calls.call_len_list pl.isList (by simp only[aaL]<;>omega) ⟨.int ys.length,H,I.tok _,⟨s.toks+1,by rw[aaL,hlen]⟩,q⟩
 .obtain⟨aV,r',pl,hz⟩:=I.tuple hq;have hlen:=r'.length;exact len_tuple pl (by simp only[aaL]<;>omega) ⟨.int ys.length,H,I.tok _,⟨s.toks+1,by rw[aaL,hlen]⟩,q⟩
theorem rS:gb X (.type "list") (fun xs H Q=>∃ p ys,xs=[.ref p]/\(gk X.K H p ys\/fX X.K H p ys)/\∀ l,H l=none->Q (.ref l) (upd H l (.lst ys))):=by
 intro pins s Z H xs us Q I r h;obtain⟨p,ys,rfl,hq,q⟩:=h;obtain⟨u,rfl,rx⟩:=vals1 r;cases rx;have fin:∀(aV:wf),Vals ys aV->ys.length<=sizeLine->∀(h':Heap) (c':Nat),(∀ b o',s.heap.get? b=some o'->h'.get? b=some o') ->
   h'.get? s.heap.objs.size=some { cls:=.type "list",dict:=none,data:=.seq aV.toArray c',slots:=#[] }->EP X pins Z Q (.ref s.heap.objs.size) { s with heap:=h' }:=fun aV r' hz h' c' kp e =>
  ⟨.ref s.heap.objs.size,_,I.laid (t':=s.toks) kp (aaC _) (show cm X.prog X.w _ h' _ (.lst ys) from ⟨hz,aV,c',r',e⟩),rfl,q _ (I.cu.fresh (aaC _))⟩
 rcases hq with hq | hq
 .obtain⟨aV,r',pl,hz⟩:=I.list hq;have hlen:=r'.length;obtain⟨o,ho,hc,n,hd⟩:=pl.isList;exact call_list_seq p (.inl rfl) ho hc hd (fun h' c' kp e=>fin aV r' hz h' c' kp e) (by simp only[aaL]<;>omega)
 .obtain⟨aV,r',pl,hz⟩:=I.tuple hq;have hlen:=r'.length;obtain⟨o,ho,hc,n,hd⟩:=pl;exact call_list_seq p (.inr rfl) ho hc hd (fun h' c' kp e=>fin aV r' hz h' c' kp e) (by simp only[aaL]<;>omega)
theorem pQ:gb X (.type "tuple") (fun xs H Q=>∃ p ys,xs=[.ref p]/\((gk X.K H p ys/\∀ l,H l=none->Q (.ref l) (upd H l (.tup ys)))\/(fX X.K H p ys/\Q (.ref p) H))):=by
 intro pins s Z H xs us Q I r h;obtain⟨p,ys,rfl,h⟩:=h;obtain⟨u,rfl,rx⟩:=vals1 r;cases rx;rcases h with⟨hq,q⟩ | ⟨hq,q⟩
 .obtain⟨aV,r',pl,hz⟩:=I.list hq;have hlen:=r'.length;refine call_tuple_list pl.isList (fun h' kp=>?_) (by simp only[aaL]<;>omega);have I1:Inv X pins Z H { s with heap:=h' }:=I.kept (t':=s.toks) kp;have I2:Inv X pins Z (upd H h'.objs.size (.tup ys)) { s with heap:=h'.push { cls:=.type "tuple",data:=.seq aV.toArray } } :=
   I1.laid (t':=s.toks) (fun b o e=>aax _ e) (aaC _) (show cm X.prog X.w _ _ _ (.tup ys) from ⟨hz,aV,r',IsTup.new _ _⟩)
  exact⟨.ref h'.objs.size,_,I2,rfl,q _ (I1.cu.fresh (aaC _))⟩
 .obtain⟨aV,r',pl,hz⟩:=I.tuple hq;exact call_tuple_same pl ⟨.ref p,H,I,rfl,q⟩
noncomputable def VE(K:zn)(T:String)(x:V)(H:Hp):Prop:=match x with
 | .str _=>T = "str"
 | .int _=>T = "int"
 | .ref p=>(T = "list"/\∃ xs,gk K H p xs)\/(T = "tuple"/\∃ o,K.lookup p=some o/\o.cls=.type "tuple"/\o.dict=none) \/
   (T = "dict"/\((∃ kvs,H p=some (.dK kvs))\/∃ kvs,H p=some (.dT kvs)))\/(T = "set"/\∃ S n,H p=some (.set S n))
 | _=>False
theorem MP{Z:St}{H:Hp}{T:String}{x:V}(I:Inv X pins Z H s)(r:RelV x v)(ty:VE X.K T x H) :
  s.TypeIs v T/\∀ a,v=.ref a->∃ ob,s.heap.get? a=some ob/\ob.dict=none:=by
 cases x with
 | str z =>
  obtain⟨t,rfl⟩:=r;cases (show T = "str" from ty);exact⟨typeIs_str s z t,fun _ e=>nomatch e⟩
 | int i =>
  obtain⟨t,rfl⟩:=r;cases (show T = "int" from ty);exact⟨typeIs_int s i t,fun _ e=>nomatch e⟩
 | ref p =>
  cases r;rcases ty with⟨rfl,xs,hq⟩ | ⟨rfl,o,hk,hc,hd⟩ | ⟨rfl,hk⟩ | ⟨rfl,S,n,hk⟩
  .obtain⟨aV,_,pl,_⟩:=I.list hq;refine⟨pl.isList.typeIs,fun a e=>?_⟩;cases e;obtain⟨o,n,e,c,hd,_⟩:=pl;exact⟨o,e,hd⟩
  .refine⟨⟨o,I.mr p o hk,hc⟩,fun a e=>?_⟩;cases e;exact⟨o,I.mr _ o hk,hd⟩
  .have z:∃ o,s.heap.get? p=some o/\o.ExactDict:=by
    rcases hk with⟨kvs,hk⟩ | ⟨kvs,hk⟩
    .obtain⟨_,_,_,_,o,_,_,e,ex,_⟩:=I.cu p _ hk;exact⟨o,e,ex⟩
    .obtain⟨_,_,_,_,o,_,_,e,ex,_⟩:=I.cu p _ hk;exact⟨o,e,ex⟩
   obtain⟨o,e,ex⟩:=z;refine⟨⟨o,e,ex.1⟩,fun a e2=>?_⟩;cases e2;exact⟨o,e,ex.2.1⟩
  .obtain⟨o,_,_,_,e,ex,_⟩:=I.cu p _ hk;refine⟨⟨o,e,ex.1⟩,fun a e2=>?_⟩;cases e2;exact⟨o,e,ex.2.1⟩
 | _=>exact False.elim ty
noncomputable def VF(K:zn)(T:String)(r:V->List V->Hp->VK->Prop)(to:TE)(t:TA):TE:=fun Z H Q=>to Z H fun x H1=>VE K T x H1/\t Z H1 fun xs H2=>r x xs H2 Q
variable {o e:Expr}{es:v6}{to:TE}{t:TA}{name:Str}{apos gD:Pos}{T id:String}{r:V->List V->Hp->VK->Prop}
theorem QV(pa:PlainAttrs T)(slot:Slot T name id)(VG:typeOf (.builtin id)=pure (.type "method_descriptor"))(hm:Us X id r)(ho:PE X o to)(ha:PA X (e::es) t)(Dk:autoParam (attributeBase o name X.env (eval o X.env)=eval o X.env) ra0)(MQ:((backTo gD (starEach (e::es) X.env)).all (fun x=>!x.1)&&(backToKw gD (keywordEach [] X.env)).all (fun x=>x.1.isSome)
   && decide ((e::es).length+([]:List Keyword).length+(if([]:List Keyword).isEmpty then 0 else 1) < 30))=true:=by rfl)(Dl:(apos.endLine == gD.line)=true:=by rfl)(hs:starEach (e::es) X.env=(false,eval e X.env)::starEach es X.env:=by rfl)(MR:(backTo gD (starEach es X.env)).any (·.1)=false:=by rfl) :
  PE X (.Call (.Attribute o name apos) (e::es) [] gD) (VF X.K T r to t):=by
 intro pins s Z H Q I h;refine wpAny_Call_method_late Dk MQ Dl rfl (cL (ho pins s Z H _ I h) fun v s1 zz=>?_);obtain⟨x,H1,I1,r1,ty,q1⟩:=zz;obtain⟨h1,h2⟩:=MP I1 r1 ty;refine⟨T,id,pa,slot,VG,h1,h2,?_⟩;have hA:=ha gD pins s1 Z H1 _ I1 q1;rw[hs]at hA ⊢;refine Calls.callWith_builtin (by show(false||(backTo gD (starEach es X.env)).any (·.1))=false;rw[MR]<;>rfl) (Calls.evalArgs_plain ?_);exact cL hA fun us s2 zy=>(by obtain⟨vs,H2,I2,r2,q2⟩:=zy;exact hm pins s2 Z H2 x vs v us Q I2 r1 r2 q2)
end
def VH(X:Cx)(id:String)(r:V->List V->Hp->VK->Prop):Prop :=
 ∀(pins:yp) (s:Shared) (Z:St) (H:Hp) (x:V) (xs:List V) (v:Value) (us:wf) (Q:VK),Inv X pins Z H s->RelV x v->Vals xs us->r x xs H Q ->
  wpAny (model X.prog X.w) X.A (call (.builtin id) (v::us)) (EP X pins Z Q) X.xe s
theorem Vals.one:∀{x:V} {us:wf},Vals [x] us->∃ u,us=[u]/\RelV x u:=by
 intro x us h;cases h with|cons r h=>cases h;exact⟨_,rfl,r⟩
theorem Vals.two:∀{x y:V} {us:wf},Vals [x,y] us->∃ u v,us=[u,v]/\RelV x u/\RelV y v:=by
 intro x y us h;cases h with|cons r h=>cases h with|cons q h=>cases h;exact⟨_,_,rfl,r,q⟩
theorem Vals.eraseIdx:∀{xs:List V} {us:wf} (i:Nat),Vals xs us->Vals (xs.eraseIdx i) (us.eraseIdx i)
 | _,_,_,.nil=>.nil
 | _,_,0,.cons _ t=>t
 | _,_,i+1,.cons r t=>.cons r (Vals.eraseIdx i t)
theorem Vals.rep{xs:List V}{us:wf}(h:Vals xs us):∀ k:Nat,Vals (List.replicate k xs).flatten (List.replicate k us).flatten
 | 0=>.nil
 | k+1=>by
  rw[abU,abU,ack,ack];exact Vals.append h (Vals.rep h k)
theorem qo{J:Type}:∀(l:List J) (i:Nat),(l.eraseIdx i).length<=l.length
 | [],_=>aaC _
 | _::_,0=>abI _
 | _::r,i+1=>Nat.succ_le_succ (qo r i)
theorem foldl_rep(aV:wf):∀(k:Nat) (acc:wf),
  List.foldl (fun x1 x2=>x1++x2) acc.toArray (List.replicate k aV.toArray)=(acc++(List.replicate k aV).flatten).toArray
 | 0,acc=>by simp
 | k+1,acc=>by
  have e:acc.toArray++aV.toArray=(acc++aV).toArray:=by simp
  have e2:(acc++aV)++(List.replicate k aV).flatten=acc++(List.replicate (k+1) aV).flatten:=by
   rw[abU,ack,acB]
  rw[<- e2,<- foldl_rep aV k (acc++aV),<- e,abU,List.foldl_cons]
section
variable {Z:St}{H:Hp}{l b:Addr}{ys zs:List V}
theorem Inv.QW{its':wf}{f:Array Value->Array Value}{t':Nat}(I:Inv X pins Z H s)(hH:H l=some (.lst xs))(e:s.heap.get? l=some { cls:=.type "list",data:=.seq aV.toArray n })(hf:f aV.toArray=its'.toArray)(hv:Vals ys its')(hz:ys.length<=sizeLine) :
  Inv X pins Z (upd H l (.lst ys)) { s with heap:=s.heap.update l (Obj.mapSeq f),toks:=t' }:=by
 have q:=PySem.IsL.update e f;rw[hf]at q;refine I.write (x:=l) (e:=l) (by rw[hH];exact trivial) (.inl rfl) (fun b' u hb hu=>(acq s.heap (Obj.mapSeq f) (acD hb)).trans hu) ⟨_,q⟩ ?_;exact⟨hz,its',_,hv,q⟩
theorem Inv.QX{t':Nat}(I:Inv X pins Z H s)(hv:Vals ys aV)(hz:ys.length<=sizeLine) :
  Inv X pins Z (upd H s.heap.objs.size (.lst ys)) { s with heap:=s.heap.push { cls:=.type "list",data:=.seq aV.toArray },toks:=t' } :=
 I.laid (fun _ _ q=>aax _ q) (aaC _) ⟨hz,aV,0,hv,aaG _ rfl⟩
theorem Inv.fresh(I:Inv X pins Z H s):H s.heap.objs.size=none:=I.cu.fresh (aaC _)
theorem Inv.Dm(I:Inv X pins Z H s)(hH:H l=some (.lst xs)):xs.length<=sizeLine/\∃(aV:wf) (n:Nat),Vals xs aV/\xs.length=aV.length/\s.heap.get? l=some { cls:=.type "list",data:=.seq aV.toArray n }:=by
 obtain⟨z,aV,n,r,e⟩:=I.cu l _ hH;exact⟨z,aV,n,r,r.length,e⟩
theorem Dp(h:n<=sizeLine):Builtin.List.listTooLong n=false:=by
 unfold Builtin.List.listTooLong;exact aaJ @0
end
def zA:V->List V->Hp->VK->Prop:=fun x vs H Q=>∃ l xs y,x=.ref l/\vs=[y]/\H l=some (.lst xs)/\xs.length < sizeLine/\Q .dH (upd H l (.lst (xs++[y])))
theorem dm:VH X "list.append" zA:=by
 intro pins s Z H x vs v us Q I rx rv h;obtain⟨l,xs,y,rfl,rfl,hH,hz,q⟩:=h;cases rx;obtain⟨u,rfl,ru⟩:=rv.one;obtain⟨z,aV,n,r,hl,e⟩:=I.Dm hH;refine ad3 aa9 ⟨_,e,rfl⟩ F.entry_list_append (F.args_list_append_2 _ _) (PySem.list_append l aV.toArray n u (by rw[aaL];omega)) ⟨e,?_⟩;refine⟨.dH,_,I.QW (its':=aV++[u]) hH e @2 (r.append (.cons ru .nil)) ?_,rfl,q⟩;rw[aaV,List.length_singleton];omega
def Dq:V->List V->Hp->VK->Prop:=fun x vs H Q=>∃ l xs i k y,x=.ref l/\vs=[.int i]/\H l=some (.lst xs)/\-(2 ^ 63)<=i/\i < 2 ^ 63/\seqIndex? i xs.length=some k/\xs[k]?=some y/\Q y (upd H l (.lst (xs.eraseIdx k)))
theorem Dr:VH X "list.pop" Dq:=by
 intro pins s Z H x vs v us Q I rx rv h;obtain⟨l,xs,i,k,y,rfl,rfl,hH,h1,h2,hk,hy,q⟩:=h;cases rx;obtain⟨u,rfl,ru⟩:=rv.one;obtain⟨t,rfl⟩:=ru;obtain⟨z,aV,n,r,hl,e⟩:=I.Dm hH;obtain⟨w,hw,xo⟩:=r.get hy;refine ad3 F.slot_list_pop ⟨_,e,rfl⟩ F.entry_list_pop (F.args_list_pop_2 _ _)
  (MeetsSeq.list_pop_at l aV.toArray n i t k w (fitsIndex_both h1 h2) (by rw[aaL,<- hl];exact hk) (by rw[<- ab9];exact hw) (by rw[aaL];omega)) ⟨e,?_⟩
 refine⟨y,_,I.QW (its':=aV.eraseIdx k) hH e ?_ (r.eraseIdx k) ?_,xo,q⟩
 .show aV.toArray.eraseIdxIfInBounds k=(aV.eraseIdx k).toArray;rw[List.eraseIdxIfInBounds_toArray]
 .have:=qo xs k;omega
def QY:R2:=fun x y H Q=>∃ l b xs zs,x=.ref l/\y=.ref b/\H l=some (.lst xs)/\H b=some (.lst zs)/\xs.length+zs.length<=sizeLine/\∀ p,H p=none->Q (.ref p) (upd H p (.lst (xs++zs)))
theorem rT:iP X (binaryOp .Add) QY:=by
 intro pins s Z H x y v u Q I rx ry h;obtain⟨l,b,xs,zs,rfl,rfl,hH,hB,hz,q⟩:=h;cases rx;cases ry;obtain⟨z,aV,n,r,hl,e⟩:=I.Dm hH;obtain⟨z2,xw,n2,r2,qp,e2⟩:=I.Dm hB;refine PySem.P.add_list e e2 ?_ (by rw[aaL,aaL];omega);have ea:aV.toArray++xw.toArray=(aV++xw).toArray:=by simp
 rw[ea];exact⟨.ref _,_,I.QX (t':=s.toks) (r.append r2) (by rw[aaV];omega),rfl,q _ I.fresh⟩
def QZ:R2:=fun x y H Q=>∃ l k xs,x=.ref l/\y=.int k/\H l=some (.lst xs)/\-(2 ^ 63)<=k/\k < 2 ^ 63/\xs.length * k.toNat<=sizeLine /\
 ∀ p,H p=none->Q (.ref p) (upd H p (.lst (List.replicate k.toNat xs).flatten))
theorem len_rep(xs:List J)(k:Nat):(List.replicate k xs).flatten.length=k * xs.length:=by
 induction k with
 | zero=>simp
 | succ k ih=>rw[abU,ack,aaV,ih,Nat.succ_mul,Nat.add_comm]
theorem MS:iP X (binaryOp .Mult) QZ:=by
 intro pins s Z H x y v u Q I rx ry h;obtain⟨l,k,xs,rfl,rfl,hH,h1,h2,hz,q⟩:=h;cases rx;obtain⟨t,rfl⟩:=ry;obtain⟨z,aV,n,r,hl,e⟩:=I.Dm hH;have hlen:aV.toArray.size * k.toNat<=sizeLine:=by rw[aaL,<- hl];exact hz
 have VI:¬ aV.toArray.size * k.toNat > (2 ^ 63 - 1) / 8:=by
  have:(sizeLine:Nat)<=(2 ^ 63 - 1) / 8:=by decide
  omega
 have VJ:¬ (!Builtin.List.listFitsIndex k)=true:=by
  rw[fitsIndex_both h1 h2];exact aaK
 have Q0:¬ Builtin.List.listTooLong (aV.toArray.size * k.toNat)=true:=by
  rw[Dp hlen];exact aaK
 have VL:List.foldl (fun x1 x2=>x1++x2) #[] (List.replicate (if aV.toArray.isEmpty=true then 0 else k.toNat) aV.toArray)=(List.replicate k.toNat aV).flatten.toArray:=by
  have f0:∀ m:Nat,List.foldl (fun x1 x2=>x1++x2) #[] (List.replicate m aV.toArray)=(List.replicate m aV).flatten.toArray:=fun m=>by
   have:=foldl_rep aV m [];rw[adW]at this;exact this
  rw[f0];cases aV with
  | nil=>simp
  | cons a r'=>rw[aaD @2]
 refine wpAny_binaryOp_repeat_ref (T := "list") (U := "int") @1 ⟨_,e,rfl⟩ (fun s'=>typeIs_int s' k t) noFill_list_mul F.fills_int_mul F.slot_int_rmul repeat_list F.slot_int_index.lookup
  (ad3 F.slot_int_rmul (typeIs_int s k t) F.entry_int_rmul (F.args_int_rmul_2 _ _) (int___rmul___int_list k t l aV.toArray n)
   ⟨e,rfl,⟨_,e,rfl⟩,ad3 F.slot_list_mul ⟨_,e,rfl⟩ F.entry_list_mul (F.args_list_mul_2 _ _) (AutoListH.list___mul___list_int_3 l aV.toArray n k t VJ VI Q0) ⟨e,?_⟩⟩)
 rw[VL];exact⟨.ref _,_,I.QX (t':=s.toks) (r.rep k.toNat) (by rw[len_rep,Nat.mul_comm];exact hz),rfl,q _ I.fresh⟩
section
variable {prog:u8}{w:World}{E:xz}
set_option maxRecDepth 100000 in
end
end L2
namespace Att
open PySem PySem.W PySem.Calls PyProof.Rows
theorem mQ{P:Params}{h:Heap}:∀(ns:wn) (vs:wf),WellAll P h vs (ns.map WData.int)->IntsAre vs ns:=by
 intro ns;induction ns with
 | nil =>
  intro vs w;rw[acN]at w;cases w;exact .nil
 | cons n ns ih =>
  intro vs w;rw[aaM]at w;cases w with
  | cons a b =>
   cases a;exact .cons _ _ (ih _ b)
theorem Bd{l:OpenLaw}{n:Nat}(hn:l.most=some n){P:Params}{h:Heap}{args:List WData}{vals:wf}(Hw:l.row.toRowW.claim.pre args=true)(VM:WellAll P h vals args) :
  ∃ a vs ns,vals=[Value.ref a]/\args=[WData.list (ns.map WData.int)]/\h.get? a=some { cls:=.type "list",data:=.seq vs.toArray }/\IntsAre vs ns/\ns.length<=n:=by
 have hsh:WShape.hasAll [] args [.list .int]=true:=(pre_splitW Hw).1;have hc:l.pre.holds [] { args:=args }=true:=(pre_splitW Hw).2;obtain⟨d,r,rfl,h1,h2⟩:=hasAllW_cons hsh;obtain rfl:=hasAllW_nil h2;obtain⟨xs,rfl,h3⟩:=hasW_list h1;obtain⟨ns,rfl⟩:=items_int h3;have hlen:ns.length<=n:=by
  unfold OpenLaw.pre at hc;have h4:(WTm.not (.lt (.lit (.int (n:Int))) (.len (.arg 0)))).holds [] { args:=[.list (ns.map .int)] }=true:=by
   have h4:=(holds_andW hc).1;rw[hn]at h4;exact h4
  have h5:=condW_of h4 (w_not (w_lt w_lit (w_len_list (w_arg rfl))));rw[aav]at h5;refine Nat.le_of_not_lt fun q=>?_;have q':(n:Int) < ((ns.length:Nat):Int):=by omega
  first
   | (rw[aa2 q']at h5;exact absurd h5 @1)
   | (simp at h5;omega)
 cases VM with
 | cons w1 w2 =>
  cases w2;cases w1 with
  | list ho kN=>exact⟨_,_,ns,rfl,rfl,ho,mQ ns _ kN,hlen⟩
theorem Be(l:OpenLaw)(args:List WData):l.row.toRowW.claim.post args (.bool true) args=true :=
 postW_of (r:=l.row.toRowW) (X:=(true == true))
  (show WShape.has [] (.bool true) .bool=true by first | rfl | decide | simp[WShape.has,WShape.arms,WShape.armsAll])
  (show(WTm.eq .res (.lit (.bool true))).value [] { args:=args,res:=some (.bool true),after:=args }=some (.bool (true == true)) from w_eq_bool (w_res rfl) w_lit) rfl
theorem uB{l:OpenLaw}{n:Nat}{q:u8}{loose:wv}{XP:(Str->wP)->Heap->Prop}{YP:World->Heap->Prop}{d:DefRec}(hn:l.most=some n)(Q1:d.params.defaults=[])(call:∀(w:World) (bg bL:Shared) (mg mb:xL) (fa:Addr) (o:Obj) (pm cd doc:Value) (a:Addr) (vs:wf) (ns:wn),
   Ground q loose [] XP w bg mg mb bL.heap->YP w bL.heap ->
   bL.heap.get? fa=some o->o.data=.func (docDef d.name d.params d.body d.scope pm cd doc)->bL.heap.CodeRec cd d.name->mg d.name=some (.ref fa) ->
   bL.heap.get? a=some { cls:=.type "list",data:=.seq vs.toArray }->IntsAre vs ns->ns.length<=n->bL.gens=#[] ->
   codeAny (model l.prog w) callerA (.call (.ref fa) ⟨[.ref a],[]⟩) (fun r s'=>r=.ok (.ret (.bool true))/\OldK bL.heap s'.heap/\s'.os=bL.os/\AllBare s'.gens) bL) :
  WalkO q loose XP YP l.row.toRowW d [] (fun f vs=>PySem.call f vs):=by
 intro w bg bL mg mb G al fa o pm cd doc dV kV ho hd AS hD Q2 hg args vals as Hw aab hrd VM Uv;obtain rfl:dV=.none:=Dflts.none hD Q1;obtain rfl:kV=.none:=Dflts.noKw hD;obtain⟨a,vs,ns,rfl,rfl,MT,hints,hlen⟩:=Bd hn Hw VM;refine enter_call (acv (call w bg bL mg mb fa o pm cd doc a vs ns G al ho (fd_plain hd) AS Q2 MT hints hlen hg) fun r s' hq=>?_);obtain⟨rfl,h2,h3,h4⟩:=hq;exact⟨.inl ⟨.bool true,.bool true,[],rfl,fun _=>rfl,.bool true,Be l _,fun _=>⟨List.Pairwise.nil,fun _ hm=>(nomatch hm)⟩⟩,h2,h3,h4⟩
end Att
namespace L2
open PySem PySem.Spec PyProof.Rows
variable {fd:wT}{x:Str}
theorem qr:∀{vs:wf} {ns:wn},IntsAre vs ns->Vals (ns.map V.int) vs
 | _,_,.nil=>.nil
 | _,_,.cons n t h=>.cons ⟨t,rfl⟩ (qr h)
noncomputable def MU(H:Hp):Prop:=∀ b,H b=none\/∃ o xs,H b=some (.lG o (.lst xs))
theorem Ds{P:u8}{w:World}{K:zn}{mg mb:xL}{CX:A4}{k:Nat}{fa a:Addr}{sp:Sp}{bL:Shared}{vs:wf}{ns:wn}(KX:K.In bL.heap)(YQ:bL.heap.Ns mainGlobals mg)(hb:bL.heap.Ns builtinsNs mb)(hbb:∀ x:Str,x ≠ "__name__"->mb x=bootBuiltins x)(VN:bL.heap.NoLimit)(hg:bL.gens=#[])(ha:bL.heap.get? a=some { cls:=.type "list",data:=.seq vs.toArray })(hi:IntsAre vs ns)(hl:ns.length<=sizeLine)(hr:de k callerA)(F:∀ base:Heap,K.In base->base.Ns mainGlobals mg->ba P w K mg base CX k fa fd [x] sp)(Q3:∀(s:Shared) (u:Value),BindsTo s fd ⟨[u],[]⟩ [(x,u)])(xm:∀ H:Hp,MU H->gk K H a (ns.map V.int)->sp [.ref a] H (fun v _=>v=.bl true) fun _ _ _=>False)(VO:∀ H e s',CX [] H bL (fun _ _ _=>False) e s'->False) :
  codeAny (model P w) callerA (.call (.ref fa) ⟨[.ref a],[]⟩) (fun r s'=>r=.ok (.ret (.bool true))/\OldK bL.heap s'.heap/\s'.os=bL.os/\AllBare s'.gens) bL:=by
 have rv:=qr hi;have VP:=hi.length
 -- from an abstract heap in YR nothing but P0 MV may be tracked
 have core:∀ H:Hp,MU H->gk K H a (ns.map V.int)->eV P w H bL.heap->(∀ b,H b≠none->b=a)->(H a≠none->K.lookup a=none) ->
   codeAny (model P w) callerA (.call (.ref fa) ⟨[.ref a],[]⟩) (fun r s'=>r=.ok (.ret (.bool true))/\OldK bL.heap s'.heap/\s'.os=bL.os/\AllBare s'.gens) bL:=by
  intro H hO hS cu hA hK;have zB:∀{b:Addr} {o:Obj},bL.heap.get? b=some o->H b=none->(rE bL.heap H).get? b=some o:=fun e n=>Cp e n;have QJ:∀{b:Addr} {o:Obj} {es:Array DictEntry} {ep:Nat},bL.heap.get? b=some o->o.data=.dict es ep->H b=none:=fun{b o es ep} e d=>by
   cases q:H b with
   | none=>rfl
   | some u =>
    have e':b=a:=hA b (by rw[q];simp);subst e';rw[ha]at e;cases e;have d':Data.seq vs.toArray _=Data.dict es ep:=d;cases d'
  have Uw:∀{b:Addr} {m:xL},bL.heap.Ns b m->(rE bL.heap H).Ns b m:=fun{b m} ⟨o,es,ep,e,d,r⟩=>⟨o,es,ep,zB e (QJ e d),d,r⟩;have YS:K.In (rE bL.heap H):=fun b o e=>zB (KX b o e) (by
   cases q:H b with
   | none=>rfl
   | some u =>
    have e':b=a:=hA b (by rw[q];simp);subst e';rw[hK (by rw[q];simp)]at e;cases e)
  have hM:Mod K mg (rE bL.heap H):=⟨YS,Uw YQ,⟨mb,Uw hb,hbb⟩,let ⟨mc,h1,h2⟩:=VN;⟨mc,Uw h1,h2⟩⟩;have e0:xj P w K mg (rE bL.heap H) callerA [] bL H:=⟨rfl,hM,fun b o e=>G3 e,acs (AQ _ _),trivial,fun b hb=>absurd (show b∈([]:ww) from hb) @2,cu,.of_eq hg⟩;refine acv ((F _ YS (Uw YQ)).run callerA [] bL H ⟨[.ref a],[]⟩ [.ref a] [.ref a] _ _ hr e0 (Q3 bL (.ref a)) (.cons rfl .nil) (xm H hO hS)) fun r s' h=>?_;cases r with
  | error e=>exact(VO H e s' h).elim
  | ok fl =>
   cases fl with
   | next=>exact False.elim h
   | brk=>exact False.elim h
   | cont=>exact False.elim h
   | ret u =>
    obtain⟨v,H',os,bare,un,VQ,r',q⟩:=h;have q':v=.bl true:=q;subst q';obtain rfl:u=Value.bool true:=r';refine⟨rfl,OldK.of_keep fun b o e=>?_,os,bare⟩;cases q:H b with
    | none=>exact un.keep b o e q (by intro z;exact absurd (show b∈([]:ww) from z) @2) @2
    | some u =>
     rcases hO b with z | ⟨ob,xs,z⟩
     .rw[q]at z;cases z
     .have z2:=un.pN b ob _ z;obtain⟨e1,_⟩:=cu b _ z;obtain⟨e2,_⟩:=VQ b _ z2;rw[e]at e1;cases e1;exact e2
 cases hk:K.lookup a with
 | some o =>
  -- P0 MV is one of P0 Q4 own objects
  have e:=KX a o hk;rw[ha]at e;cases e;refine core (fun _=>none) (fun _=>.inl rfl) (.inr ⟨_,vs.toArray,_,hk,rfl,rfl,rfl,by rw[aaL,VP];exact hl,by simpa using rv⟩) (fun b u z=>by have z':(none:Option HO)=some u:=z;cases z') (fun b z=>absurd rfl z) fun z=>absurd rfl z
 | none =>
  refine core (fun b=>if b=a then some (.lG { cls:=.type "list",data:=.seq vs.toArray } (.lst (ns.map V.int)))else none) (fun b=>?_) (.inl (.inr ⟨{ cls:=.type "list",data:=.seq vs.toArray },aaO rfl⟩)) (fun b u z=>?_) (fun b z=>?_) fun _=>hk
  .by_cases hb:b=a
   .exact .inr ⟨_,_,aaO hb⟩
   .exact .inl (aaD hb)
  .by_cases hb:b=a
   .have z':=(aaO hb).symm.trans z;cases z';subst hb;exact⟨ha,by rw[aav];exact hl,vs,_,rv,ha⟩
   .have z':=(aaD hb).symm.trans z;cases z'
  .by_cases hb:b=a
   .exact hb
   .exact absurd (aaD hb) z
theorem Hx{l:PySem.W.OpenLaw}{n k:Nat}{q:u8}{loose:wv}{XP:(Str->wP)->Heap->Prop}{YP:World->Heap->Prop}{d:DefRec}{K:Params->zn}{CX:World->A4}{sp:World->Sp}(hn:l.most=some n)(JX:n<=sizeLine)(Q1:d.params.defaults=[])(hr:de k callerA)(hY:∀(w:World) (h:Heap),YP w h->(K w.params).In h)(F:∀(w:World) (mg:xL) (fa:Addr) (h:Heap),(K w.params).In h->h.Ns mainGlobals mg->mg d.name=some (.ref fa) ->
   ∃ fd:wT,(∀(s:Shared) (u:Value),BindsTo s fd ⟨[u],[]⟩ [(x,u)]) /\
    ∀ base:Heap,(K w.params).In base->base.Ns mainGlobals mg->ba l.prog w (K w.params) mg base (CX w) k fa fd [x] (sp w))(xm:∀(w:World) (H:Hp) (a:Addr) (ns:wn),ns.length<=n->MU H->gk (K w.params) H a (ns.map V.int)->sp w [.ref a] H (fun v _=>v=.bl true) fun _ _ _=>False)(VO:∀(w:World) (H:Hp) (s:Shared) (e:Value) (s':Shared),CX w [] H s (fun _ _ _=>False) e s'->False) :
  PySem.W.WalkO q loose XP YP l.row.toRowW d [] (fun f vs=>PySem.call f vs):=by
 refine Att.uB hn Q1 fun w bg bL mg mb fa o pm cd doc a vs ns G al ho hd AS Q2 MT hints hlen hg=>?_;have KX:=hY w _ al;obtain⟨fd,hb,hF⟩:=F w mg fa _ KX G.T.g Q2;exact Ds KX G.T.g G.T.b G.T.builtins G.T.nolimit hg MT hints (aaE hlen JX) hr hF hb (fun H hO hS=>xm w H a ns hlen hO hS) fun H e s'=>VO w H bL e s'
abbrev df:A4:=fun _ _ _ _ _ _=>False
abbrev E0:XK:=fun _ _ _=>False
theorem zC{X:Cx}:Passes df X E0:=fun _ _ _ _ _ _ _ h=>h.elim
structure cR(K:zn)(x qual:Str)(st:Stmt)(f:Addr)(fd:wT):Prop where
 ex:∃(oc:Value) (od:wS) (kV doc pm:Value) (an:wS) (bB ct:Value) (xl:Array wP),
  fd=PySem.W.fnOf x qual (defArgs st) (defBody st) (defScope st) .none kV doc pm an bB ct/\K.lookup f=some ⟨oc,od,.func fd,xl⟩/\PySem.W.codeIn K bB qual=true
 kp:PySem.W.keepIn K (.ref f)=true
section
variable {P:u8}{w:World}{K:zn}{mg:xL}{base:Heap}
theorem cR.ok{qual:Str}{st:Stmt}{f:Addr}{N ps:wv}{k:Nat}{sp:Sp}(F:cR K x qual st f fd)(S:az N ps (defScope st))(len:∀ vs H Q E,sp vs H Q E->vs.length=ps.length)(eG:∀(bB:Value) (A:tx) (outer:List Env) (s:Shared) (H:Hp) (vs:List V) (Q:VK) (E:XK),de k (A.deeper (envOfC qual (defScope st) s.heap.objs.size f bB))->sp vs H Q E ->
   ∃ t,zh (gC df P w K mg base N qual (defScope st) f bB A outer s H E).AU (defBody st) t/\t { nx:=fun _ H'=>Q .dH H',rt:=Q } (start N vs) H):ba P w K mg base df (k+1) f fd ps sp:=by
 obtain⟨oc,od,kV,doc,pm,an,bB,ct,xl,rfl,lk,AS⟩:=F.ex;refine JY lk AS S len fun A outer s H vs Q E hr xm=>?_;obtain⟨t,h,q⟩:=eG bB A outer s H vs Q E hr xm;exact⟨t,h.AU,q⟩
theorem cR.binds{qual:Str}{st:Stmt}{f:Addr}{ps:wv}(F:cR K x qual st f fd)(h:∀(kV doc pm:Value) (an:wS) (bB ct:Value) (us:wf),us.length=ps.length->bindArgs (PySem.W.fnOf x qual (defArgs st) (defBody st) (defScope st) .none kV doc pm an bB ct) ⟨us,[]⟩=pure (ps.zip us)):Binds K fd ps []:=by
 obtain⟨oc,od,kV,doc,pm,an,bB,ct,xl,rfl,lk,AS⟩:=F.ex;exact .all (h kV doc pm an bB ct)
theorem lM{qual:Str}{st:Stmt}{f:Addr}{oc:Value}{od an:wS}{xl:Array wP}{kV doc pm bB ct:Value}(l:K.lookup f=some ⟨oc,od,.func (PySem.W.fnOf x qual (defArgs st) (defBody st) (defScope st) .none kV doc pm an bB ct),xl⟩)(c:PySem.W.codeIn K bB qual=true)(k:PySem.W.keepIn K (.ref f)=true):cR K x qual st f (PySem.W.fnOf x qual (defArgs st) (defBody st) (defScope st) .none kV doc pm an bB ct):=⟨⟨oc,od,kV,doc,pm,an,bB,ct,xl,rfl,l,c⟩,k⟩
end
theorem J1{A:tx}{k:Nat}(hr:de k A):A.units+1 < cLine:=acU (Nat.add_le_add_left (by decide:1<=64) _) hr.units
theorem fw{n:Nat}(h:n<=1000):n < sizeLine:=acU h @1
def aQ(H H':Hp):Prop:=∀ b o,H b=some o->H' b=some o
theorem aQ.refl(H:Hp):aQ H H:=fun _ _ h=>h
theorem aQ.trans{H H1 H2:Hp}(a:aQ H H1)(b:aQ H1 H2):aQ H H2:=fun c o h=>b c o (a c o h)
theorem aQ.seq{K:zn}{H H':Hp}{a:Addr}{xs:List V}(e:aQ H H')(h:gk K H a xs):gk K H' a xs:=by
 rcases h with(h | ⟨o,h⟩) | h
 .exact .inl (.inl (e _ _ h))
 .exact .inl (.inr ⟨o,e _ _ h⟩)
 .exact .inr h
end L2
set_option maxHeartbeats 4000000
namespace L2
open PySem PySem.Spec PyProof.Rows
variable {H:Hp}{w:World}
def Q5(i j:Int):Prop:=0 < j/\j < 2 ^ 64
theorem log2_small{n:Nat}(h:n < 2 ^ 64):n.log2 < 9000:=by
 by_cases h0:n=0
 .subst h0;decide
 .exact aaS ((Nat.log2_lt h0).mpr h) @1
theorem uC{X:Cx}:iP X (binaryOp .FloorDiv) (rI Q5 fun i j=>.int (i / j)):=Uo fun i j _ _ _ _ _ hc q=>by
 have h1:(0:Int) < j:=hc.1;have h2:j < 2 ^ 64:=hc.2;exact floordiv_int @0 (by rw[Int.fdiv_eq_ediv_of_nonneg i @0];exact q) (.inl (PyProof.noPylong_of_log2 (log2_small @0)))
mutual
noncomputable def Rep(H:Hp):PyData->V->Prop
 | .none,v=>v=.dH
 | .bool b,v=>v=.bl b
 | .int i,v=>v=.int i
 | .str x,v=>v=.str x
 | .list ds,v=>∃ a xs,v=.ref a/\H a=some (.lst xs)/\ay H ds xs
 | .tuple ds,v=>∃ a xs,v=.ref a/\H a=some (.tup xs)/\ay H ds xs
 | .dict _,_=>False
noncomputable def ay(H:Hp):wE->List V->Prop
 | [],xs=>xs=[]
 | d::ds,xs=>∃ y ys,xs=y::ys/\Rep H d y/\ay H ds ys
end
mutual
theorem Rep.mono{H H':Hp}(s:aQ H H'):∀{d:PyData} {v:V},Rep H d v->Rep H' d v
 | .none,_,h=>h
 | .bool _,_,h=>h
 | .int _,_,h=>h
 | .str _,_,h=>h
 | .list _,_,⟨a,xs,e,h,r⟩=>⟨a,xs,e,s a _ h,ay.mono s r⟩
 | .tuple _,_,⟨a,xs,e,h,r⟩=>⟨a,xs,e,s a _ h,ay.mono s r⟩
 | .dict _,_,h=>h
theorem ay.mono{H H':Hp}(s:aQ H H'):∀{ds:wE} {xs:List V},ay H ds xs->ay H' ds xs
 | [],_,h=>h
 | _::_,_,⟨y,ys,e,r,rs⟩=>⟨y,ys,e,Rep.mono s r,ay.mono s rs⟩
end
theorem ay.length{H:Hp}:∀{ds:wE} {xs:List V},ay H ds xs->ds.length=xs.length
 | [],_,h=>by cases h;rfl
 | _::_,_,⟨_,_,e,_,rs⟩=>by subst e;simp[rs.length]
theorem ay.get{H:Hp}:∀{ds:wE} {xs:List V} {i:Nat} {d:PyData},ay H ds xs->ds[i]?=some d->∃ x,xs[i]?=some x/\Rep H d x
 | [],_,_,_,_,e=>by simp at e
 | _::_,_,0,_,⟨y,ys,e1,r,_⟩,e=>by simp at e;subst e e1;exact⟨y,rfl,r⟩
 | _::_,_,i+1,d,⟨y,ys,e1,_,rs⟩,e=>by
  obtain⟨x,h1,h2⟩:=ay.get (i:=i) (d:=d) rs (by simpa using e);subst e1;exact⟨x,by simpa using h1,h2⟩
mutual
theorem Rep.reads{P:u8}{w:World}{H:Hp}{h:Heap}(ok:eV P w H h):∀{d:PyData} {v:V} {u:Value},Rep H d v->RelV v u->∃ as,Reads h u d as
 | .none,_,_,e,r=>by cases e;cases (show _=Value.none from r);exact⟨_,.none⟩
 | .bool b,_,_,e,r=>by cases e;cases (show _=Value.bool b from r);exact⟨_,.bool b⟩
 | .int i,_,_,e,r=>by cases e;obtain⟨t,rfl⟩:=(show ∃ t,_=Value.int i t from r);exact⟨_,.int i t⟩
 | .str x,_,_,e,r=>by cases e;obtain⟨t,rfl⟩:=(show ∃ t,_=Value.str x t from r);exact⟨_,.str x t⟩
 | .list ds,_,_,⟨a,xs,e,hh,rs⟩,r=>by
  subst e;cases (show _=Value.ref a from r);obtain⟨_,aV,n,rv,ho⟩:=(show cm P w H h a (.lst xs) from ok a _ hh);obtain⟨as,q⟩:=ay.reads ok rs rv;exact⟨_,.list ho rfl rfl q⟩
 | .tuple ds,_,_,⟨a,xs,e,hh,rs⟩,r=>by
  subst e;cases (show _=Value.ref a from r);obtain⟨_,aV,rv,o,ho,hc,n,hd⟩:=(show cm P w H h a (.tup xs) from ok a _ hh);obtain⟨as,q⟩:=ay.reads ok rs rv;exact⟨_,.tuple ho hc hd q⟩
 | .dict _,_,_,e,_=>e.elim
theorem ay.reads{P:u8}{w:World}{H:Hp}{h:Heap}(ok:eV P w H h):∀{ds:wE} {xs:List V} {us:wf},ay H ds xs->Vals xs us->∃ as,ReadsAll h us ds as
 | [],_,_,e,r=>by cases e;cases r;exact⟨_,.nil⟩
 | d::ds,_,us,⟨y,ys,e,hr,hs⟩,r=>by
  subst e;cases r with
  | cons r1 r2 =>
   obtain⟨as,q⟩:=Rep.reads ok hr r1;obtain⟨bs,q'⟩:=ay.reads ok hs r2;exact⟨_,.cons q q'⟩
end
section
variable {X:Cx}
noncomputable def Q6:R2:=fun x y H Q=>∃ d1 d2:PyData,Rep H d1 x/\Rep H d2 y/\d1.canLay0=true/\d2.canLay0=true/\min d1.depth d2.depth<=64/\Q (.bl (PyData.eqv d1 d2)) H
noncomputable def Q7:R2:=fun x y H Q=>∃ d1 d2:PyData,Rep H d1 x/\Rep H d2 y/\d1.canLay0=true/\d2.canLay0=true/\min d1.depth d2.depth<=64/\Q (.bl (!PyData.eqv d1 d2)) H
theorem MW(hu:X.A.units+64 < cLine):iP X (compareOp .Eq) Q6:=by
 intro pins s Z H x y v u Q I rx ry zi;obtain⟨d1,d2,r1,r2,c1,c2,hd,q⟩:=zi;obtain⟨as,q1⟩:=r1.reads I.cu rx;obtain⟨bs,q2⟩:=r2.reads I.cu ry;exact SeqAt.rcAt_reads q1 q2 c1 c2 @0 _ _ _ _ ⟨.bl _,H,I,rfl,q⟩
theorem MX(hu:X.A.units+64 < cLine):iP X (compareOp .NotEq) Q7:=by
 intro pins s Z H x y v u Q I rx ry zi;obtain⟨d1,d2,r1,r2,c1,c2,hd,q⟩:=zi;obtain⟨as,q1⟩:=r1.reads I.cu rx;obtain⟨bs,q2⟩:=r2.reads I.cu ry;exact SeqAt.rcNeAt_reads q1 q2 c1 c2 @0 _ _ _ _ ⟨.bl _,H,I,rfl,q⟩
theorem uD:gb X (.builtin "isinstance") (fun xs H Q=>∃ x T t b,xs=[x,.ty T]/\kL X.K H x t/\PySem.W.kitOne X.K t (.type T)=some b/\Q (.bl b) H):=by
 intro pins s Z H xs us Q I rv zi;obtain⟨x,T,t,b,e,ty,hk,q⟩:=zi;subst e;obtain⟨u,w',rfl,r1,r2⟩:=vals2 rv;cases (show w'=Value.type T from r2);exact A3 I r1 ty hk fun tk=>⟨.bl _,H,I.tok tk,rfl,q⟩
end
section
variable {prog:u8}{A:tx}{E:xz}{s:Shared}
theorem kR{it l:Addr}{i:Nat}{items}{x:Value}{Q:xz}(hit:s.heap.IsTupleIter it l i)(hl:s.heap.IsTuple l items)(hx:items[i]?=some x)(hQ:∀ h',h'.IsTupleIter it l (i+1)->Heap.SameBut it s.heap h'->Q x { s with heap:=h' }) :
  wpAny (model prog w) A (Builtin.SmallTypes.nextOf (.ref it)) Q E s:=by
 obtain⟨o,ho,hc,hd⟩:=id hit;obtain⟨ol,MY,_,nl,VR⟩:=hl;unfold Builtin.SmallTypes.nextOf;refine aaw (abr (name:=Str.ofString "__next__") hit.typeIs ab5
  (abx ab5 hit.typeIs F.entry_tuple_iterator_next ?_ (F.args_tuple_iterator_next_1 _)))
 show wpAny _ _ (field (.ref it) 0 >>= _) _ _ s;refine aaw (abM ho hd (x:=.ref l) rfl ?_);show wpAny _ _ (if(Value.ref l == Value.none)=true then _ else _) _ _ s;rw[aaD (show ¬ ((Value.ref l == Value.none)=true) from aaK)];show wpAny _ _ (field (.ref it) 1 >>= _) _ _ s;refine aaw (abM ho hd (x:=.int i 0) rfl ?_);show wpAny _ _ (seqItems? (.ref l) >>= _) _ _ s;refine aaw (acd MY VR ?_);simp only[abi,hx];refine aaw (ace ho hd @2 (aay ⟨x,rfl,aay (hQ _ ?_ (abd ..))⟩));exact⟨_,abq _ ho (aca (abo hd _)),(ac0 ..).trans hc,by
  rw[abo hd];simp[rawInt]⟩
theorem lN{it l:Addr}{i:Nat}{items}{Q:xz}(hh:A.handled=none)(hit:s.heap.IsTupleIter it l i)(hl:s.heap.IsTuple l items)(hx:items[i]?=none)(hE:∀ h' e,Heap.ExtBut it s.heap h'->(∃ o,h'.get? e=some o/\o.cls=.type "StopIteration")->E (.ref e) { s with heap:=h' }) :
  wpAny (model prog w) A (Builtin.SmallTypes.nextOf (.ref it)) Q E s:=by
 obtain⟨o,ho,hc,hd⟩:=id hit;obtain⟨ol,MY,_,nl,VR⟩:=hl;unfold Builtin.SmallTypes.nextOf;refine aaw (abr (name:=Str.ofString "__next__") hit.typeIs ab5
  (abx ab5 hit.typeIs F.entry_tuple_iterator_next ?_ (F.args_tuple_iterator_next_1 _)))
 show wpAny _ _ (field (.ref it) 0 >>= _) _ _ s;refine aaw (abM ho hd (x:=.ref l) rfl ?_);show wpAny _ _ (if(Value.ref l == Value.none)=true then _ else _) _ _ s;rw[aaD (show ¬ ((Value.ref l == Value.none)=true) from aaK)];show wpAny _ _ (field (.ref it) 1 >>= _) _ _ s;refine aaw (abM ho hd (x:=.int i 0) rfl ?_);show wpAny _ _ (seqItems? (.ref l) >>= _) _ _ s;refine aaw (acd MY VR ?_);simp only[abi,hx];refine aaw (acP (aaw (ace ho hd @2 ?_)));show wpAny _ _ (newExc (.type "StopIteration") [] >>= _) _ _ _;refine aaw ?_;simp only[newExc,newTuple];refine aaw (abv ?_ (by size_fits));refine aaw (m:=firstArgMember _ _) (wpAny_of_eq (a:=Value.none) (by first | rfl | (simp only[firstArgMember];rfl)) ?_);refine abv ?_ (by size_fits);simp only[raiseNew];refine aaw (wpAny_handled ?_)
 first | rw[show A.in1.handled=none from hh] | rw[hh]
 refine aaw (aay (wpAny_throw ?_));exact hE _ _ (((abd ..).extBut.push _).push _) ⟨_,aaG _ rfl,rfl⟩
end
end L2
namespace L2
open PySem PySem.Spec PyProof.Rows
variable {prog P:u8}{w:World}{A:tx}{E:xz}{s:Shared}{z i1 i2 l1 l2 a:Addr}{k1 k2:Nat}{Bh mO:Heap->Nat->wP->Prop}{zD qg:Nat->Heap->Prop}{b:Value}{X:Cx}{pins:yp}{H:Hp}{pos:Pos}
structure Nx(prog:u8)(w:World)(it l:Addr)(has:Heap->Nat->wP->Prop)(st:Nat->Heap->Prop):Prop where
 obj:∀ i h,st i h->∃ o,h.get? it=some o/\∀ v,o.data≠.cell v
 keep:∀ i h h',st i h->(∀ o,h.get? it=some o->h'.get? it=some o)->st i h'
 oz:∀ i x h h',has h i x->(∀ o,h.get? l=some o->h'.get? l=some o)->has h' i x
 item:∀(A:tx) (E:xz) (i:Nat) (s:Shared) (x:Value) (Q:xz),st i s.heap->has s.heap i (some x) ->
  (∀ h',st (i+1) h'->Heap.SameBut it s.heap h'->Q x { s with heap:=h' })->wpAny (model prog w) A (Builtin.SmallTypes.nextOf (.ref it)) Q E s
 done:∀(A:tx) (E:xz) (i:Nat) (s:Shared) (Q:xz),A.handled=none->st i s.heap->has s.heap i none ->
  (∀ h' e,Heap.ExtBut it s.heap h'->(∃ o,h'.get? e=some o/\o.cls=.type "StopIteration")->E (.ref e) { s with heap:=h' })->wpAny (model prog w) A (Builtin.SmallTypes.nextOf (.ref it)) Q E s
def Q8(l:Addr)(h:Heap)(i:Nat)(x:wP):Prop:=∃ aV:Array Value,h.IsList l aV/\aV[i]?=x
def Q9(l:Addr)(h:Heap)(i:Nat)(x:wP):Prop:=∃ aV:Array Value,h.IsTuple l aV/\aV[i]?=x
theorem Hy(it l:Addr):Nx prog w it l (Q8 l) (fun i h=>h.IsListIter it l i) where
 obj:=fun i h st=>by
  obtain⟨o,e,c,d⟩:=st;exact⟨o,e,fun v z=>by rw[d]at z;cases z⟩
 keep:=fun i h h' st k=>st.at k
 oz:=fun i x h h' zz k=>(by obtain⟨aV,hl,e⟩:=zz;exact ⟨aV,hl.at k,e⟩)
 item:=fun A E i s x Q st zz hQ=>(by obtain⟨aV,hl,e⟩:=zz;exact wpAny_nextOf_list_item st hl e hQ)
 done:=fun A E i s Q hh st zz hE=>(by obtain⟨aV,hl,e⟩:=zz;exact wpAny_nextOf_list_end hh st hl e hE)
theorem MZ(it l:Addr):Nx prog w it l (Q9 l) (fun i h=>h.IsTupleIter it l i) where
 obj:=fun i h st=>by
  obtain⟨o,e,c,d⟩:=st;exact⟨o,e,fun v z=>by rw[d]at z;cases z⟩
 keep:=fun i h h' zz k=>(by obtain⟨o,e,c⟩:=zz;exact ⟨o,k _ e,c⟩)
 oz:=fun i x h h' zz k=>(by obtain⟨aV,⟨o,e1,c⟩,e⟩:=zz;exact ⟨aV,⟨o,k _ e1,c⟩,e⟩)
 item:=fun A E i s x Q st zz hQ=>(by obtain⟨aV,hl,e⟩:=zz;exact kR st hl e hQ)
 done:=fun A E i s Q hh st zz hE=>(by obtain⟨aV,hl,e⟩:=zz;exact lN hh st hl e hE)
theorem Bf{TI TO:Addr}{x y a:Value}{Q:xz}(D:ZipApart z TI TO i1 i2 l1 l2)(N1:Nx prog w i1 l1 Bh zD)(N2:Nx prog w i2 l2 mO qg)(hz:IsZip s.heap z TI TO .none)(uE:IsPair s.heap TI (.ref i1) (.ref i2))(wH:IsPair s.heap TO a b)(h1:zD k1 s.heap)(h2:qg k2 s.heap)(hx:Bh s.heap k1 (some x))(hy:mO s.heap k2 (some y))(hQ:∀ h',IsZip h' z TI TO (rawInt s.heap.objs.size)->IsPair h' TO x y->zD (k1+1) h'->qg (k2+1) h'->IsPair h' s.heap.objs.size x y->h'.objs.size=s.heap.objs.size+1 ->
   (∀ c o,c≠z->c≠TO->c≠i1->c≠i2->s.heap.get? c=some o->h'.get? c=some o)->Q (.ref s.heap.objs.size) { s with heap:=h' }) :
  wpAny (model prog w) A (Builtin.«zip.__next__» ⟨[.ref z],[]⟩) (fun fin s'=>∃ v,fin=.done (.ret v)/\Q v s') E s:=by
 show wpAny _ _ (field (.ref z) 2 >>= _) _ _ _;refine aaw (abM hz rfl (x:=.bool false) rfl ?_);show wpAny _ _ (field (.ref z) 3 >>= _) _ _ _;refine aaw (abM hz rfl (x:=.ref TI) rfl ?_);refine aaw (acd uE rfl ?_);show wpAny _ _ (Builtin.SmallTypes.ownedTupleIsFree (.ref z) >>= _) _ _ _;refine aaw ?_;unfold Builtin.SmallTypes.ownedTupleIsFree;refine aaw (abM hz rfl (x:=.none) rfl (aay ?_));simp only[acT];refine aaw (acP ?_);refine aaw (abM hz rfl (x:=.ref TO) rfl ?_);refine aaw (acb hz @2 fun gr mz eI=>?_);replace mz:IsZip gr z TI TO .ellipsis:=mz;refine aaw ?_;simp only[List.zipIdx_cons,List.zipIdx_nil,adX,ad5];refine aaw (aaw (adO ?_));show wpAny _ _ (Builtin.SmallTypes.nextOf (.ref i1) >>= _) _ _ _;refine aaw (N1.item _ _ k1 { s with heap:=gr } x _ (N1.keep _ _ _ h1 fun o e=>eI.extBut _ _ D.i1z e) (N1.oz _ _ _ _ hx fun o e=>eI.extBut _ _ D.l1z e) fun i9 J2 gu=>aay ?_);have oA:IsPair i9 TO a b:=gu.extBut _ _ D.TOi1 (eI.extBut _ _ D.TOz wH);refine aaw (acd oA rfl ?_);refine aaw (adb oA fun oq rV iC=>?_);replace rV:IsPair oq TO x b:=rV;refine aaw (wpAny_letGo (aay ?_));refine aaw (aaw (adO ?_));show wpAny _ _ (Builtin.SmallTypes.nextOf (.ref i2) >>= _) _ _ _;refine aaw (N2.item _ _ k2 { s with heap:=oq } y _ (N2.keep _ _ _ h2 fun o e=>iC.extBut _ _ D.TOi2.symm (gu.extBut _ _ D.i12.symm (eI.extBut _ _ D.i2z e)))
  (N2.oz _ _ _ _ hy fun o e=>iC.extBut _ _ D.l2TO (gu.extBut _ _ D.l2i1 (eI.extBut _ _ D.l2z e))) fun Dt Ra mB=>aay ?_)
 have Du:IsPair Dt TO x b:=mB.extBut _ _ D.TOi2 rV;refine aaw (acd Du rfl ?_);refine aaw (adb Du fun iS oB mD=>?_);replace oB:IsPair iS TO x y:=oB;refine aaw (wpAny_letGo (aay (aay ?_)));refine aaw (acd oB rfl ?_);refine aaw (wpAny_newTuple ?_);have hsz:iS.objs.size=s.heap.objs.size:=by rw[mD.1,mB.1,iC.1,gu.1,eI.1]
 have J3:IsZip iS z TI TO .ellipsis:=mD.extBut _ _ D.TOz.symm (mB.extBut _ _ D.i2z.symm (iC.extBut _ _ D.TOz.symm (gu.extBut _ _ D.i1z.symm mz)));have Rb:∀ c o,c≠z->c≠TO->c≠i1->c≠i2->s.heap.get? c=some o->iS.get? c=some o:=fun c o c1 c2 c3 c4 e =>
  mD.extBut _ _ c2 (mB.extBut _ _ c4 (iC.extBut _ _ c2 (gu.extBut _ _ c3 (eI.extBut _ _ c1 e))))
 have Rf:zD (k1+1) iS:=N1.keep _ _ _ J2 fun o e=>mD.extBut _ _ D.TOi1.symm (mB.extBut _ _ D.i12 (iC.extBut _ _ D.TOi1.symm e));have Rg:qg (k2+1) iS:=N2.keep _ _ _ Ra fun o e=>mD.extBut _ _ D.TOi2.symm e;have Rh:z < iS.objs.size:=aaF J3;have YT:TO < iS.objs.size:=aaF oB;show wpAny _ _ (Builtin.SmallTypes.ownedTupleHandOut (.ref z) (.ref iS.objs.size) >>= _) _ _ _;refine aaw ?_;unfold Builtin.SmallTypes.ownedTupleHandOut;have Ri:IsZip (iS.push { cls:=.type "tuple",data:=.seq #[x,y] }) z TI TO .ellipsis:=aax _ J3;refine aaw (acb Ri @2 fun VS Dv Dw=>?_);replace Dv:IsZip VS z TI TO (rawInt iS.objs.size):=Dv;refine acb Dv @2 fun Dx zE Dy=>?_;replace zE:IsZip Dx z TI TO (rawInt iS.objs.size):=zE;have up:∀ c o,c≠z->iS.get? c=some o->Dx.get? c=some o:=fun c o c1 e=>Dy.extBut _ _ c1 (Dw.extBut _ _ c1 (aax _ e));have J4:IsPair Dx iS.objs.size x y:=Dy.extBut _ _ (ab7 Rh) (Dw.extBut _ _ (ab7 Rh) (aaG _ rfl));have YU:Dx.objs.size=iS.objs.size+1:=by rw[Dy.1,Dw.1,abu]
 rw[hsz]at zE J4 YU;refine aay ⟨_,rfl,?_⟩;show Q (.ref iS.objs.size) _;rw[hsz];exact hQ Dx zE (up _ _ D.TOz oB) (N1.keep _ _ _ Rf fun o e=>up _ o D.i1z e) (N2.keep _ _ _ Rg fun o e=>up _ o D.i2z e) J4 YU fun c o c1 c2 c3 c4 e=>up c o c1 (Rb c o c1 c2 c3 c4 e)
theorem Dz{TI TO:Addr}{a:Value}{Q:Fin->Shared->Prop}(hh:A.handled=none)(D:ZipApart z TI TO i1 i2 l1 l2)(N1:Nx prog w i1 l1 Bh zD)(N2:Nx prog w i2 l2 mO qg)(hz:IsZip s.heap z TI TO .none)(uE:IsPair s.heap TI (.ref i1) (.ref i2))(wH:IsPair s.heap TO a b)(h1:zD k1 s.heap)(h2:qg k2 s.heap)(uF:Bh s.heap k1 none\/(∃ x,Bh s.heap k1 (some x))/\mO s.heap k2 none)(hE:∀ h' e,(∀ c o,c≠z->c≠TO->c≠i1->c≠i2->s.heap.get? c=some o->h'.get? c=some o)->(∃ o,h'.get? e=some o/\o.cls=.type "StopIteration")->E (.ref e) { s with heap:=h' }) :
  wpAny (model prog w) A (Builtin.«zip.__next__» ⟨[.ref z],[]⟩) Q E s:=by
 show wpAny _ _ (field (.ref z) 2 >>= _) _ _ _;refine aaw (abM hz rfl (x:=.bool false) rfl ?_);show wpAny _ _ (field (.ref z) 3 >>= _) _ _ _;refine aaw (abM hz rfl (x:=.ref TI) rfl ?_);refine aaw (acd uE rfl ?_);show wpAny _ _ (Builtin.SmallTypes.ownedTupleIsFree (.ref z) >>= _) _ _ _;refine aaw ?_;unfold Builtin.SmallTypes.ownedTupleIsFree;refine aaw (abM hz rfl (x:=.none) rfl (aay ?_));simp only[acT];refine aaw (acP ?_);refine aaw (abM hz rfl (x:=.ref TO) rfl ?_);refine aaw (acb hz @2 fun gr mz eI=>?_);replace mz:IsZip gr z TI TO .ellipsis:=mz;refine aaw ?_;simp only[List.zipIdx_cons,List.zipIdx_nil,adX,ad5];refine aaw (aaw (adO ?_));show wpAny _ _ (Builtin.SmallTypes.nextOf (.ref i1) >>= _) _ _ _;rcases uF with hx | ⟨⟨x,hx⟩,hy⟩
 .refine aaw (N1.done _ _ k1 { s with heap:=gr } _ hh (N1.keep _ _ _ h1 fun o e=>eI.extBut _ _ D.i1z e) (N1.oz _ _ _ _ hx fun o e=>eI.extBut _ _ D.l1z e) fun i9 e gu he=>?_);obtain⟨oe,Na,Rj⟩:=he;have J5:IsZip i9 z TI TO .ellipsis:=gu _ _ D.i1z.symm mz;have VT:e≠z:=fun x=>by subst x;rw[J5]at Na;cases Na;simp at Rj
  refine acb J5 @2 fun oq _ iC=>hE oq e (fun c o c1 _ c3 _ x=>iC.extBut _ _ c1 (gu _ _ c3 (eI.extBut _ _ c1 x))) ⟨oe,iC.extBut _ _ VT Na,Rj⟩
 .refine aaw (N1.item _ _ k1 { s with heap:=gr } x _ (N1.keep _ _ _ h1 fun o e=>eI.extBut _ _ D.i1z e) (N1.oz _ _ _ _ hx fun o e=>eI.extBut _ _ D.l1z e) fun i9 J2 gu=>aay ?_);have oA:IsPair i9 TO a b:=gu.extBut _ _ D.TOi1 (eI.extBut _ _ D.TOz wH);refine aaw (acd oA rfl ?_);refine aaw (adb oA fun oq rV iC=>?_);refine aaw (wpAny_letGo (aay ?_));refine aaw (aaw (adO ?_));show wpAny _ _ (Builtin.SmallTypes.nextOf (.ref i2) >>= _) _ _ _;refine aaw (N2.done _ _ k2 { s with heap:=oq } _ hh (N2.keep _ _ _ h2 fun o e=>iC.extBut _ _ D.TOi2.symm (gu.extBut _ _ D.i12.symm (eI.extBut _ _ D.i2z e)))
   (N2.oz _ _ _ _ hy fun o e=>iC.extBut _ _ D.l2TO (gu.extBut _ _ D.l2i1 (eI.extBut _ _ D.l2z e))) fun Dt e mB he=>?_)
  obtain⟨oe,Na,Rj⟩:=he;have J6:IsZip Dt z TI TO .ellipsis:=mB _ _ D.i2z.symm (iC.extBut _ _ D.TOz.symm (gu.extBut _ _ D.i1z.symm mz));have VT:e≠z:=fun x=>by subst x;rw[J6]at Na;cases Na;simp at Rj
  refine acb J6 @2 fun iS _ mD=>hE iS e (fun c o c1 c2 c3 c4 x=>mD.extBut _ _ c1 (mB _ _ c4 (iC.extBut _ _ c2 (gu.extBut _ _ c3 (eI.extBut _ _ c1 x))))) ⟨oe,mD.extBut _ _ VT Na,Rj⟩
theorem lO{TI TO:Addr}{x y a:Value}{Q:wP->Shared->Prop}(D:ZipApart z TI TO i1 i2 l1 l2)(N1:Nx prog w i1 l1 Bh zD)(N2:Nx prog w i2 l2 mO qg)(hz:IsZip s.heap z TI TO .none)(uE:IsPair s.heap TI (.ref i1) (.ref i2))(wH:IsPair s.heap TO a b)(h1:zD k1 s.heap)(h2:qg k2 s.heap)(hx:Bh s.heap k1 (some x))(hy:mO s.heap k2 (some y))(hQ:∀ h',IsZip h' z TI TO (rawInt s.heap.objs.size)->IsPair h' TO x y->zD (k1+1) h'->qg (k2+1) h'->IsPair h' s.heap.objs.size x y->h'.objs.size=s.heap.objs.size+1 ->
   (∀ c o,c≠z->c≠TO->c≠i1->c≠i2->s.heap.get? c=some o->h'.get? c=some o)->Q (some (.ref s.heap.objs.size)) { s with heap:=h' }) :
  wpAny (model prog w) A (pyNext (.ref z)) Q E s:=by
 have hT:s.TypeIs (.ref z) "zip":=⟨_,hz,rfl⟩;unfold pyNext;exact aaw (adP (abr (name:=Str.ofString "__next__") hT adj
  (abx adj hT F.entry_zip_next
   (Bf D N1 N2 hz uE wH h1 h2 hx hy fun h' a1 a2 a3 a4 a5 a6 a7=>aay (hQ h' a1 a2 a3 a4 a5 a6 a7)) (F.args_zip_next_1 _))))
theorem mR{TI TO:Addr}{a:Value}{Q:wP->Shared->Prop}(hh:A.handled=none)(D:ZipApart z TI TO i1 i2 l1 l2)(N1:Nx prog w i1 l1 Bh zD)(N2:Nx prog w i2 l2 mO qg)(hz:IsZip s.heap z TI TO .none)(uE:IsPair s.heap TI (.ref i1) (.ref i2))(wH:IsPair s.heap TO a b)(h1:zD k1 s.heap)(h2:qg k2 s.heap)(uF:Bh s.heap k1 none\/(∃ x,Bh s.heap k1 (some x))/\mO s.heap k2 none)(hQ:∀ h',(∀ c o,c≠z->c≠TO->c≠i1->c≠i2->s.heap.get? c=some o->h'.get? c=some o)->Q none { s with heap:=h' }):wpAny (model prog w) A (pyNext (.ref z)) Q E s:=by
 have hT:s.TypeIs (.ref z) "zip":=⟨_,hz,rfl⟩;unfold pyNext;refine aaw (adP (abr (name:=Str.ofString "__next__") hT adj
  (abx adj hT F.entry_zip_next (Dz hh D N1 N2 hz uE wH h1 h2 uF fun h' e hk he=>?_) (F.args_zip_next_1 _))))
 obtain⟨o,ho,hc⟩:=he;refine aaw (wpAny_isInstance (T := "StopIteration") (b:=true) ⟨o,ho,hc⟩ isSubtype_stop ?_);exact aay (hQ _ hk)
noncomputable def cg(T:String)(l:Addr):Obj:={ cls:=.type T,data:=.fields #[.ref l,.int 0 0] }
noncomputable def iL(h:Heap)(o1 o2:Obj):Heap :=
 ((((h.push o1).push o2).push { cls:=.type "tuple",data:=.seq #[.ref h.objs.size,.ref (h.objs.size+1)] }).push { cls:=.type "tuple",data:=.seq #[.none,.none] }).push
  { cls:=.type "zip",data:=.fields #[.none,.bool false,.bool false,.ref (h.objs.size+2),.ref (h.objs.size+3)] }
theorem uG(l1 l2:Addr)(xs ys:Array Value) :
  Meets (Builtin.«zip.__new__» ⟨[.type "zip",.ref l1,.ref l2],[]⟩) (fun _ R s=>s.heap.IsTuple l1 xs/\s.heap.IsTuple l2 ys /\
   R (.ok (.ret (.ref (s.heap.objs.size+4)))) { s with heap:=iL s.heap (cg "tuple_iterator" l1) (cg "tuple_iterator" l2) }) :=
 .of_wp fun prog w A R s h=>by
  obtain⟨hp,g,d,tk,os⟩:=s;obtain⟨pR,qp,h⟩:=h;have Hz:=sub_zip;have Nb:Heap.IsTuple (Shared.heap ⟨hp,g,d,tk,os⟩) l1 xs:=pR;have Nc:Heap.IsTuple (Shared.heap ⟨hp.push { cls:=.type "tuple_iterator",data:=.fields #[.ref l1,.int 0 0] },g,d,tk,os⟩) l2 ys:=Heap.IsTuple.push qp _
  wp_walk using acr Nb,acr Nc
  refine⟨_,rfl,?_⟩;have e:∀(h:Heap) (o:Obj),(h.push o).objs.size=h.objs.size+1:=fun h o=>abu ..;simp only[iL,cg,e]at h ⊢;exact h
section
variable {Z:St}{h':Heap}
theorem Inv.zF{t':Nat}{ch:ww}(I:Inv X pins Z H s)(hf:∀ b∈ch,kJ X pins H b)(k:∀ b o,b ∉ ch->s.heap.get? b=some o->h'.get? b=some o):Inv X pins Z H { s with heap:=h',toks:=t' }:=by
 have Qp:∀ b u,H b=some u->b ∉ ch:=fun b u e z=>by rw[(hf b z).1]at e;cases e
 refine I.step (g':=s.gens) (d':=s.drawn) (ch:=ch) (fun b hb=>?_) (fun b o _ _ hc e _=>k b o hc e) (fun b o _ _ hc e _=>⟨o.slots,k b o hc e⟩) (fun _ _ _ _ n=>n)
  (fun b o hc e=>⟨o,k b o hc e⟩) (fun _ _ e=>e) (fun _ _ _ e=>e) (fun b ps e=>⟨#[],by rw[e];simp⟩) (fun m hm=>?_) (fun b u e=>?_) I.bare
 .obtain⟨_,f1,f2,f3,f4,f5⟩:=hf b hb;exact⟨f3,f1,f4,f5⟩
 .obtain⟨o,es,ep,ho,r⟩:=hm;exact⟨o,es,ep,k _ o (fun z=>(hf _ z).2.1 rfl) ho,r⟩
 .refine(I.cu b u e).uh (fun c v hc q=>k c v ?_ q) (fun _ q=>q) fun _ _ q=>q;rcases hc with z | z
  .rw[z];exact Qp b u e
  .exact Qp c _ z
theorem Inv.J7{t':Nat}{T:Addr}{o:HO}(I:Inv X pins Z H s)(hf:kJ X pins H T)(new:cm X.prog X.w (upd H T o) s.heap T o):Inv X pins Z (upd H T o) { s with toks:=t' }:=by
 have hn:=hf.1;refine I.step (h':=s.heap) (g':=s.gens) (d':=s.drawn) (ch:=[T]) (fun b hb=>?_) (fun b o _ _ _ e _=>e) (fun b o _ _ _ e _=>⟨o.slots,e⟩) (fun b o hc _ n=>?_)
  (fun b o _ e=>⟨o,e⟩) (fun b xs e=>?_) (fun b o u e=>?_) (fun b ps e=>⟨#[],?_⟩) (fun m hm=>hm) (fun b u e=>?_) I.bare
 .obtain⟨_,f1,f2,f3,f4,f5⟩:=hf;have e:b=T:=by simpa using hb
  subst e;exact⟨f3,f1,f4,f5⟩
 .rw[bA (fun z=>hc (by simp[z]))];exact n
 .rw[bA (cq e hn)];exact e
 .rw[bA (cq e hn)];exact e
 .rw[bA (cq e hn),e];simp
 .by_cases hb:b=T
  .subst hb;rw[cv]at e;cases e;exact new
  .rw[bA hb]at e;exact(I.cu b u e).uh (fun c v _ q=>q) (fun c q=>by rw[bA (cq q hn)];exact q) fun c xs q=>by rw[bA (cq q hn)];exact q
end
set_option genInjectivity true in
inductive SK where
 | L | T
noncomputable def xx(K:zn):SK->Hp->Addr->List V->Prop
 | .L=>gk K
 | .T=>fX K
def rW:SK->Addr->Heap->Nat->wP->Prop
 | .L=>Q8
 | .T=>Q9
def stK:SK->Addr->Addr->Nat->Heap->Prop
 | .L=>fun it l i h=>h.IsListIter it l i
 | .T=>fun it l i h=>h.IsTupleIter it l i
def oC:SK->String
 | .L => "list_iterator"
 | .T => "tuple_iterator"
theorem Ck:∀(k:SK) (it l:Addr),Nx prog w it l (rW k l) (stK k it l)
 | .L,it,l=>Hy it l
 | .T,it,l=>MZ it l
section
variable {Z:St}{xs ys:List V}
theorem Inv.Bi(I:Inv X pins Z H s):∀{k:SK},xx X.K k H a xs->∃ aV:List Value,Vals xs aV/\xs.length<=sizeLine/\∀ i,rW k a s.heap i aV[i]?
 | .L,h=>by
  obtain⟨aV,r,p,z⟩:=I.list h;obtain⟨o,n,ho,hc,hd,hdt⟩:=p;exact⟨aV,r,z,fun i=>⟨aV.toArray,⟨o,ho,hc,n,hdt⟩,@2⟩⟩
 | .T,h=>by
  obtain⟨aV,r,p,z⟩:=I.tuple h;exact⟨aV,r,z,fun i=>⟨aV.toArray,p,@2⟩⟩
theorem Inv.J8(I:Inv X pins Z H s):∀{k:SK},xx X.K k H a xs->xx X.K k H a ys->xs=ys
 | .L,h,h'=>I.um h h'
 | .T,h,h'=>I.qe h h'
end
theorem aQ.new{p:Addr}(h:H p=none)(o:HO):aQ H (upd H p o):=fun b u q=>by rw[bA (cq q h)];exact q
theorem uH(l1 l2:Addr)(xs ys:Array Value) :
  Meets (Builtin.«zip.__new__» ⟨[.type "zip",.ref l1,.ref l2],[]⟩) (fun _ R s=>s.heap.IsList l1 xs/\s.heap.IsList l2 ys /\
   R (.ok (.ret (.ref (s.heap.objs.size+4)))) { s with heap:=iL s.heap (cg "list_iterator" l1) (cg "list_iterator" l2) }) :=
 .of_wp fun prog w A R s h=>by
  obtain⟨hp,g,d,tk,os⟩:=s;obtain⟨pR,qp,h⟩:=h;have Hz:=sub_zip;have Nb:Heap.IsList (Shared.heap ⟨hp,g,d,tk,os⟩) l1 xs:=pR;have Nc:Heap.IsList (Shared.heap ⟨hp.push { cls:=.type "list_iterator",data:=.fields #[.ref l1,.int 0 0] },g,d,tk,os⟩) l2 ys:=Heap.IsList.push qp _
  wp_walk using abT Nb,abT Nc
  refine⟨_,rfl,?_⟩;have e:∀(h:Heap) (o:Obj),(h.push o).objs.size=h.objs.size+1:=fun h o=>abu ..;simp only[iL,cg,e]at h ⊢;exact h
theorem uI(l1 l2:Addr)(xs ys:Array Value) :
  Meets (Builtin.«zip.__new__» ⟨[.type "zip",.ref l1,.ref l2],[]⟩) (fun _ R s=>s.heap.IsTuple l1 xs/\s.heap.IsList l2 ys /\
   R (.ok (.ret (.ref (s.heap.objs.size+4)))) { s with heap:=iL s.heap (cg "tuple_iterator" l1) (cg "list_iterator" l2) }) :=
 .of_wp fun prog w A R s h=>by
  obtain⟨hp,g,d,tk,os⟩:=s;obtain⟨pR,qp,h⟩:=h;have Hz:=sub_zip;have Nb:Heap.IsTuple (Shared.heap ⟨hp,g,d,tk,os⟩) l1 xs:=pR;have Nc:Heap.IsList (Shared.heap ⟨hp.push { cls:=.type "tuple_iterator",data:=.fields #[.ref l1,.int 0 0] },g,d,tk,os⟩) l2 ys:=Heap.IsList.push qp _
  wp_walk using acr Nb,abT Nc
  refine⟨_,rfl,?_⟩;have e:∀(h:Heap) (o:Obj),(h.push o).objs.size=h.objs.size+1:=fun h o=>abu ..;simp only[iL,cg,e]at h ⊢;exact h
theorem uJ(l1 l2:Addr)(xs ys:Array Value) :
  Meets (Builtin.«zip.__new__» ⟨[.type "zip",.ref l1,.ref l2],[]⟩) (fun _ R s=>s.heap.IsList l1 xs/\s.heap.IsTuple l2 ys /\
   R (.ok (.ret (.ref (s.heap.objs.size+4)))) { s with heap:=iL s.heap (cg "list_iterator" l1) (cg "tuple_iterator" l2) }) :=
 .of_wp fun prog w A R s h=>by
  obtain⟨hp,g,d,tk,os⟩:=s;obtain⟨pR,qp,h⟩:=h;have Hz:=sub_zip;have Nb:Heap.IsList (Shared.heap ⟨hp,g,d,tk,os⟩) l1 xs:=pR;have Nc:Heap.IsTuple (Shared.heap ⟨hp.push { cls:=.type "list_iterator",data:=.fields #[.ref l1,.int 0 0] },g,d,tk,os⟩) l2 ys:=Heap.IsTuple.push qp _
  wp_walk using abT Nb,acr Nc
  refine⟨_,rfl,?_⟩;have e:∀(h:Heap) (o:Obj),(h.push o).objs.size=h.objs.size+1:=fun h o=>abu ..;simp only[iL,cg,e]at h ⊢;exact h
theorem jS{h:Heap}{o1 o2:Obj}:(iL h o1 o2).get? (h.objs.size+4)=some { cls:=.type "zip",data:=.fields #[.none,.bool false,.bool false,.ref (h.objs.size+2),.ref (h.objs.size+3)] }:=by
 unfold iL;have e:h.objs.size+4=((((h.push o1).push o2).push { cls:=.type "tuple",data:=.seq #[.ref h.objs.size,.ref (h.objs.size+1)] }).push { cls:=.type "tuple",data:=.seq #[.none,.none] }).objs.size:=by simp only[abu]
 rw[e];exact aaG _ rfl
theorem Bj:∀{k1 k2:SK} {n1 n2:wP} {Q:xz} (pR:rW k1 l1 s.heap 0 n1) (qp:rW k2 l2 s.heap 0 n2)
  (h:Q (.ref (s.heap.objs.size+4)) { s with heap:=iL s.heap (cg (oC k1) l1) (cg (oC k2) l2) }),wpAny (model prog w) A (call (.type "zip") [.ref l1,.ref l2]) Q E s
 | .T,.T,_,_,_,⟨xs,pR,_⟩,⟨ys,qp,_⟩,h=>adY adZ @1 (ac8 _ _) (adk _ _) (fun obj=>acF obj _ _) adl
   (uG l1 l2 xs ys) ⟨pR,qp,⟨⟨_,jS,rfl⟩,h⟩⟩
 | .L,.L,_,_,_,⟨xs,pR,_⟩,⟨ys,qp,_⟩,h=>adY adZ @1 (ac8 _ _) (adk _ _) (fun obj=>acF obj _ _) adl
   (uH l1 l2 xs ys) ⟨pR,qp,⟨⟨_,jS,rfl⟩,h⟩⟩
 | .T,.L,_,_,_,⟨xs,pR,_⟩,⟨ys,qp,_⟩,h=>adY adZ @1 (ac8 _ _) (adk _ _) (fun obj=>acF obj _ _) adl
   (uI l1 l2 xs ys) ⟨pR,qp,⟨⟨_,jS,rfl⟩,h⟩⟩
 | .L,.T,_,_,_,⟨xs,pR,_⟩,⟨ys,qp,_⟩,h=>adY adZ @1 (ac8 _ _) (adk _ _) (fun obj=>acF obj _ _) adl
   (uJ l1 l2 xs ys) ⟨pR,qp,⟨⟨_,jS,rfl⟩,h⟩⟩
noncomputable def VU(K:zn)(k1 k2:SK)(a b:Addr):It :=
 ⟨fun i H=>∃ xs ys x y,xx K k1 H a xs/\xx K k2 H b ys/\xs[i]?=some x/\ys[i]?=some y,
  fun i H v H'=>∃ p x y,v=.ref p/\H p=none/\H'=upd H p (.tup [x,y])/\(∀ xs,xx K k1 H a xs->xs[i]?=some x)/\∀ ys,xx K k2 H b ys->ys[i]?=some y,
  fun i H=>∃ xs ys,xx K k1 H a xs/\xx K k2 H b ys/\(xs.length<=i\/ys.length<=i)⟩
def tnZ(k1 k2:SK)(z TI TO i1 i2 a b:Addr)(i:Nat)(h:Heap):Prop :=
 IsZip h z TI TO .none/\IsPair h TI (.ref i1) (.ref i2)/\(∃ x y,IsPair h TO x y)/\stK k1 i1 a i h/\stK k2 i2 b i h
theorem qt{k:SK}{h:Heap}{i:Nat}{aV:wf}(hh:∀ i,rW k a h i aV[i]?)(e:aV.length<=i):rW k a h i none:=by
 have q:=hh i;rw[List.getElem?_eq_none e]at q;exact q
theorem DA{K:zn}{elts:v6}{ek:Nat}{Bk:Pos}{k1 k2:SK}{b TI TO:Addr}(D:ZipApart z TI TO i1 i2 a b) :
  Turn P w K (.Tuple elts ek Bk) (VU K k1 k2 a b) [z,TI,TO,i1,i2] z (tnZ k1 k2 z TI TO i1 i2 a b) where
 mem:=by simp
 obj:=fun i h st c hc=>by
  obtain⟨hz,uE,⟨x,y,wH⟩,s1,s2⟩:=st;simp only[aaA,aby,ac1]at hc;rcases hc with rfl | rfl | rfl | rfl | rfl
  .exact⟨_,hz,fun v e=>nomatch e⟩
  .exact⟨_,uE,fun v e=>nomatch e⟩
  .exact⟨_,wH,fun v e=>nomatch e⟩
  .exact(Ck (prog:=P) (w:=w) k1 _ a).obj i h s1
  .exact(Ck (prog:=P) (w:=w) k2 _ b).obj i h s2
 keep:=fun i h h' st k=>by
  obtain⟨hz,uE,⟨x,y,wH⟩,s1,s2⟩:=st;exact⟨k z @2 _ hz,k TI @2 _ uE,⟨x,y,k TO @2 _ wH⟩,(Ck (prog:=P) (w:=w) k1 _ a).keep i h h' s1 fun o e=>k i1 @2 o e,(Ck (prog:=P) (w:=w) k2 _ b).keep i h h' s2 fun o e=>k i2 @2 o e⟩
 item:=by
  intro X hP hw hK hc i pins s Z H E I hf st hg;subst hP hw hK;obtain⟨hz,uE,⟨ta,tb,wH⟩,s1,s2⟩:=st;obtain⟨xs,ys,x,y,q1,q2,hx,hy⟩:=hg;obtain⟨HA,r1,z1,g1⟩:=I.Bi q1;obtain⟨xw,r2,z2,g2⟩:=I.Bi q2;obtain⟨u1,hu1,VW⟩:=r1.get hx;obtain⟨u2,hu2,VX⟩:=r2.get hy;refine lO D (Ck k1 i1 a) (Ck k2 i2 b) hz uE wH s1 s2 (x:=u1) (y:=u2) (by rw[<- hu1];exact g1 i) (by rw[<- hu2];exact g2 i) fun h' a1 a2 a3 a4 a5 a6 a7=>?_;refine⟨_,rfl,wpAny_letOwnedTupleGo_zip a1 fun h2 hz2 mO=>?_⟩;have VY:s.heap.objs.size≠z:=ab7 (aaF hz);have iM:∀ c o,s.heap.get? c=some o->s.heap.objs.size≠c:=fun c o e=>ab7 (aaF e);have kp:∀ c o,c ∉ [z,TI,TO,i1,i2]->s.heap.get? c=some o->h2.get? c=some o:=fun c o hc e=>by
   simp only[aaA,aby,ac1,not_or]at hc;exact mO.extBut _ _ hc.1 (a7 c o hc.1 hc.2.2.1 hc.2.2.2.1 hc.2.2.2.2 e)
  have I1:Inv X pins Z H { s with heap:=h2,toks:=s.toks }:=I.zF hf kp;have hT2:IsPair h2 s.heap.objs.size u1 u2:=mO.extBut _ _ VY a5;have P5:H s.heap.objs.size=none:=I.cu.fresh (aaC _);have I2:Inv X pins Z (upd H s.heap.objs.size (.tup [x,y])) { s with heap:=h2,toks:=s.toks } :=
   I1.J7 (t':=s.toks) (I.wY (aaC _) P5) ⟨by show 2<=sizeLine;decide,[u1,u2],.cons VW (.cons VX .nil),⟨_,hT2,rfl,_,rfl⟩⟩
  refine⟨.ref s.heap.objs.size,_,I2,rfl,⟨_,x,y,rfl,P5,rfl,fun GR h=>by rw[I.J8 h q1];exact hx,fun ys' h=>by rw[I.J8 h q2];exact hy⟩,?_,fun c hc=>?_⟩
  .have e1:∀ c o,c≠z->h'.get? c=some o->h2.get? c=some o:=fun c o hc e=>mO.extBut _ _ hc e;exact⟨hz2,e1 _ _ D.TIz (a7 _ _ D.TIz D.TITO D.TIi1 D.TIi2 uE),⟨_,_,e1 _ _ D.TOz a2⟩,(Ck (prog:=X.prog) (w:=X.w) k1 _ a).keep _ _ _ a3 fun o e=>e1 _ _ D.i1z e,(Ck (prog:=X.prog) (w:=X.w) k2 _ b).keep _ _ _ a4 fun o e=>e1 _ _ D.i2z e⟩
  .have jx:c≠s.heap.objs.size:=by
    have:∃ o,s.heap.get? c=some o:=by
     simp only[aaA,aby,ac1]at hc;rcases hc with rfl | rfl | rfl | rfl | rfl
     .exact⟨_,hz⟩
     .exact⟨_,uE⟩
     .exact⟨_,wH⟩
     .obtain⟨o,e,_⟩:=(Ck (prog:=X.prog) (w:=X.w) k1 _ a).obj _ _ s1;exact⟨o,e⟩
     .obtain⟨o,e,_⟩:=(Ck (prog:=X.prog) (w:=X.w) k2 _ b).obj _ _ s2;exact⟨o,e⟩
    obtain⟨o,e⟩:=this;exact(iM c o e).symm
   rw[bA jx];exact(hf c hc).1
 done:=by
  intro X hP hw hK hc i pins s Z H E I hf st hg;subst hP hw hK;obtain⟨hz,uE,⟨ta,tb,wH⟩,s1,s2⟩:=st;obtain⟨xs,ys,q1,q2,he⟩:=hg;obtain⟨HA,r1,z1,g1⟩:=I.Bi q1;obtain⟨xw,r2,z2,g2⟩:=I.Bi q2;have l1:=r1.length;have l2:=r2.length;have uF:rW k1 a s.heap i none\/(∃ x,rW k1 a s.heap i (some x))/\rW k2 b s.heap i none:=by
   by_cases h1:HA.length<=i
   .exact .inl (qt g1 h1)
   .refine .inr ⟨⟨HA[i],?_⟩,qt g2 @0⟩;have q:=g1 i;rw[aaT @0]at q;exact q
  exact mR (I.ok.hd hc) D (Ck k1 i1 a) (Ck k2 i2 b) hz uE wH s1 s2 uF fun h' k=>⟨rfl,I.zF (t':=s.toks) hf fun c o hc e=>by
   simp only[aaA,aby,ac1,not_or]at hc;exact k c o hc.1 hc.2.2.1 hc.2.2.2.1 hc.2.2.2.2 e⟩
 self:=fun _ _ _ _ _ st h=>wpAny_pyIter_zip st.1 h
noncomputable def Nd(K:zn)(k1 k2:SK)(ta:TA):TI:=fun Z H R=>ta Z H fun vs H1=>∃ a b,vs=[.ref a,.ref b]/\(∃ xs,xx K k1 H1 a xs)/\(∃ ys,xx K k2 H1 b ys)/\R (VU K k1 k2 a b) H1
theorem DB{Z:St}{xs:List V}(I:Inv X pins Z H s):∀{k:SK},xx X.K k H a xs->a < s.heap.objs.size
 | .L,h=>by
  obtain⟨aV,r,⟨o,n,ho,_⟩,z⟩:=I.list h;exact aaF ho
 | .T,h=>by
  obtain⟨aV,r,⟨o,ho,_⟩,z⟩:=I.tuple h;exact aaF ho
theorem Nf(k1 k2:SK){elts:v6}{ek:Nat}{Bk:Pos}{a b:Expr}{ta:TA}{p:Pos}(hg:Gl X "zip")(hm:X.mg "zip"=none)(ha:PA X [a,b] ta)(hs:autoParam (starEach [a,b] X.env=[(false,eval a X.env),(false,eval b X.env)]) ra0)(mO:autoParam (starEach [b] X.env=[(false,eval b X.env)]) ra0) :
  PI X (.Tuple elts ek Bk) (.Call (.Name "zip" p) [a,b] [] pos) (Nd X.K k1 k2 ta):=by
 intro pins s Z H R I h;refine Call_ (ki I hg hm boot_zip (ab2 (cL (ha pos pins s Z H _ I h) fun us s1 zz=>?_) (by rw[hs,mO]) (by rw[mO];rfl)));obtain⟨vs,H1,I1,r1,q1⟩:=zz;obtain⟨l1,l2,e,⟨xs,Rk⟩,⟨ys,P6⟩,q⟩:=q1;subst e;obtain⟨u1,u2,rfl,VW,VX⟩:=vals2 r1;cases (show u1=Value.ref l1 from VW);cases (show u2=Value.ref l2 from VX);obtain⟨HA,_,_,g1⟩:=I1.Bi Rk;obtain⟨xw,_,_,g2⟩:=I1.Bi P6;have e5:∀(h:Heap) (o:Obj),(h.push o).objs.size=h.objs.size+1:=fun h o=>abu ..;refine Bj (g1 0) (g2 0) ?_;refine wpAny_pyIter_zip (s:={ s1 with heap:=iL s1.heap (cg (oC k1) l1) (cg (oC k2) l2) }) jS ?_;have kp:∀ c o,s1.heap.get? c=some o->(iL s1.heap (cg (oC k1) l1) (cg (oC k2) l2)).get? c=some o:=fun c o x =>
  aax _ (aax _ (aax _ (aax _ (aax _ x))))
 refine⟨s1.heap.objs.size+4,[s1.heap.objs.size+4,s1.heap.objs.size+2,s1.heap.objs.size+3,s1.heap.objs.size,s1.heap.objs.size+1],_,_,H1,rfl,I1.kept (t':=s1.toks) kp,DA (PyProof.Rows.zipApart_new (DB I1 Rk) (DB I1 P6)),?_,fun c hc=>?_,q⟩
 .have g5:=jS (h:=s1.heap) (o1:=cg (oC k1) l1) (o2:=cg (oC k2) l2);have z1:(s1.heap.push (cg (oC k1) l1)).objs.size=s1.heap.objs.size+1:=e5 _ _;have z2:((s1.heap.push (cg (oC k1) l1)).push (cg (oC k2) l2)).objs.size=s1.heap.objs.size+2:=by rw[e5,z1]
  have p4:(iL s1.heap (cg (oC k1) l1) (cg (oC k2) l2)).get? (s1.heap.objs.size+3)=some { cls:=.type "tuple",data:=.seq #[.none,.none] }:=by
   unfold iL;refine aax _ ?_;have e:s1.heap.objs.size+3=(((s1.heap.push (cg (oC k1) l1)).push (cg (oC k2) l2)).push { cls:=.type "tuple",data:=.seq #[.ref s1.heap.objs.size,.ref (s1.heap.objs.size+1)] }).objs.size:=by rw[e5,z2]
   rw[e];exact aaG _ rfl
  have p3:(iL s1.heap (cg (oC k1) l1) (cg (oC k2) l2)).get? (s1.heap.objs.size+2)=some { cls:=.type "tuple",data:=.seq #[.ref s1.heap.objs.size,.ref (s1.heap.objs.size+1)] }:=by
   unfold iL;refine aax _ (aax _ ?_);rw[<- z2];exact aaG _ rfl
  have p2:(iL s1.heap (cg (oC k1) l1) (cg (oC k2) l2)).get? (s1.heap.objs.size+1)=some (cg (oC k2) l2):=by
   unfold iL;refine aax _ (aax _ (aax _ ?_));rw[<- z1];exact aaG _ rfl
  have p1:(iL s1.heap (cg (oC k1) l1) (cg (oC k2) l2)).get? s1.heap.objs.size=some (cg (oC k1) l1):=by
   unfold iL;exact aax _ (aax _ (aax _ (aax _ (aaG _ rfl))))
  refine⟨g5,p3,⟨_,_,p4⟩,?_,?_⟩
  .cases k1<;>exact⟨_,p1,rfl,rfl⟩
  .cases k2<;>exact⟨_,p2,rfl,rfl⟩
 .have hle:s1.heap.objs.size<=c:=by
   simp only[aaA,aby,ac1]at hc;rcases hc with rfl | rfl | rfl | rfl | rfl<;>omega
  exact I1.wY hle (I1.cu.fresh hle)
noncomputable abbrev xy(w:World):List DictEntry->List (Key×V)->Prop:=Paired fun e kv=>nW kv.1 e.key=true/\e.hash=Qg w kv.1/\RelV kv.2 e.val
structure Bl(K:zn)(w:World)(a:Addr)(kvs:List (Key×V)):Prop where
 ex:∃(es:Array DictEntry) (ep:Nat),K.lookup a=some ⟨.type "dict",none,.dict es ep,#[]⟩/\xy w es.toList kvs
 nd:(kvs.map (·.1)).Nodup
 ne:(a == sysModules)=false
theorem xy.out{P:u8}{w:World}:∀{es:List DictEntry} {kvs:List (Key×V)},xy w es kvs->∃ vs,Pairs (cb P w) es vs/\KV kvs vs
 | _,_,.nil=>⟨[],.nil,.nil⟩
 | _,_,.cons (a:=e) (b:=kv) h t=>by
  obtain⟨vs,p,r⟩:=xy.out (P:=P) t;exact⟨(kv.1,e.val)::vs,.cons h.1 rfl p,.cons ⟨rfl,h.2.2⟩ r⟩
theorem xy.keys{P:u8}{w:World}:∀{es:List DictEntry} {kvs:List (Key×V)},xy w es kvs->∀ e∈es,∃ k,(cb P w).is k e.key=true/\e.hash=(cb P w).hash k
 | _,_,.nil,e,he=>nomatch he
 | _,_,.cons (b:=kv) h t,e,he=>by
  rcases aaA.mp he with q | q
  .subst q;exact⟨kv.1,h.1,h.2.1⟩
  .exact xy.keys t e q
section
variable {Z:St}{kvs:List (Key×V)}{k:Key}{v:V}{u:Value}
theorem Bl.dict(I:Inv X pins Z H s)(m:Bl X.K X.w a kvs):∃ vs,KV kvs vs/\s.heap.DictOf (cb X.prog X.w) a vs:=by
 obtain⟨⟨es,ep,hl,hm⟩,nd,_⟩:=m;obtain⟨vs,p,r⟩:=hm.out (P:=X.prog);exact⟨vs,r,_,es,ep,I.mr _ _ hl,⟨rfl,rfl,rfl⟩,rfl,fun e he=>hm.keys e (by simpa using he),p,by rw[<- r.keys];exact nd⟩
theorem Bm{Q:xz}(I:Inv X pins Z H s)(m:Bl X.K X.w a kvs)(l:iz kvs k=some v)(ry:RelV (kV k) u)(h:∀ w' s',Inv X pins Z H s'->RelV v w'->Q w' s') :
  wpAny (model X.prog X.w) A (getItem (.ref a) u) Q E s:=by
 obtain⟨vs,rel,dd⟩:=m.dict I;obtain⟨w',hw,xo⟩:=js.some_of (v:=v) (o:=valueAt vs k) (by rw[<- l];exact rel.val k);exact wpAny_getItem_of (ql ry) dd.mapOf hw (h w' _ (I.tok _) xo)
end
noncomputable def DD(K:zn)(w:World)(td ty:TE):TE:=fun Z H Q=>td Z H fun x H1=>ty Z H1 fun y H2=>∃ a kvs k v,x=.ref a/\Bl K w a kvs/\y=kV k/\iz kvs k=some v/\Q v H2
section
variable {o i:Expr}{td ty:TE}
theorem HB(ho:PE X o td)(hi:PE X i ty)(hs:Ba i):PE X (.Subscript o i pos) (DD X.K X.w td ty):=by
 intro pins s Z H Q I h;refine zu ady.lookup hs (cL (ho pins s Z H _ I h) fun u s1 zz=>?_);obtain⟨x,H1,I1,rx,q1⟩:=zz;refine cL (hi pins s1 Z H1 _ I1 q1) fun iv s2 zy=>?_;obtain⟨y,H2,I2,ry,a,kvs,k,v,ex,m,ey,l,q2⟩:=zy;subst ex ey;obtain rfl:u=Value.ref a:=rx;obtain⟨vs,rel,dd⟩:=m.dict I2;exact⟨dd.typeIs,Bm I2 m l ry fun w' s3 I3 xo=>⟨v,H2,I3,xo,q2⟩⟩
end
structure Dn(P:u8)(w:World)(K:zn)(mg:xL)(base:Heap)(k:Nat)(x:Str)(f:Addr)(fd:wT)(ps:wv)(sp:Sp):Prop where
 ok:ba P w K mg base df k f fd ps sp
 b:Binds K fd ps []
 kp:PySem.W.keepIn K (.ref f)=true
 m:mg x=some (.ref f)
section
variable {k j:Nat}{f:Addr}{fd:wT}{ps:wv}{sp:Sp}{x:Str}{p:Pos}{e:Expr}{es:v6}{t:TA}
theorem DE(D:Dn X.prog X.w X.K X.mg X.base k x f fd ps sp)(hr:de j X.A)(ha:PA X (e::es) t)(hk:autoParam (k<=j) ra7)(hg:autoParam (Gl X x) ra0)(uu:autoParam ((x == ("__debug__":Str))=false) ra1)(he:autoParam (starEach (e::es) X.env=(false,eval e X.env)::starEach es X.env) ra0)(oo:autoParam ((backTo pos (starEach es X.env)).any (·.1)=false) ra0) :
  PE X (.Call (.Name x p) (e::es) [] pos) (zt sp [] E0 t):=Hi D.ok (hr.mono hk) hg D.m D.kp D.b .nil zC ha uu he oo
end
theorem Rm{x:Str}{T:String}(hm:X.mg x=none)(hv:bootBuiltins x=some (.type T))(hg:autoParam (Gl X x) ra0)(hn:autoParam (x ≠ "__name__") ra1)(hd:autoParam ((x == ("__debug__":Str))=false) ra1):PE X (.Name x pos) (tC (.ty T)):=G4 hg hm hv rfl hn hd
def Kp(t g:Addr)(H H':Hp):Prop:=∀ b o,H b=some o->b≠t->b≠g->H' b=some o
theorem eJ:∀ ns:List Int,PyData.canLayAll0 (ns.map PyData.int)=true
 | []=>rfl
 | n::r=>by
  have h:=eJ r;simp only[aaM,PyData.canLayAll0,PyData.canLay0,h,Bool.and_self]
def Rn:PyData->String
 | .none => "NoneType"
 | .bool _ => "bool"
 | .int _ => "int"
 | .str _ => "str"
 | .list _ => "list"
 | .tuple _ => "tuple"
 | .dict _ => "dict"
theorem DF{K:zn}:∀{d:PyData} {x:V},Rep H d x->kL K H x (.type (Rn d))
 | .none,_,h=>by cases h;exact .dH
 | .bool b,_,h=>by cases h;exact .bl b
 | .int i,_,h=>by cases h;exact .int i
 | .str s,_,h=>by cases h;exact .str s
 | .list ds,_,⟨a,xs,e,h,_⟩=>by subst e;exact .lst h
 | .tuple ds,_,⟨a,xs,e,h,_⟩=>by subst e;exact .tup h
 | .dict _,_,h=>h.elim
noncomputable def Ro(d:PyData)(T:String):Bool:=Rn d == T||(Rn d == "bool"&&T == "int")
theorem HC{K:zn}{T:String}(hT:T = "bool"\/T = "int"\/T = "str"\/T = "list"\/T = "tuple"):∀{d:PyData} {x:V},Rep H d x->PySem.W.kitOne K (.type (Rn d)) (.type T)=some (Ro d T)
 | .none,_,_=>by rcases hT with rfl | rfl | rfl | rfl | rfl<;>rfl
 | .bool b,_,_=>by rcases hT with rfl | rfl | rfl | rfl | rfl<;>rfl
 | .int i,_,_=>by rcases hT with rfl | rfl | rfl | rfl | rfl<;>rfl
 | .str s,_,_=>by rcases hT with rfl | rfl | rfl | rfl | rfl<;>rfl
 | .list ds,_,_=>by rcases hT with rfl | rfl | rfl | rfl | rfl<;>rfl
 | .tuple ds,_,_=>by rcases hT with rfl | rfl | rfl | rfl | rfl<;>rfl
 | .dict _,_,h=>h.elim
section
noncomputable def HE(T:String):List V->Hp->VK->Prop:=fun xs H Q=>∃ x d,xs=[x,.ty T]/\Rep H d x/\Q (.bl (Ro d T)) H
theorem Bn(T:String)(hT:T = "bool"\/T = "int"\/T = "str"\/T = "list"\/T = "tuple"):gb X (.builtin "isinstance") (HE T):=by
 intro pins s Z H xs us Q I rv zi;obtain⟨x,d,e,r,q⟩:=zi;exact uD pins s Z H xs us Q I rv ⟨x,T,.type (Rn d),Ro d T,e,DF r,HC hT r,q⟩
variable {e:Expr}{te:TE}{p pi:Pos}{x:Str}
theorem Ng(T:String)(mi:X.mg "isinstance"=none)(mT:X.mg x=none)(hb:bootBuiltins x=some (.type T))(he:PE X e te)(hT:autoParam (T = "bool"\/T = "int"\/T = "str"\/T = "list"\/T = "tuple") ra9)(gi:autoParam (Gl X "isinstance") ra0)(gT:autoParam (Gl X x) ra0)(hn:autoParam (x ≠ "__name__") ra1)(hd:autoParam ((x == ("__debug__":Str))=false) ra1)(h1:autoParam (starEach [e,.Name x p] X.env=(false,eval e X.env)::starEach [.Name x p] X.env) ra0) :
  PE X (.Call (.Name "isinstance" pi) [e,.Name x p] [] pos) (MG (HE T) (om te (om (tC (.ty T)) rK))) :=
 uw (Bn T hT) gi mi PyProof.Rows.boot_isinstance (nv he (nv (Rm mT hb gT hn hd) xi rfl) h1) @1 @1 h1 rfl
end
end L2
namespace L2
open PySem PySem.Spec PyProof.Rows
variable {tg:Expr}{r2:R2}{op:CmpOp}{T:String}
mutual
noncomputable def Sm:PyData->Prop
 | .list ds=>ds.length < 1000000/\DG ds
 | .tuple ds=>ds.length < 1000000/\DG ds
 | _=>True
noncomputable def DG:wE->Prop
 | []=>True
 | d::ds=>Sm d/\DG ds
end
noncomputable def rX:Expr->Option V
 | .Constant (.str x) _ _=>some (.str x)
 | .Constant (.int i) _ _=>some (.int i)
 | .Constant (.bool b) _ _=>some (.bl b)
 | .Constant .none _ _=>some .dH
 | _=>none
noncomputable def kS:v6->Option (List V)
 | []=>some []
 | e::r=>match rX e,kS r with
  | some v,some vs=>some (v::vs)
  | _,_=>none
def tK(vs:List V):TA:=fun _ H Q=>Q vs H
theorem xA(e:Expr)(es:v6)(env:Env)(h:(rX e).isSome=true):starEach (e::es) env=(false,eval e env)::starEach es env:=by
 cases e with
 | Constant c j pos=>rfl
 | _=>exact absurd h aaK
theorem Bo{X:Cx}{e:Expr}{v:V}(h:rX e=some v):PE X e (tC v):=by
 cases e with
 | Constant c j pos =>
  cases c with
  | str x=>cases h;exact Cw
  | int i=>cases h;exact Cu
  | bool b=>cases h;exact JV
  | none=>cases h;exact Cv
  | _=>exact nomatch h
 | _=>exact nomatch h
theorem qu{X:Cx}:∀{es:v6} {vs:List V},kS es=some vs->PA X es (tK vs)
 | [],vs,h=>by cases h;exact xi
 | e::r,vs,h=>by
  unfold kS at h;cases h1:rX e with
  | none=>rw[h1]at h;cases h
  | some v =>
   cases h2:kS r with
   | none=>rw[h1,h2]at h;cases h
   | some ws =>
    rw[h1,h2]at h;cases h;exact nv (Bo h1) (qu h2) (xA e r X.env (by rw[h1];rfl))
structure SE(X:Cx)(e:Expr)(t:TE):Prop where
 run:PE X e t
structure ST(X:Cx)(e:Expr)(t:TT):Prop where
 run:PT X e t
structure SW(X:Cx)(e:Expr)(t:TT):Prop where
 run:PW X e t
structure SA(X:Cx)(es:v6)(t:TA):Prop where
 run:PA X es t
structure SS(X:Cx)(st:Stmt)(t:TS):Prop where
 run:PS X st t
structure ua(X:Cx)(st:ul)(t:TS):Prop where
 run:zh X st t
structure SG(X:Cx)(e:Expr)(t:TG):Prop where
 run:PG X e t
structure Ux(X:Cx)(e:v6)(t:wF):Prop where
 run:PY X e t
structure SI(X:Cx)(tg e:Expr)(t:TI):Prop where
 run:PI X tg e t
structure SO(X:Cx)(e:Option Expr)(t:TO):Prop where
 run:PO X e t
def noStar:Expr->Bool
 | .Starred _ _=>false
 | _=>true
theorem dh{e:Expr}(es:v6)(env:Env)(h:noStar e=true):starEach (e::es) env=(false,eval e env)::starEach es env:=by
 cases e with
 | Starred _ _=>exact nomatch h
 | _=>rfl
theorem gv{pos:Pos}{env:Env}:∀{es:v6},es.all noStar=true->(backTo pos (starEach es env)).any (·.1)=false
 | [],_=>rfl
 | e::r,h=>by
  rw[abh,aaN]at h;rw[dh r env h.1];have q:=gv (pos:=pos) (env:=env) h.2;unfold backTo at q ⊢;simpa using q
section
variable {X:Cx}{st:Stmt}{rest a b:ul}{t u:TS}{e c l r o i:Expr}{es:v6}{te ta tb tc to ti tl tr:TE}{tt tu:TT}{ts:TA}{pos p pos' apos gD:Pos}{j:Nat}{x:Str}
theorem aw:ua X [] CF:=⟨G8⟩
theorem ae(h1:SS X st t)(h2:ua X rest u):ua X (st::rest) (Mb t u):=⟨CG h1.run h2.run⟩
theorem ai(h1:SS X st t):ua X [st] t:=⟨G9 h1.run⟩
theorem ax(he:SE X e te):SS X (.Return (some e) pos) (Mc te):=⟨Md he.run⟩
theorem eM(he:SE X e te)(hs:autoParam (swapsWith e none pos.line X.env=pure false) ra0):SS X (.Expr e pos) (CH te):=⟨Ha he.run hs⟩
theorem aT(hc:ST X c tt)(ha:ua X a t)(hb:ua X b u):SS X (.If c a b pos) (Me tt t u):=⟨Qx hc.run ha.run hb.run⟩
theorem aC(i:Nat)(hN:X.N.Nodup)(he:SE X e te)(hi:autoParam (X.N[i]?=some x) ra0)(hx:autoParam (Loc X.env.scope x) ra4)(hs:autoParam (swapsWith e (some (.Name x pos')) pos.line X.env=pure false) ra0)(hf:autoParam (X.fn x=true\/X.env.scope.names.lookup x=some .local) ra4):SS X (.Assign [.Name x pos'] e pos) (wW te (nZ i)):=⟨Mm hN hi hx he.run hs hf⟩
theorem zG{g:TG}(he:SE X e te)(hg:SG X tg g)(hs:autoParam (swapsWithSole [tg] e pos.line X.env=pure false) ra0)(hw:autoParam (swappedStores [tg] e X.env=pure none) ra0)(h1:autoParam ((assignEach [tg] X.env).map (·.2)=[assign tg X.env]) ra0):SS X (.Assign [tg] e pos) (wW te g):=⟨Ml he.run hg.run hs hw h1⟩
theorem HF{body:ul}{tb:TS}(hc:ST X c tt)(hb:ua X body tb)(hp:PassesOwn (model X.prog X.w) X.A X.env X.xe:=by exact PassesOwn.never):SS X (.While c body [] pos) (wX tt tb):=⟨CK hp hc.run hb.run⟩
theorem jy{iter:Expr}{body:ul}{wi:TI}{g:TG}{tb:TS}(hi:SI X tg iter wi)(hg:SG X tg g)(hb:ua X body tb)(hp:PassesOwn (model X.prog X.w) X.A X.env X.xe:=by exact PassesOwn.never)(hc:autoParam (X.calm=true) ra0)(hs:autoParam (∀ x,foldedSetIterable iter X.env x=pure x) ra3):SS X (.For tg iter body [] pos) (Mp wi g tb):=⟨Mq hp hc hi.run hg.run hb.run hs⟩
theorem aX(i:Nat)(hN:X.N.Nodup)(hi:autoParam (X.N[i]?=some x) ra0)(hx:autoParam (Loc X.env.scope x) ra4)(hf:autoParam (X.fn x=true\/X.env.scope.names.lookup x=some .local) ra4):SG X (.Name x pos) (nZ i):=⟨Hc hN hi hx hf⟩
theorem zH{t:Hb}(ho:SE X o to)(hi:SE X i ti)(hs:Mf X t)(ha:∀ v,assign (.Subscript o i pos) X.env v=(do
   let ov <- holding [v] (eval o X.env)
   let iv <- holding [v,ov] (eval i X.env)
   standAt pos
   holding [v,ov,iv] (setItem ov iv v)
   release [v,ov,iv] []):=by intro _;rfl):SG X (.Subscript o i pos) (Mi to ti t):=⟨Mj ho.run hi.run hs ha⟩
theorem jd:Ux X [] Mg:=⟨Hd⟩
theorem bS{tg:TG}{Rp:wF}(h1:SG X e tg)(h2:Ux X es Rp)(hs:autoParam ((assignEach (e::es) X.env).map (·.2)=assign e X.env::(assignEach es X.env).map (·.2)) ra0):Ux X (e::es) (CI tg Rp):=⟨CJ h1.run h2.run hs⟩
theorem cX(hl:SE X l tl):SI X tg l (CN X.K tl):=⟨He hl.run⟩
theorem Rq(hl:SE X l tl):SI X tg l (Mn X.K tl):=⟨Mo hl.run⟩
theorem dP(hm:X.mg "range"=none)(ha:SA X [e] ts)(hn:autoParam (noStar e=true) ra0)(hg:autoParam (Gl X "range") ra0):SI X tg (.Call (.Name "range" p) [e] [] pos) (CP ts) :=
 ⟨AW hg hm ha.run (dh [] X.env hn)⟩
theorem J9(k1 k2:SK){elts:v6}{ek:Nat}{Bk:Pos}(hm:X.mg "zip"=none)(ha:SA X [e,c] ts)(hn:autoParam (noStar e=true) ra0)(JX:autoParam (noStar c=true) ra0)(hg:autoParam (Gl X "zip") ra0) :
  SI X (.Tuple elts ek Bk) (.Call (.Name "zip" p) [e,c] [] pos) (Nd X.K k1 k2 ts) :=
 ⟨Nf k1 k2 hg hm ha.run (by rw[dh [c] X.env hn,dh [] X.env JX];rfl) (dh [] X.env JX)⟩
theorem ag:SA X [] rK:=⟨xi⟩
theorem aa(ha:SE X e te)(hr:SA X es ts)(hs:autoParam (noStar e=true) ra0):SA X (e::es) (om te ts):=⟨nv ha.run hr.run (dh es X.env hs)⟩
theorem cz{vs:List V}(h:kS es=some vs):SA X es (tK vs):=⟨qu h⟩
theorem br{k:Nat}(h:SA X es ts):SE X (.Tuple es k pos) (MC ts):=⟨MD h.run⟩
theorem bD(h:SA X es ts):SE X (.List es pos) (CZ ts):=⟨ME h.run⟩
theorem ah(i:Nat)(hN:autoParam (X.N[i]?=some x) ra0)(hv:Ud X.env.scope x:=by first | exact Or.inl rfl | exact Or.inr (Or.inl rfl) | exact Or.inr (Or.inr rfl))(hd:autoParam ((x == ("__debug__":Str))=false) ra1)(AS:autoParam ((x == ("__classdict__":Str))=false) ra1):SE X (.Name x pos) (LX i):=⟨LY hN hv hd AS⟩
theorem af{n:Int}:SE X (.Constant (.int n) j pos) (tC (.int n)):=⟨Cu⟩
theorem kT{k:Bool}:SE X (.Constant (.bool k) j pos) (tC (.bl k)):=⟨JV⟩
theorem cY:SE X (.Constant .none j pos) (tC .dH):=⟨Cv⟩
theorem aj{s:Str}:SE X (.Constant (.str s) j pos) (tC (.str s)):=⟨Cw⟩
theorem Rr{a:Addr}(hm:X.mg x=some (.ref a))(hg:autoParam (Gl X x) ra0)(hd:autoParam ((x == ("__debug__":Str))=false) ra1):SE X (.Name x pos) (tC (.ref a)):=⟨zi hg hm rfl hd⟩
theorem Ka{n:Int}{tk:Tok}(hm:X.mg x=some (.int n tk))(hg:autoParam (Gl X x) ra0)(hd:autoParam ((x == ("__debug__":Str))=false) ra1):SE X (.Name x pos) (tC (.int n)):=⟨zi hg hm ⟨tk,rfl⟩ hd⟩
theorem bb{op:Operator}(ho:iP X (binaryOp op) r2)(ha:SE X l tl)(hb:SE X r tr):SE X (.BinOp l op r pos) (AX r2 tl tr):=⟨QB ho ha.run hb.run⟩
theorem HG{op:UnaryOp}{r1:V->Hp->VK->Prop}(ho:Ul X (unaryOp op) r1)(ha:SE X l tl):SE X (.UnaryOp op l pos) (Um r1 tl):=⟨QC ho ha.run⟩
theorem iD(ho:iP X (compareOp op) r2)(ha:SE X l tl)(hb:SE X r tr)(h1:autoParam (op≠.In) ra1)(h2:autoParam (op≠.NotIn) ra1):SE X (.Compare l [op] [r] pos) (AX r2 tl tr):=⟨zp ho ha.run hb.run (CT r h1 h2)⟩
theorem aA(ho:iP X (compareOp op) r2)(ha:SE X l tl)(hb:SE X r tr)(h1:autoParam (op≠.In) ra1)(h2:autoParam (op≠.NotIn) ra1):ST X (.Compare l [op] [r] pos) (zq (AX r2 tl tr)):=⟨zr ho ha.run hb.run (CT r h1 h2)⟩
theorem Rt(ho:iP X (compareOp op) r2)(ha:SE X l tl)(hb:SE X r tr)(hm:autoParam (behindInMarks op r=false) ra2):SE X (.Compare l [op] [r] pos) (AX r2 tl tr):=⟨zp ho ha.run hb.run hm⟩
theorem pS(ho:iP X (compareOp op) r2)(ha:SE X l tl)(hb:SE X r tr)(hm:autoParam (behindInMarks op r=false) ra2):ST X (.Compare l [op] [r] pos) (zq (AX r2 tl tr)):=⟨zr ho ha.run hb.run hm⟩
theorem zI{k:Nat}(ha:SE X l tl):SE X (.Compare l [.Is] [.Constant .none k pos'] pos) (G5 tl):=⟨LZ (Cz ha.run)⟩
theorem gW{k:Nat}(ha:SE X l tl):ST X (.Compare l [.Is] [.Constant .none k pos'] pos) (tB (G5 tl)):=⟨CA (Cz ha.run)⟩
theorem gE{k:Nat}(ha:SE X l tl):ST X (.Compare l [.IsNot] [.Constant .none k pos'] pos) (tB (Cy tl)):=⟨CA (G6 ha.run)⟩
theorem HH{Mw:CmpOp}{r1:R2}(ho:iP X (compareOp op) r1)(Cs:iP X (compareOp Mw) r2)(ha:SE X l tl)(hb:SE X r tr)(hc:SE X c tc)(hm:autoParam (lastMarks [op,Mw] [r,c]=false) ra2):SE X (.Compare l [op,Mw] [r,c] pos) (xc r1 r2 tl tr tc):=⟨CU ho Cs ha.run hb.run hc.run hm⟩
theorem bJ(ha:ST X e tt):SW X (.BoolOp .And [e] pos) tt:=⟨G7 ha.run⟩
theorem mE(ha:ST X e tt):SW X (.BoolOp .Or [e] pos) tt:=⟨L4 ha.run⟩
theorem w_and(ha:ST X e tt)(hb:SW X (.BoolOp .And (c::es) pos) tu):SW X (.BoolOp .And (e::c::es) pos) (L1 tt tu):=⟨L5 ha.run hb.run⟩
theorem w_or(ha:ST X e tt)(hb:SW X (.BoolOp .Or (c::es) pos) tu):SW X (.BoolOp .Or (e::c::es) pos) (Vq tt tu):=⟨Qu ha.run hb.run⟩
theorem iT(h:SW X e tt):ST X e tt:=⟨h.run.pt⟩
theorem gw(ha:ST X e tt):ST X (.UnaryOp .Not e pos) (L3 tt):=⟨L6 ha.run⟩
theorem kG(h:SE X e te)(he:autoParam (∀ whole,isTrue e X.env whole=(do let v <- whole;standAt e.pos;holding [v] (truthy v))) ra3):ST X e (tB te):=⟨L0 h.run he⟩
theorem uK{op:BoolOp}(h:SE X e te):SE X (.BoolOp op [e] pos) te:=⟨L8 h.run⟩
theorem uL(ha:SE X e te)(hb:SE X (.BoolOp .And (c::es) pos) tb):SE X (.BoolOp .And (e::c::es) pos) (CB te tb):=⟨L9 ha.run hb.run⟩
theorem VZ(ha:SE X e te)(hb:SE X (.BoolOp .Or (c::es) pos) tb):SE X (.BoolOp .Or (e::c::es) pos) (L7 te tb):=⟨Qv ha.run hb.run⟩
theorem Kb(ha:SE X e te):SE X (.UnaryOp .Not e pos) (CC te):=⟨Ma ha.run⟩
theorem rY(hc:ST X c tt)(ha:SE X l tl)(hb:SE X r tr):SE X (.IfExp c l r pos) (Vr tt tl tr):=⟨CD hc.run ha.run hb.run⟩
theorem ak(ha:SE X l tl)(hb:SE X r tr)(hs:autoParam (zz r) ra8):SE X (.Subscript l r pos) (AX (Ut X.K) tl tr):=⟨QQ MM ha.run hb.run hs⟩
theorem Nh(ha:SE X l tl)(hb:SE X r tr)(hs:autoParam (Ba r) ra8):SE X (.Subscript l r pos) (DD X.K X.w tl tr):=⟨HB ha.run hb.run hs⟩
theorem fu:SO X none rN:=⟨Hr⟩
theorem eO(h:SE X e te):SO X (some e) (Dh te):=⟨Hs h.run⟩
theorem jZ{lo hi:Option Expr}{YV YW:TO}{r4:V->v0->v0->Hp->VK->Prop}(hr:QO X r4)(he:SE X e te)(hl:SO X lo YV)(hu:SO X hi YW):SE X (.Subscript e (.Slice lo hi none p) pos) (VC r4 te YV YW):=⟨Di hr he.run hl.run hu.run⟩
theorem aq{k:Nat}{f:Addr}{fd:wT}{ps:wv}{sp:Sp}(D:Dn X.prog X.w X.K X.mg X.base k x f fd ps sp)(hr:de j X.A)(ha:SA X (e::es) ts)(hk:autoParam (k<=j) ra7)(hs:autoParam ((e::es).all noStar=true) ra0)(hg:autoParam (Gl X x) ra0)(uu:autoParam ((x == ("__debug__":Str))=false) ra1):SE X (.Call (.Name x p) (e::es) [] pos) (zt sp [] E0 ts) :=
 ⟨DE D hr ha.run hk hg uu (dh es X.env (by rw[abh,aaN]at hs;exact hs.1)) (gv (by rw[abh,aaN]at hs;exact hs.2))⟩
theorem bE{id:String}{rr:List V->Hp->VK->Prop}(hc:gb X (.builtin id) rr)(hm:X.mg x=none)(hv:bootBuiltins x=some (.builtin id))(ha:SA X (e::es) ts)(hs:autoParam ((e::es).all noStar=true) ra0)(hg:autoParam (Gl X x) ra0)(hn:autoParam (x ≠ "__name__") ra1)(uu:autoParam ((x == ("__debug__":Str))=false) ra1) :
  SE X (.Call (.Name x p) (e::es) [] pos) (MG rr ts) :=
 ⟨uw hc hg hm hv ha.run hn uu (dh es X.env (by rw[abh,aaN]at hs;exact hs.1)) (gv (by rw[abh,aaN]at hs;exact hs.2))⟩
theorem cK{rr:List V->Hp->VK->Prop}(hc:gb X (.type T) rr)(hm:X.mg x=none)(hv:bootBuiltins x=some (.type T))(ha:SA X (e::es) ts)(hs:autoParam ((e::es).all noStar=true) ra0)(hg:autoParam (Gl X x) ra0)(hn:autoParam (x ≠ "__name__") ra1)(uu:autoParam ((x == ("__debug__":Str))=false) ra1) :
  SE X (.Call (.Name x p) (e::es) [] pos) (MG rr ts) :=
 ⟨A6 hc hg hm hv ha.run hn uu (dh es X.env (by rw[abh,aaN]at hs;exact hs.1)) (gv (by rw[abh,aaN]at hs;exact hs.2))⟩
theorem j1{name:Str}{id:String}{rr:V->List V->Hp->VK->Prop}(pa:PlainAttrs T)(slot:Slot T name id)(VG:typeOf (.builtin id)=pure (.type "method_descriptor"))(hm:Us X id rr)(ho:SE X o to)(ha:SA X (e::es) ts)(hs:autoParam ((e::es).all noStar=true) ra0)(Dk:autoParam (attributeBase o name X.env (eval o X.env)=eval o X.env) ra0)(MQ:((backTo gD (starEach (e::es) X.env)).all (fun x=>!x.1)&&(backToKw gD (keywordEach [] X.env)).all (fun x=>x.1.isSome)
   && decide ((e::es).length+([]:List Keyword).length+(if([]:List Keyword).isEmpty then 0 else 1) < 30))=true:=by rfl)(Dl:(apos.endLine == gD.line)=true:=by rfl):SE X (.Call (.Attribute o name apos) (e::es) [] gD) (VF X.K T rr to ts) :=
 ⟨QV pa slot VG hm ho.run ha.run Dk MQ Dl (dh es X.env (by rw[abh,aaN]at hs;exact hs.1)) (gv (by rw[abh,aaN]at hs;exact hs.2))⟩
theorem zJ(mi:X.mg "isinstance"=none)(mT:X.mg x=none)(hb:bootBuiltins x=some (.type T))(he:SE X e te)(hT:autoParam (T = "bool"\/T = "int"\/T = "str"\/T = "list"\/T = "tuple") ra9)(h1:autoParam (noStar e=true) ra0)(gi:autoParam (Gl X "isinstance") ra0)(gT:autoParam (Gl X x) ra0)(hn:autoParam (x ≠ "__name__") ra1)(hd:autoParam ((x == ("__debug__":Str))=false) ra1) :
  SE X (.Call (.Name "isinstance" pos') [e,.Name x p] [] pos) (MG (HE T) (om te (om (tC (.ty T)) rK))):=⟨Ng T mi mT hb he.run hT gi gT hn hd (dh [.Name x p] X.env h1)⟩
end
theorem cR.Ni{P:u8}{w:World}{K:zn}{mg:xL}{base:Heap}{x qual:Str}{st:Stmt}{f:Addr}{fd:wT}{N ps:wv}{k:Nat}{sp:Sp}(F:cR K x qual st f fd)(S:az N ps (defScope st))(len:∀ vs H Q E,sp vs H Q E->vs.length=ps.length)(eG:∀(bB:Value) (A:tx) (outer:List Env) (s:Shared) (H:Hp) (vs:List V) (Q:VK) (E:XK),de k (A.deeper (envOfC qual (defScope st) s.heap.objs.size f bB))->sp vs H Q E ->
   ∃ t,ua (gC df P w K mg base N qual (defScope st) f bB A outer s H E).AU (defBody st) t/\t { nx:=fun _ H'=>Q .dH H',rt:=Q } (start N vs) H):ba P w K mg base df (k+1) f fd ps sp :=
 F.ok S len fun bB A outer s H vs Q E hr h=>by
  obtain⟨t,h1,h2⟩:=eG bB A outer s H vs Q E hr h;exact⟨t,h1.run,h2⟩
end L2
namespace L2
open PySem PySem.Spec PyProof.Rows
variable {env:Env}{scope:Scope}{cells:List (Str×Addr)}{x:Str}{c:Addr}{s:Shared}{X:Cx}{N':wv}{ix:List (Option Nat)}{pins:yp}{H H':Hp}{elt iter:Expr}{ifs:v6}{pos:Pos}{tt:TT}{g:TG}{te:TE}{A B p:Prop}
noncomputable def je(cells:List (Str×Addr)):List (Str×NameKind)->List (Str×Addr)->List (Str×Addr)
 | [],cs=>cs
 | (n,k)::r,cs=>je cells r (if k == .free then(match cells.lookup n with | some a=>(n,a)::cs | none=>cs)else cs)
theorem qv{env:Env}:∀(ns:List (Str×NameKind)) (cs:List (Str×Addr)),(∀ y∈ns,y.2=.free->∃ c,env.cells.lookup y.1=some c) ->
  (forIn ns cs fun x r=>match x with | (name,kind)=>if(kind == NameKind.free)=true then do let a <- cellOf env name;pure (ForInStep.yield ((name,a)::r))else pure (ForInStep.yield r))=(pure (je env.cells ns cs):Sem (List (Str×Addr)))
 | [],cs,_=>rfl
 | (n,k)::r,cs,h=>by
  have ih:=fun cs'=>qv (env:=env) r cs' fun y hy=>h y (aaI _ hy);rw[adX];cases hk:k == NameKind.free with
  | false =>
   have e:je env.cells ((n,k)::r) cs=je env.cells r cs:=by simp[je,hk]
   rw[e,<- ih cs];simp[hk]
  | true =>
   have DH:k=.free:=by simpa using hk
   obtain⟨c,hc⟩:=h (n,k) aaP DH;have Ct:env.cells.lookup n=some c:=hc;have e:je env.cells ((n,k)::r) cs=je env.cells r ((n,c)::cs):=by simp[je,hk,Ct]
   rw[e,<- ih ((n,c)::cs)];have hco:cellOf env n=pure c:=by unfold cellOf;rw[Ct]
   simp[hk,hco]
theorem oE(h:∀ y∈scope.names,y.2=.free->∃ c,env.cells.lookup y.1=some c):closureFor scope env=pure (je env.cells scope.names []):=by
 unfold closureFor;have:=qv (env:=env) scope.names [] h;simp only at this ⊢;rw[this]
 rfl
theorem rZ{cells:List (Str×Addr)}{x:Str}{c:Addr}:∀(ns:List (Str×NameKind)) (cs:List (Str×Addr)),(∀ z d,cs.lookup z=some d->cells.lookup z=some d)->(je cells ns cs).lookup x=some c->cells.lookup x=some c
 | [],cs,h,e=>h x c e
 | (n,k)::r,cs,h,e=>by
  refine rZ r _ (fun z d=>?_) e;split
  .split
   .rename_i a ha;intro q;rw[abj]at q;split at q
    .rename_i hz;have:z=n:=by simpa using hz
     subst this;cases q;exact ha
    .exact h z d q
   .exact h z d
  .exact h z d
theorem nB{cells:List (Str×Addr)}{x:Str}:∀(ns:List (Str×NameKind)) (cs:List (Str×Addr)),((cs.lookup x).isSome=true\/((x,NameKind.free)∈ns/\(cells.lookup x).isSome=true))->((je cells ns cs).lookup x).isSome=true
 | [],cs,h=>by
  rcases h with h | ⟨h,_⟩
  .exact h
  .cases h
 | (n,k)::r,cs,h=>by
  refine nB r _ ?_;have keep:(cs.lookup x).isSome=true->((if k == .free then(match cells.lookup n with | some a=>(n,a)::cs | none=>cs)else cs).lookup x).isSome=true:=fun q=>by
   split
   .split
    .rw[abj];split
     .rfl
     .exact q
    .exact q
   .exact q
  rcases h with h | ⟨h,hc⟩
  .exact .inl (keep h)
  .rcases aaA.mp h with e | e
   .injection e with e1 e2
    subst e1;subst e2;left;cases q:cells.lookup x with
    | none=>rw[q]at hc;cases hc
    | some a=>simp
   .exact .inr ⟨e,hc⟩
theorem kU{env:Env}{x:Str}{k':NameKind}:∀{names:List (Str×NameKind)},(names.map fun(n,k)=>if(k == NameKind.free&&env.scope.kind == .function&&env.kindOf n == some .cell) then(n,NameKind.cell) else(n,k)).lookup x=some k' ->
  ∃ k,(x,k)∈names/\(k'=k\/(k=.free/\k'=.cell))
 | [],h=>by simp at h
 | (n,k)::r,h=>by
  have ih:=@kU env x k' r;rw[aaM]at h
  by_cases hc:(k == NameKind.free&&env.scope.kind == .function&&env.kindOf n == some .cell)=true
  .simp only[hc,acT,abj]at h;split at h
   .rename_i hz;have:x=n:=by simpa using hz
    subst this;cases h;have hk:k=.free:=by
     rw[aaN,aaN]at hc;simpa using hc.1.1
    exact⟨k,aaP,.inr ⟨hk,rfl⟩⟩
   .obtain⟨k2,m,q⟩:=ih h;exact⟨k2,aaI _ m,q⟩
  .simp only[hc,acV,adN,abj]at h;split at h
   .rename_i hz;have:x=n:=by simpa using hz
    subst this;cases h;exact⟨_,aaP,.inl rfl⟩
   .obtain⟨k2,m,q⟩:=ih h;exact⟨k2,aaI _ m,q⟩
theorem mem_of_lookup{x:Str}{k:NameKind}:∀(l:List (Str×NameKind)),l.lookup x=some k->(x,k)∈l
 | [],q=>by cases q
 | (n,k2)::r,q=>by
  rw[abj]at q;split at q
  .rename_i hz;have:x=n:=by simpa using hz
   subst this;cases q;exact aaP
  .exact aaI _ (mem_of_lookup r q)
theorem lQ{x:Str}{c:Addr}:∀(names:List (Str×NameKind)) (n:Nat) (acc:List (Str×Addr)),(cellsFrom n names acc).lookup x=some c->acc.lookup x=some c\/(n<=c/\(x,NameKind.cell)∈names)
 | [],_,_,h=>.inl h
 | (y,k)::r,n,acc,h=>by
  unfold cellsFrom at h;split at h
  .rename_i hk;have DH:k=.cell:=by simpa using hk
   rcases lQ r _ _ h with q | ⟨q,m⟩
   .rw[abj]at q;split at q
    .rename_i hz;have:x=y:=by simpa using hz
     subst this;subst DH;cases q;exact .inr ⟨aaC _,aaP⟩
    .exact .inl q
   .exact .inr ⟨aaE (abI _) q,aaI _ m⟩
  .exact(lQ r _ _ h).imp id fun⟨a,b⟩=>⟨a,aaI _ b⟩
theorem jz{x:Str}:∀(names:List (Str×NameKind)) (n:Nat) (acc:List (Str×Addr)),(x,NameKind.cell) ∉ names->(cellsFrom n names acc).lookup x=acc.lookup x
 | [],_,_,_=>rfl
 | (y,k)::r,n,acc,h=>by
  have hr:(x,NameKind.cell) ∉ r:=fun z=>h (aaI _ z);unfold cellsFrom;split
  .rename_i hk;have DH:k=.cell:=by simpa using hk
   rw[jz r _ _ hr,abj];split
   .rename_i hz;have:x=y:=by simpa using hz
    subst this;subst DH;exact absurd aaP h
   .rfl
  .exact jz r _ _ hr
theorem xB{x:Str}:∀(names:List (Str×NameKind)) (n:Nat) (acc:List (Str×Addr)),((acc.lookup x).isSome=true\/(x,NameKind.cell)∈names)->((cellsFrom n names acc).lookup x).isSome=true
 | [],_,_,h=>h.elim id fun z=>nomatch z
 | (y,k)::r,n,acc,h=>by
  unfold cellsFrom;split
  .rename_i hk;refine xB r _ _ ?_;rcases h with h | h
   .left;rw[abj];split
    .rfl
    .exact h
   .rcases aaA.mp h with e | e
    .injection e with e1 _
     left;rw[e1,abj,adQ]
     rfl
    .exact .inr e
  .rename_i hk;refine xB r _ _ (h.imp id fun z=>?_);rcases aaA.mp z with e | e
   .injection e with _ e2
    rw[<- e2]at hk;exact absurd rfl hk
   .exact e
theorem xC{x:Str}{c:Addr}:∀(names:List (Str×NameKind)) (n:Nat) (acc:List (Str×Addr)),((x,NameKind.cell)∈names\/∀ d,acc.lookup x=some d->n<=d)->(cellsFrom n names acc).lookup x=some c->n<=c
 | [],_,_,h,e=>h.elim (fun z=>nomatch z) fun z=>z c e
 | (y,k)::r,n,acc,h,e=>by
  unfold cellsFrom at e;split at e
  .rename_i hk
   by_cases hm:(x,NameKind.cell)∈r
   .exact aaE (abI _) (xC r _ _ (.inl hm) e)
   .rw[jz r _ _ hm,abj]at e;split at e
    .cases e;exact aaC _
    .rename_i hz;rcases h with h | h
     .rcases aaA.mp h with q | q
      .injection q with q1 _
       rw[q1,adQ]at hz;cases hz
      .exact absurd q hm
     .exact h c e
  .rename_i hk;refine xC r _ _ (h.imp (fun z=>?_) id) e;rcases aaA.mp z with q | q
   .injection q with _ q2
    rw[<- q2]at hk;exact absurd rfl hk
   .exact q
theorem xD{n0:Nat}:∀(names:List (Str×NameKind)) (n:Nat) (acc:List (Str×Addr)),(∀ p∈acc,p.2 < n)->(∀ p∈acc,∀ q∈acc,n0<=p.2->p.2=q.2->p.1=q.1)->∀ p∈cellsFrom n names acc,∀ q∈cellsFrom n names acc,n0<=p.2->p.2=q.2->p.1=q.1
 | [],_,_,_,h=>h
 | (y,k)::r,n,acc,hl,h=>by
  unfold cellsFrom;split
  .refine xD r (n+1) ((y,n)::acc) (fun p hp=>?_) fun p hp q hq h0 he=>?_
   .rcases aaA.mp hp with e | e
    .rw[e];exact ab6 _
    .exact adE (hl p e)
   .rcases aaA.mp hp with e | e<;>rcases aaA.mp hq with e' | e'
    .rw[e,e']
    .rw[e]at he;exact absurd (hl q e') (by rw[<- he];exact abm _)
    .rw[e']at he;exact absurd (hl p e) (by rw[he];exact abm _)
    .exact h p e q e' h0 he
  .exact xD r n acc hl h
theorem r8:∀(names:List (Str×NameKind)) (h:Heap) (acc:List (Str×Addr)) (p:Str×Addr),p∈cellsFrom h.objs.size names acc->p∈acc\/(pushCells h names).IsCell p.2 none
 | [],_,_,_,m=>.inl m
 | (y,k)::r,h,acc,p,m=>by
  unfold cellsFrom at m;unfold pushCells;split at m
  .rename_i hk;rw[aaO hk];have:=r8 r (h.push { cls:=.type "cell",data:=.cell none }) ((y,h.objs.size)::acc) p (by rw[abu];exact m);rcases this with q | q
   .rcases aaA.mp q with e | e
    .rw[e];exact .inr ⟨_,pushCells_keeps r _ _ _ (aaG _ rfl),rfl⟩
    .exact .inl e
   .exact .inr q
  .rename_i hk;rw[aaD hk];exact r8 r h acc p m
theorem nE{cells:List (Str×Addr)}{p:Str×Addr}:∀(ns:List (Str×NameKind)) (cs:List (Str×Addr)),p∈je cells ns cs->p∈cs\/cells.lookup p.1=some p.2
 | [],_,h=>.inl h
 | (n,k)::r,cs,h=>by
  unfold je at h;rcases nE r _ h with q | q
  .split at q
   .split at q
    .rename_i a ha;rcases aaA.mp q with e | e
     .rw[e];exact .inr ha
     .exact .inl e
    .exact .inl q
   .exact .inl q
  .exact .inr q
theorem mem_lookup{x:Str}{c:Addr}:∀{l:List (Str×Addr)},l.lookup x=some c->(x,c)∈l
 | [],q=>by cases q
 | (n,k2)::r,q=>by
  rw[abj]at q;split at q
  .rename_i hz;have:x=n:=by simpa using hz
   subst this;cases q;exact aaP
  .exact aaI _ (mem_lookup q)
theorem xE{M:Model}{A:tx}{E:xz}{globals:Addr}{closure:List (Str×Addr)}{qual:Str}{Q:Env->Shared->Prop}(hQ:∀ h',h'=pushCells (s.heap.push { cls:=.type "dict",data:=.dict #[] }) scope.names->h'.Ns s.heap.objs.size (fun _=>none) ->
   Q (newEnv scope s.heap.objs.size globals (cellsFrom (s.heap.objs.size+1) scope.names closure) qual none .none (some env) builtinsNs) { s with heap:=h' }) :
  wpAny M A (newFunctionEnv scope globals closure [] qual none .none (some env)) Q E s:=by
 simp only[newFunctionEnv,Option.isSome_some,acT];refine aaw (wpAny_alloc ?_);refine aaw (wpAny_layCells _ (fun name kind cells=>by cases hkc:kind == NameKind.cell<;>simp[hkc]) _ _ _ _ ?_);rw[show({ s with heap:=s.heap.push { cls:=.type "dict",data:=.dict #[] } }:Shared).heap.objs.size=s.heap.objs.size+1 from abu ..];refine aaw ?_;rw[ad5];exact aay (aay (hQ _ rfl ((Heap.Ns.new s.heap (.type "dict")).keeps (pushCells_keeps _ _))))
noncomputable def xF(X:Cx)(scope:Scope)(C:Addr):List (Str×Addr):=cellsFrom (C+1) scope.names (je X.env.cells scope.names [])
noncomputable def jf(X:Cx)(scope:Scope)(N':wv)(bg:Shared)(bG:Hp)(C:Addr)(ex:ww):Cx :=
 { X with N:=N',bg:=bg,bG:=bG,env:=compEnvC scope (xF X scope C) C X.env,outer:=X.stack,stack:=X.stack,ex:=ex,fn:=fun x=>scope.names.lookup x == some .cell,calm:=true,pn:=[],xe:=fun _ _=>False }
def blk(ix:List (Option Nat))(Z:St):St:=ix.map fun o=>match o with | none=>none | some j=>(Z[j]?).join
structure iE(X:Cx)(scope:Scope)(N':wv)(ix:List (Option Nat)):Prop where
 kind:scope.kind=.function
 cel:scope.names.all (fun y=>y.2 != .cell||scope.names.lookup y.1 == some .cell)=true
 free:scope.names.all (fun y=>y.2 != .free||(X.env.scope.names.lookup y.1 == some .cell||X.env.scope.names.lookup y.1 == some .free))=true
 loc:scope.names.all (fun y=>y.2 != .local||scope.names.lookup y.1 == some .local)=true
 len:N'.length=ix.length
 ok:(N'.zip ix).all (fun p=>match p.2 with | none=>true | some j=>X.N[j]? == some p.1&&scope.names.lookup p.1 == some .free&&(X.env.scope.names.lookup p.1 == some .cell||X.env.scope.names.lookup p.1 == some .free))=true
section
variable {Z:St}{bw s₃:Shared}{fp:ww}{m:xL}{D C:Addr}
theorem iE.has(B:iE X scope N' ix)(ok:X.Ok):∀ y∈scope.names,y.2=.free->∃ c,X.env.cells.lookup y.1=some c:=fun y hy e=>by
 have:=(abH.mp B.free) y hy;rw[e]at this;simp at this;rcases this with q | q
 .exact ok.has y.1 (.inl q)
 .exact ok.has y.1 (.inr q)
theorem iE.Kd(B:iE X scope N' ix)(h:scope.names.lookup x=some .free):(x,NameKind.cell) ∉ scope.names:=fun m=>by
 have:=(abH.mp B.cel) _ m;simp[h]at this
theorem iE.names(B:iE X scope N' ix):∀ y∈scope.names,y.2=.local->scope.names.lookup y.1=some .local:=fun y hy e=>by
 have:=(abH.mp B.loc) y hy;rw[e]at this;simpa using this
theorem Inv.block(I:Inv X pins Z H bw)(B:iE X scope N' ix)(hc:X.calm=true)(HI:∀ b∈fp,kJ X pins H b)(hfo:∀ b∈fp,∃ o,bw.heap.get? b=some o)(e3:s₃.os=bw.os)(hD:D=bw.heap.objs.size)(k3:∀ b o,bw.heap.get? b=some o->s₃.heap.get? b=some o)(hC:C=s₃.heap.objs.size)(Ke:D < C)(Uy:bw.heap.objs.size<=s₃.heap.objs.size)(eo:s.os=bw.os)(eg:s.gens=bw.gens)(k4:∀ b o,s₃.heap.get? b=some o->s.heap.get? b=some o)(hn:s.heap.Ns C m)(V0:∀ p∈xF X scope C,p∈je X.env.cells scope.names []\/s.heap.IsCell p.2 none):Inv (jf X scope N' s₃ H C (D::fp)) [] (blk ix Z) H s:=by
 have iM:=I.lt;have hD':(D:Nat)=bw.heap.objs.size:=hD;have Ru:(C:Nat)=s₃.heap.objs.size:=hC;have Rv:∀ x c,(je X.env.cells scope.names []).lookup x=some c->X.env.cells.lookup x=some c:=fun x c e=>rZ _ _ (fun z d q=>by cases q) e;have oF:∀ x c,X.env.cells.lookup x=some c->c < bw.heap.objs.size:=fun x c e=>let ⟨v,q⟩:=I.cell x c e;q.lt;have HJ:∀ b∈fp,b < bw.heap.objs.size:=fun b hb=>let ⟨o,q⟩:=hfo b hb;aaF q;have P7:bw.heap.objs.size<=C:=aaE Uy (acs Ru.symm);have lR:∀ x c,(xF X scope C).lookup x=some c->X.env.cells.lookup x=some c\/(C+1<=c/\s.heap.IsCell c none):=fun x c e=>by
  rcases lQ _ _ _ e with q | ⟨q,_⟩
  .exact .inl (Rv x c q)
  .rcases V0 _ (mem_lookup e)with z | z
   .exfalso;have iM:∀ p∈je X.env.cells scope.names [],p.2 < bw.heap.objs.size:=fun p hp=>by
     rcases nE _ _ hp with w | w
     .cases w
     .exact oF p.1 p.2 w
    exact abm _ (aaS (iM _ z) (aaE P7 (aaE (abI _) q)))
   .exact .inr ⟨q,z⟩
 have V5:∀ x y c,(xF X scope C).lookup x=some c->(xF X scope C).lookup y=some c->x=y:=fun x y c e1 e2=>by
  rcases lR x c e1 with q | ⟨q,_⟩
  .rcases lR y c e2 with z | ⟨z,_⟩
   .exact I.ok.inj x y c q z
   .exact absurd (oF x c q) (Nat.not_lt_of_le (aaE P7 (aaE (abI _) z)))
  .refine xD (n0:=C+1) scope.names (C+1) _ (fun p hp=>?_) (fun p hp _ _ h0 _=>?_) (x,c) (mem_lookup e1) (y,c) (mem_lookup e2) q rfl
   .rcases nE _ _ hp with w | w
    .cases w
    .exact aaS (oF p.1 p.2 w) (aaE P7 (abI _))
   .rcases nE _ _ hp with w | w
    .cases w
    .exact absurd (oF p.1 p.2 w) (Nat.not_lt_of_le (aaE P7 (aaE (abI _) h0)))
 have nD:H D=none:=I.cu.fresh (acs hD'.symm);have nC:H C=none:=I.cu.fresh (aaE Uy (acs Ru.symm));have Rx:s₃.heap.FunFrames X.base X.stack:=by
  have all:∀(l:List Env),bw.heap.FunFrames X.base l->s₃.heap.FunFrames X.base l:=by
   intro l;induction l with
   | nil=>intro _;trivial
   | cons env r ih =>
    intro hl;obtain⟨hk,⟨L,o,hf,hn,ho,hd⟩,hr⟩:=hl;exact⟨hk,⟨L,o,hf,hn,k3 L o ho,hd⟩,ih hr⟩
  exact all _ I.stack
 have V6:∀ b∈iB X.stack,b < bw.heap.objs.size:=fun b hb=>let ⟨_,o,ho,_⟩:=I.stack.mem hb;aaF ho;refine⟨⟨I.ok.mod,B.kind,I.ok.glob,I.ok.blt,acs Ru.symm,V5,fun x hx=>?_,fun x c q e=>?_,fun _=>I.ok.hd hc,I.ok.frames,.inl rfl,fun b hb=>?_,fun b o e=>?_,?_,fun b o e hb=>?_,fun b hb=>?_,Rx,I.rF⟩,
  eo.trans e3.symm,by rw[eg];exact I.bare,Un.kept k4,⟨m,hn,fun i x v e1 e2 e3=>?_⟩,fun x c e=>?_,nC,fun x c e=>(lR x c e).elim (I.iQ x c) fun z=>I.cu.fresh (aaE P7 (aaE (abI _) z.1)),fun p hp=>(nomatch hp),I.cu.kept fun b o e=>k4 b o (k3 b o e),?_⟩
 .have fr:(x,NameKind.free)∈scope.names\/(x,NameKind.cell)∈scope.names:=by
   rcases hx with q | q
   .obtain⟨k,hm,q⟩:=kU q;rcases q with q | ⟨q,_⟩
    .rw[<- q]at hm;exact .inr hm
    .rw[q]at hm;exact .inl hm
   .left;obtain⟨k,hm,q⟩:=kU q;rcases q with q | ⟨_,q⟩
    .rw[<- q]at hm;exact hm
    .cases q
  refine abJ.mp (xB scope.names (C+1) _ (fr.imp (fun fr=>?_) id));obtain⟨c,q⟩:=B.has I.ok _ fr rfl;exact nB (cells:=X.env.cells) (x:=x) scope.names [] (.inr ⟨fr,by rw[q];rfl⟩)
 .have q':scope.names.lookup x=some .cell:=by simpa [jf] using q
  have:=xC scope.names (C+1) _ (.inl (mem_of_lookup _ q')) e;show s₃.heap.objs.size<=c;exact aaE (acs Ru.symm) (aaE (abI _) this)
 .rcases aaA.mp hb with e | hb
  .refine⟨by rw[e];exact aa6 Ke,fun x c q z=>?_⟩;rcases lR x c q with w | ⟨w,_⟩
   .have l:=oF x c w;rw[z,e,hD]at l;exact abm _ l
   .rw[z,e]at w;exact abm _ (aaS Ke (aaE (abI _) w))
  .have l:=HJ b hb;refine⟨aa6 (aaS l (aaE Uy (acs Ru.symm))),fun x c q z=>?_⟩;rcases lR x c q with w | ⟨w,_⟩
   .exact(HI b hb).2.2.2.2.1 x c w z
   .rw[z]at w;exact abm _ (aaS l (aaE P7 (aaE (abI _) w)))
 .exact⟨k3 b o (I.bs b o e).1,(I.bs b o e).2⟩
 .exact aaE I.ok.JQ (aaE I.sz Uy)
 .rcases aaA.mp hb with z | hb
  .have l:=aaF (I.bk b o e);rw[z,hD]at l;exact abm _ l
  .rcases (HI b hb).2.2.2.1 with q | q
   .exact I.ok.Cq b o e q
   .exact abm _ (aaS (aaF (I.ok.bs b o e).1) q)
 .rcases aaA.mp hb with z | hb
  .intro q;have l:=V6 b q;rw[z,hD]at l;exact abm _ l
  .intro q;rcases aaA.mp (I.wV b q)with z | z
   .exact(HI b hb).2.1 z
   .exact(HI b hb).2.2.1 z
 ·-- Qz is Ry
  have hi:∃ o,ix[i]?=some o/\(match o with | none=>none | some j=>(Z[j]?).join)=some v:=by
   unfold blk at e2;rw[aaz]at e2;cases q:ix[i]? with
   | none=>rw[q]at e2;cases e2
   | some o=>rw[q]at e2;exact⟨o,rfl,abb e2⟩
  obtain⟨o,ho,hv⟩:=hi;cases o with
  | none=>cases hv
  | some j =>
   have hz:(N'.zip ix)[i]?=some (x,some j):=by
    rw[abD];exact⟨e1,ho⟩
   have:=(abH.mp B.ok) _ (abQ hz);simp only[aaN,acp,Bool.or_eq_true]at this;obtain⟨⟨a1,a2⟩,a3⟩:=this;have hs:Z[j]?=some (some v):=by
    replace hv:(Z[j]?).join=some v:=hv;cases q:Z[j]? with
    | none=>rw[q]at hv;cases hv
    | some y=>rw[q]at hv;exact ab4 some hv
   obtain⟨mo,VB,Uv⟩:=I.loc;obtain⟨u,ru,lu⟩:=Uv j x v a1 hs (a3.elim (fun a=>.inr (.inl a)) (fun a=>.inr (.inr a)));refine⟨u,ru,.inr ⟨?_,?_⟩⟩
   .have hm:∃ k,(relabel scope X.env).names.lookup x=some k:=by
     rcases e3 with q | q | q<;>exact⟨_,q⟩
    obtain⟨k,hk⟩:=hm;obtain⟨k2,mem,q⟩:=kU (env:=X.env) hk;rcases e3 with z | z | z
    ·-- local: no
     have z':(relabel scope X.env).names.lookup x=some .local:=z;rw[hk]at z';cases z';rcases q with q | ⟨_,q⟩
     .subst q;have:=B.names _ mem rfl;rw[show scope.names.lookup x=some .free from a2]at this;cases this
     .cases q
    .exact .inl z
    .exact .inr z
   .rcases lu with⟨q,_⟩ | ⟨_,c,Kf,Cj⟩
    .have q':X.env.scope.names.lookup x=some .local:=q;rcases a3 with a | a<;>(rw[a]at q';cases q')
    .obtain⟨c',Ct⟩:=abJ.mp (nB (cells:=X.env.cells) (x:=x) scope.names [] (.inr ⟨mem_of_lookup _ a2,by rw[Kf];rfl⟩));have:=Rv x c' Ct;rw[Kf]at this;cases this;obtain⟨ob,Kg,kO⟩:=Cj;exact⟨c,(jz _ _ _ (B.Kd a2)).trans Ct,ob,k4 _ _ (k3 _ _ Kg),kO⟩
 .rcases lR x c e with w | ⟨_,w⟩
  .obtain⟨v,ob,Kg,kO⟩:=I.cell x c w;exact⟨v,ob,k4 _ _ (k3 _ _ Kg),kO⟩
  .exact⟨none,w⟩
 .show(blk ix Z).length=N'.length;unfold blk;rw[aav,B.len]
end
theorem Bp{prog:u8}{w:World}{A:tx}{R:Result->Shared->Prop}{target:Expr}{it acc:Value}(I:Nat->Shared->Prop)(turn:∀ n s,I n s->wpAny (model prog w) A (pyNext it) (fun r bL=>match r with
   | none=>R (.ok .next) bL
   | some v=>wpAny (model prog w) A (letOwnedTupleGo target it v) (fun _ Kh=>wpAny (model prog w) A (assign target env v) (fun _ bw =>
     wpAny (model prog w) A (forIn ifs true fun c r=>if r=true then do let ok <- isTrue c env (eval c env);pure (ForInStep.yield ok)else pure (ForInStep.yield r)) (fun ok s₃ =>
      if ok=true then wpAny (model prog w) A (eval elt env) (fun x HK =>
       wpAny (model prog w) A (call (.builtin "list.append") [acc,x]) (fun _ Rz=>∃ m,m < n/\I m Rz) (fun _ _=>False) HK) (fun _ _=>False) s₃
      else ∃ m,m < n/\I m s₃) (fun _ _=>False) bw) (fun _ _=>False) Kh) (fun _ _=>False) bL) (fun _ _=>False) s)(n:Nat)(h:I n s) :
  codeAny (model prog w) A (.compLoop (.ListComp elt [⟨target,iter,ifs,0⟩] scope pos) 0 it acc env) R s:=by
 refine codeAny_loop rfl I (fun n s hI=>?_) n h;show wpAny _ A ((compTurn (.ListComp elt [⟨target,iter,ifs,0⟩] scope pos) 0 it acc env).onRaise (fun x=>do noteFrame x env;theTreesLotGoes x)) _ _ s;refine wpAny_noted ?_;rw[compTurn_list];refine aaw (adM (aaw (abP (turn n s hI) (fun r bL gr=>?_) fun _ _ h'=>h'.elim)));cases r with
 | none=>exact aay gr
 | some v =>
  refine aaw (abP gr (fun _ Kh gr=>?_) fun _ _ h'=>h'.elim);refine aaw (abP gr (fun _ bw i9=>aaw (abP i9 (fun ok s₃ oq=>?_) fun _ _ h'=>h'.elim)) fun _ _ h'=>h'.elim);cases ok with
  | false=>exact aay ⟨rfl,oq⟩
  | true =>
   exact aaw (aaw (abP oq (fun x HK Dt=>aaw (abP Dt (fun _ Rz iS=>aay (aay ⟨rfl,iS⟩)) fun _ _ h'=>h'.elim)) fun _ _ h'=>h'.elim))
def Nj(X:Cx)(ifs:v6)(tt:TT):Prop :=
 ∀(pins:yp) (s:Shared) (Z:St) (H:Hp) (Q:Bool->Hp->Prop),Inv X pins Z H s->tt Z H Q ->
  wpAny (model X.prog X.w) X.A (forIn ifs true fun c r=>if r=true then do let ok <- isTrue c X.env (eval c X.env);pure (ForInStep.yield ok)else pure (ForInStep.yield r)) (TP X pins Z Q) X.xe s
def Nk:TT:=fun _ H Q=>Q true H
theorem HL:Nj X [] Nk:=fun pins s Z H Q I h=>wpAny_tests_nil ⟨H,I,h⟩
theorem HN{c:Expr}(h:PT X c tt):Nj X [c] tt:=fun pins s Z H Q I q=>wpAny_tests_one (h pins s Z H Q I q)
def Ki(am:It)(g:TG)(tt:TT)(te:TE)(bH:St)(H:Hp)(Q:List V->Hp->Prop):Prop :=
 ∃ W:Nat->Nat->List V->Hp->Prop,(∃ m,W 0 m [] H)/\∀ i m ys H,W i m ys H ->
  (am.stop i H/\Q ys H)\/(am.go i H/\ys.length < sizeLine/\∃(N:V->Hp->Prop) (M:Hp->Prop),(∀ y H',N y H'->∃ m',m' < m/\W (i+1) m' (ys++[y]) H')/\(∀ H',M H'->∃ m',m' < m/\W (i+1) m' ys H') /\
   ∀ x H',am.CL i H x H'->g x bH H' fun Ci H2=>tt Ci H2 fun b H3=>if b=true then te Ci H3 N else M H3)
def uM(wi:TI)(g:TG)(tt:TT)(te:TE)(ix:List (Option Nat)):TE:=fun Z H Q =>
 wi Z H fun am H1=>Ki am g tt te (blk ix Z) H1 fun ys H2=>∀ D,H2 D=none->Q (.ref D) (upd H2 D (.lst ys))
theorem iE.Nl{Z:St}(B:iE X scope N' ix)(I:Inv X pins Z H s){i:Nat}{v:V}(e1:N'[i]?=some x)(e2:(blk ix Z)[i]?=some (some v)) :
  ∃ u c,RelV v u/\(∀ n,(cellsFrom n scope.names (je X.env.cells scope.names [])).lookup x=some c)/\X.env.cells.lookup x=some c/\s.heap.IsCell c (some u)/\(relabel scope X.env).names.lookup x≠some .local:=by
 have hi:∃ o,ix[i]?=some o/\(match o with | none=>none | some j=>(Z[j]?).join)=some v:=by
  unfold blk at e2;rw[aaz]at e2;cases q:ix[i]? with
  | none=>rw[q]at e2;cases e2
  | some o=>rw[q]at e2;exact⟨o,rfl,abb e2⟩
 obtain⟨o,ho,hv⟩:=hi;cases o with
 | none=>cases hv
 | some j =>
  have hz:(N'.zip ix)[i]?=some (x,some j):=by
   rw[abD];exact⟨e1,ho⟩
  have:=(abH.mp B.ok) _ (abQ hz);simp only[aaN,acp,Bool.or_eq_true]at this;obtain⟨⟨a1,a2⟩,a3⟩:=this;have hs:Z[j]?=some (some v):=by
   replace hv:(Z[j]?).join=some v:=hv;cases q:Z[j]? with
   | none=>rw[q]at hv;cases hv
   | some y=>rw[q]at hv;exact ab4 some hv
  obtain⟨mo,VB,Uv⟩:=I.loc;obtain⟨u,ru,lu⟩:=Uv j x v a1 hs (a3.elim (fun a=>.inr (.inl a)) (fun a=>.inr (.inr a)));rcases lu with⟨q,_⟩ | ⟨_,c,Kf,Cj⟩
  .have q':X.env.scope.names.lookup x=some .local:=q;rcases a3 with a | a<;>(rw[a]at q';cases q')
  .obtain⟨c',Ct⟩:=abJ.mp (nB (cells:=X.env.cells) (x:=x) scope.names [] (.inr ⟨mem_of_lookup _ a2,by rw[Kf];rfl⟩));have:=rZ _ _ (fun z d q=>by cases q) Ct;rw[Kf]at this;cases this;refine⟨u,c,ru,fun n=>(jz _ _ _ (B.Kd a2)).trans Ct,Kf,Cj,fun q=>?_⟩;obtain⟨k2,mem,z⟩:=kU (env:=X.env) q;rcases z with z | ⟨_,z⟩
   .subst z;have:=B.names _ mem rfl;rw[show scope.names.lookup x=some .free from a2]at this;cases this
   .cases z
section
variable {tg:Expr}{Z:St}{bw:Shared}{fp:ww}{it:Addr}{tn:Nat->Heap->Prop}{am:It}
theorem oG{E:xz}{RR:Value->Addr->Result->Shared->Prop}(B:iE X scope N' ix)(hc:X.calm=true)(I:Inv X pins Z H bw)(T:Turn X.prog X.w X.K tg am fp it tn)(st:tn 0 bw.heap)(HI:∀ b∈fp,kJ X pins H b)(hg:∀ bg bG C ex,PG (jf X scope N' bg bG C ex) tg g)(ht:∀ bg bG C ex,Nj (jf X scope N' bg bG C ex) ifs tt)(he:∀ bg bG C ex,PE (jf X scope N' bg bG C ex) elt te){Q:List V->Hp->Prop}(h:Ki am g tt te (blk ix Z) H Q)(hRR:∀(D C:Addr) (ys:List V) (H':Hp) (s':Shared) (m:xL),Q ys H'->H' D=none->s'.heap.Ns C m->kJ X pins (upd H' D (.lst ys)) C->Inv X pins Z (upd H' D (.lst ys)) s'->RR (.ref D) C (.ok .next) s') :
  wpAny (model X.prog X.w) X.A (newList []) (fun acc s₃=>wpAny (model X.prog X.w) X.A (newFunctionEnv scope X.env.globals (je X.env.cells scope.names []) [] X.env.qual none .none (some X.env)) (fun RA HK =>
   codeAny (model X.prog X.w) X.A (.compStart (.ListComp elt [⟨tg,iter,ifs,0⟩] scope pos) 0 (.ref it) acc { RA with scope:=relabel scope X.env }) (RR acc RA.locals) HK) E s₃) E bw:=by
 refine abv (xE fun gr r9 xG=>?_);dsimp only at xG r9 ⊢;generalize V7:bw.heap.push { cls:=.type "list",dict:=none,data:=.seq ([]:wf).toArray }=H2 at xG r9 ⊢;have hC:H2.objs.size=bw.heap.objs.size+1:=by rw[<- V7,abu]
 have Nm:∀ b o,bw.heap.get? b=some o->H2.get? b=some o:=fun b o e=>V7▸aax _ e;have P8:∀ b o,H2.get? b=some o->gr.get? b=some o:=fun b o e=>by rw[r9];exact pushCells_keeps _ _ b o (aax _ e)
 have hD2:H2.get? bw.heap.objs.size=some { cls:=.type "list",dict:=none,data:=.seq ([]:wf).toArray }:=V7▸aaG _ rfl;have Ke:bw.heap.objs.size < H2.objs.size:=by rw[hC];exact ab6 _
 have YX:=T.obj 0 _ st;have HJ:∀ b∈fp,b < bw.heap.objs.size:=fun b hb=>let ⟨o,q,_⟩:=YX b hb;aaF q;have YY:H bw.heap.objs.size=none:=I.cu.fresh (aaC _);have hCn:H H2.objs.size=none:=I.cu.fresh (aaQ Ke);have fD:=I.wY (aaC bw.heap.objs.size) YY;have fC:=I.wY (aaQ Ke) hCn;have I3:Inv X pins Z H { bw with heap:=H2 }:=I.kept (t':=bw.toks) Nm;generalize hX:jf X scope N' { bw with heap:=H2 } H H2.objs.size (bw.heap.objs.size::fp)=X' at *;have I4:Inv X' [] (blk ix Z) H { bw with heap:=gr }:=by
  rw[<- hX];exact I.block (s₃:={ bw with heap:=H2 }) (s:={ bw with heap:=gr }) B hc HI (fun b hb=>let ⟨o,q,_⟩:=YX b hb;⟨o,q⟩) rfl rfl Nm rfl Ke (aaQ Ke) rfl rfl P8 xG (fun p hp=>by show _\/gr.IsCell _ _;rw[r9];exact r8 scope.names _ _ p (by rw[abu];exact hp))
 have eP:X'.prog=X.prog:=by rw[<- hX];rfl
 have ew:X'.w=X.w:=by rw[<- hX];rfl
 have eK:X'.K=X.K:=by rw[<- hX];rfl
 have eA:X'.A=X.A:=by rw[<- hX];rfl
 have ec:X'.calm=true:=by rw[<- hX];rfl
 have Uc:X'.xe=fun _ _=>False:=by rw[<- hX];rfl
 have DI:X'.env=compEnvC scope (xF X scope H2.objs.size) H2.objs.size X.env:=by rw[<- hX];rfl
 have hg':PG X' tg g:=hX▸hg _ _ _ _;have ht':Nj X' ifs tt:=hX▸ht _ _ _ _;have he':PE X' elt te:=hX▸he _ _ _ _;have eL:X'.env.locals=H2.objs.size:=by rw[DI];rfl
 have eX:X'.ex=bw.heap.objs.size::fp:=by rw[<- hX];rfl
 have eN:X'.N=N':=by rw[<- hX];rfl
 have ef:X'.fs=iB X.stack:=by rw[<- hX];rfl
 have es:X'.bg={ bw with heap:=H2 }:=by rw[<- hX];rfl
 have eH:X'.bG=H:=by rw[<- hX];rfl
 have V8:X'.pn=[]:=by rw[<- hX];rfl
 -- Qz stays true of P0 records through P0 loop
 have xb:∀{H':Hp} {b:Addr},b∈bw.heap.objs.size::fp->H' b=none->kJ X' [] H' b:=fun{H' b} hb hn=>by
  refine⟨hn,(I4.ok.Ue b (by rw[eX];exact hb)).1,I4.ok.Cr b (by rw[eX];exact hb),.inl (by rw[eX];exact hb),(I4.ok.Ue b (by rw[eX];exact hb)).2,fun p hp=>?_⟩;rw[V8]at hp;cases hp
 obtain⟨W,⟨m0,w0⟩,turn⟩:=h;have loop:∀ s₃:Shared,s₃={ bw with heap:=gr } ->
   codeAny (model X.prog X.w) X.A (.compLoop (.ListComp elt [⟨tg,iter,ifs,0⟩] scope pos) 0 (.ref it) (.ref bw.heap.objs.size) (compEnvC scope (xF X scope H2.objs.size) H2.objs.size X.env)) (RR (.ref bw.heap.objs.size) H2.objs.size) s₃:=by
  intro s₃ Np;rw[<- Np]at I4;refine Bp (fun n s'=>∃ i ys aV H',Inv X' [] (blk ix Z) H' s'/\tn i s'.heap/\(∀ b∈bw.heap.objs.size::fp,H' b=none)/\ys.length<=sizeLine/\Vals ys aV/\s'.heap.PlainList bw.heap.objs.size aV.toArray/\W i n ys H') ?_ m0
   ⟨0,[],[],H,I4,T.keep _ _ _ st (fun b hb o e=>by rw[Np];exact P8 b o (Nm b o e)),(fun b hb=>?_),aaY _,.nil,⟨_,by rw[Np];exact P8 _ _ hD2⟩,w0⟩
  .rintro n s5 ⟨i,ys,aV,H5,I5,P1,Uk,YZ,Uz,pl5,w5⟩;obtain⟨nD,eD⟩:=id pl5;have hDo:∀ b∈[bw.heap.objs.size],∃ o,s5.heap.get? b=some o/\∀ v,o.data≠.cell v:=fun b hb=>by
    have e:b=bw.heap.objs.size:=by simpa using hb
    rw[e];exact⟨_,eD,fun v z=>by cases z⟩
   have memD:bw.heap.objs.size∈bw.heap.objs.size::fp:=aaP;have QA:=I5.pinned (fp:=[bw.heap.objs.size]) (fun b hb=>by
    have e:b=bw.heap.objs.size:=by simpa using hb
    rw[e];exact xb memD (Uk _ memD)) hDo
   rw[adW]at QA;have V9:∀{q:Addr×Obj},q∈gB [bw.heap.objs.size] s5.heap->q.1=bw.heap.objs.size:=fun hq=>by
    have:=(qf hq).1;simpa using this
   have Kj:∀{H':Hp} {b:Addr},b∈fp->H' b=none->kJ X' (gB [bw.heap.objs.size] s5.heap) H' b:=fun{H' b} hb hn=>by
    obtain⟨f0,f1,f2,f3,f4,_⟩:=xb (aaI _ hb) hn;refine⟨f0,f1,f2,f3,f4,fun p hp z=>?_⟩;rw[V8,adW]at hp;have q:=V9 hp;rw[z]at q;exact absurd (HJ b hb) (by rw[q];exact abm _)
   have RB:∀ b∈fp,kJ X' (gB [bw.heap.objs.size] s5.heap) H5 b:=fun b hb=>Kj hb (Uk b (aaI _ hb));have UA:(bw.heap.objs.size,({ cls:=.type "list",data:=.seq aV.toArray nD }:Obj))∈gB [bw.heap.objs.size] s5.heap:=gc @2 eD;rcases turn i n ys H5 w5 with⟨stop,qn⟩ | ⟨go,iM,N,M,hN,hM,step⟩
   .rw[<- eA];refine cL (T.done X' eP ew eK ec i _ s5 (blk ix Z) H5 _ QA RB P1 stop) fun r s6 zz=>?_;obtain⟨hr,I6⟩:=zz;subst hr;have eD6:=(I6.pin _ (aaW _ UA)).1;have Y0:=(I6.pin _ (aaW _ UA)).2.1;obtain⟨mC,Y1,_⟩:=I6.loc;rw[eL]at Y1;have u6:=I6.base;rw[ef,eX,eH,es]at u6;have RC:=I6.cu;rw[eP,ew]at RC;have Y2:=I6.os;rw[es]at Y2;have IX:Inv X pins Z H5 s6:=I3.Qt (s':=s6) (ch:=bw.heap.objs.size::fp) Y2 u6 RC I6.bare fun b hb=>by
     rcases aaA.mp hb with z | hb
     .rw[z];exact⟨fD.2.2.2.1,fD.2.1,fD.2.2.2.2.1,fD.2.2.2.2.2⟩
     .have f:=HI b hb;exact⟨f.2.2.2.1,f.2.1,f.2.2.2.2.1,f.2.2.2.2.2⟩
    have nC6:H5 H2.objs.size=none:=by have:=I6.free;rw[eL]at this;exact this
    have nCD:H2.objs.size≠bw.heap.objs.size:=ab7 Ke;refine hRR _ _ ys H5 s6 mC qn Y0 Y1 ⟨by rw[bA nCD];exact nC6,fC.2⟩ ?_;exact IX.J7 (t':=s6.toks) ⟨Y0,fD.2⟩ ⟨YZ,aV,nD,Uz,eD6⟩
   .rw[<- eA];refine cL (T.item X' eP ew eK ec i _ s5 (blk ix Z) H5 _ QA RB P1 go) fun r s6 zz=>?_;obtain⟨u,hr,h6⟩:=zz;subst hr;dsimp only;refine cL h6 fun _ s7 zy=>?_;obtain⟨x,H7,I7,r7,y7,Wb,fr7⟩:=zy;have I7':=I7.pinned (fp:=fp) (fun b hb=>Kj hb (fr7 b hb)) (T.obj _ _ Wb);rw[<- DI,<- eP,<- ew];have q1:=hg' _ s7 (blk ix Z) H7 x u _ I7' r7 (step x H7 y7);rw[Uc]at q1;refine cL q1 fun _ s8 zx=>?_;obtain⟨Y3,H8,I8,q8⟩:=zx;have q2:=ht' _ s8 Y3 H8 _ I8 q8;rw[Uc]at q2;refine cL q2 fun b s9 ⟨H9,I9,q9⟩=>?_
    -- behind a turn
    have Kk:∀{bH:St} {H':Hp} {s':Shared},Inv X' (gB [bw.heap.objs.size] s5.heap++gB fp s7.heap) bH H' s'->s'.heap.get? bw.heap.objs.size=some { cls:=.type "list",data:=.seq aV.toArray nD }/\H' bw.heap.objs.size=none:=fun I' =>
     ⟨(I'.pin _ (aaW _ (acE _ UA))).1,(I'.pin _ (aaW _ (acE _ UA))).2.1⟩
    have Kl:∀{bH:St} {H':Hp} {s':Shared},Inv X' (gB [bw.heap.objs.size] s5.heap++gB fp s7.heap) bH H' s'->tn (i+1) s'.heap/\∀ b∈fp,H' b=none:=fun{bH H' s'} I'=>by
     refine⟨T.keep _ _ _ Wb fun b hb o e=>(I'.pin (b,o) (aaW _ (aaW _ (gc hb e)))).1,fun b hb=>?_⟩;obtain⟨o,e,d⟩:=T.obj _ _ Wb b hb;exact(I'.pin (b,o) (aaW _ (aaW _ (gc hb e)))).2.1
    have drop:∀{bH:St} {H':Hp} {s':Shared} {ps:yp},Inv X' ps bH H' s'->Inv X' [] (blk ix Z) H' s':=fun{bH H' s' ps} I'=>by
     obtain⟨mL,fe,_⟩:=I'.loc;refine⟨I'.ok,I'.os,I'.bare,I'.base,⟨mL,fe,fun k x v e1 e2 e3=>?_⟩,I'.cell,I'.free,I'.iQ,fun p hp=>?_,I'.cu,by rw[eN,<- B.len.symm];unfold blk;rw[aav]⟩
     .rw[eN]at e1;obtain⟨u,c,ru,Kf,Cj,⟨oc,Kg,kO⟩,hk⟩:=B.Nl I e1 e2;have e3':Ud (relabel scope X.env) x:=by rw[DI]at e3;exact e3
      refine⟨u,ru,.inr ⟨?_,c,by rw[DI];exact Kf _,?_⟩⟩
      .rw[DI];show(relabel scope X.env).names.lookup x=some .cell\/(relabel scope X.env).names.lookup x=some .free;rcases e3' with q | q | q
       .exact absurd q hk
       .exact .inl q
       .exact .inr q
      .have ub:=I'.base;rw[eX,eH,es]at ub;obtain⟨sl,HP⟩:=ub.any (b:=c) (Nm c oc Kg) (I.iQ x c Cj) (fun z=>by
        rcases aaA.mp z with z | z
        .exact absurd (aaF Kg) (by rw[z];exact abm _)
        .exact(HI c z).2.2.2.2.1 x c Cj rfl)
       exact⟨_,HP,kO⟩
     .rw[V8]at hp;cases hp
    cases b with
    | false =>
     rw[aaD aaK]at q9 ⊢;obtain⟨m',hm,w9⟩:=hM _ q9;obtain⟨kd,nd⟩:=Kk I9;obtain⟨kf,nf⟩:=Kl I9;refine⟨m',hm,i+1,ys,aV,H9,drop I9,kf,fun b hb=>?_,YZ,Uz,⟨nD,kd⟩,w9⟩;rcases aaA.mp hb with z | hb
     .rw[z];exact nd
     .exact nf b hb
    | true =>
     rw[aaO rfl]at q9 ⊢;have q3:=he' _ s9 Y3 H9 _ I9 q9;rw[Uc]at q3;refine cL q3 fun v Y4 zz=>?_;obtain⟨y,Y5,Wc,r10,q10⟩:=zz;obtain⟨m',hm,w10⟩:=hN _ _ q10;obtain⟨kd,nd⟩:=Kk Wc;obtain⟨kf,nf⟩:=Kl Wc;have hlen:=Uz.length;refine wpAny_list_append_plain (items:=aV.toArray) ⟨nD,kd⟩ (fun h' pl' sb=>?_) (by rw[aaL];omega);have I11:Inv X' [] (blk ix Z) Y5 { Y4 with heap:=h' }:=by
      have f:=xb memD nd;exact(drop Wc).turned (t':=Y4.toks) (fun b o hb e=>(sb.2 b hb).trans e) f.1 f.2.1 f.2.2.2.1 f.2.2.2.2.1 f.2.2.2.2.2
     refine⟨m',hm,i+1,ys++[y],aV++[v],Y5,I11,T.keep _ _ _ kf (fun b hb o e=>(sb.2 b (aa6 (HJ b hb))).trans e),fun b hb=>?_,by rw[aaV,List.length_singleton];omega,Uz.append (.cons r10 .nil),?_,w10⟩
     .rcases aaA.mp hb with z | hb
      .rw[z];exact nd
      .exact nf b hb
     .simpa using pl'
  .rcases aaA.mp hb with z | hb
   .rw[z];exact YY
   .exact(HI b hb).1
 exact codeAny_compStart_list (loop _ rfl) (T.self _ 0 _ _ _ (T.keep _ _ _ st fun b hb o e=>P8 b o (Nm b o e)) (loop _ rfl))
end
section
variable {tg:Expr}{wi:TI}
theorem HQ(B:iE X scope N' ix)(hc:X.calm=true)(hi:PI X tg iter wi)(hg:∀ bg bG C ex,PG (jf X scope N' bg bG C ex) tg g)(ht:∀ bg bG C ex,Nj (jf X scope N' bg bG C ex) ifs tt)(he:∀ bg bG C ex,PE (jf X scope N' bg bG C ex) elt te)(hs:autoParam (∀ x,foldedSetIterable iter X.env x=pure x) ra3):PE X (.ListComp elt [⟨tg,iter,ifs,0⟩] scope pos) (uM wi g tt te ix):=by
 intro pins s Z H Q I h;rw[eval_ListComp];refine wpAny_comprehension_free (use:=none) rfl hs (oE (B.has I.ok)) B.kind B.names (abP (hi pins s Z H _ I h) (fun xv bL gr=>abP gr (fun Ui bw i9=>?_) fun _ _ e=>e) fun _ _ e=>e);obtain⟨it,fp,tn,am,H2,e,I2,T,qg,f2,q⟩:=i9;subst e;refine oG (RR:=fun acc C=>compPost (model X.prog X.w) X.A X.xe none (EP X pins Z Q) acc C) B hc I2 T qg f2 hg ht he q ?_;intro D C ys H' s' m hq hD hn fC I';refine⟨m,hn,fun h' sb=>⟨.ref D,_,I'.turned (t':=s'.toks) (fun b o hb e=>(sb.2 b hb).trans e) fC.1 fC.2.1 fC.2.2.2.1 fC.2.2.2.2.1 fC.2.2.2.2.2,rfl,hq D hD⟩⟩
theorem HR{i:Nat}{y:Str}{py DJ:Pos}(B:iE X scope N' ix)(hc:X.calm=true)(hN:X.N.Nodup)(hy:X.N[i]?=some y)(hx:X.env.scope.names.lookup y=some .local)(hi:PI X tg iter wi)(hg:∀ bg bG C ex,PG (jf X scope N' bg bG C ex) tg g)(ht:∀ bg bG C ex,Nj (jf X scope N' bg bG C ex) ifs tt)(he:∀ bg bG C ex,PE (jf X scope N' bg bG C ex) elt te)(RD:autoParam (swapsWith (.ListComp elt [⟨tg,iter,ifs,0⟩] scope pos) (some (.Name y py)) DJ.line X.env=pure true) ra0)(hs:autoParam (∀ x,foldedSetIterable iter X.env x=pure x) ra3):PS X (.Assign [.Name y py] (.ListComp elt [⟨tg,iter,ifs,0⟩] scope pos) DJ) (wW (uM wi g tt te ix) (nZ i)):=by
 intro pins s Z H Dn I h;rw[exec_Assign_Name_used _ _ _ _ RD];refine aaw (adM (aaw ?_));show wpAny _ X.A (do let _ <- comprehension (.ListComp elt [⟨tg,iter,ifs,0⟩] scope pos) scope X.env _ (newList []) false (eval iter X.env) (some (assign (.Name y py) X.env))) _ _ s;refine aaw (abP (wpAny_comprehension_free (use:=some (assign (.Name y py) X.env)) (Q:=fun _ s'=>SP X pins Dn .next s') rfl hs (oE (B.has I.ok)) B.kind B.names
  (abP (hi pins s Z H _ I h) (fun xv bL gr=>abP gr (fun Ui bw i9=>?_) fun _ _ e=>e) fun _ _ e=>e)) (fun _ s' hq=>aay (aay hq)) fun _ _ e=>e)
 obtain⟨it,fp,tn,am,H2,e,I2,T,qg,f2,q⟩:=i9;subst e;refine oG (RR:=fun acc C=>compPost (model X.prog X.w) X.A X.xe (some (assign (.Name y py) X.env)) (fun _ s'=>SP X pins Dn .next s') acc C) B hc I2 T qg f2 hg ht he q ?_;intro D C ys H' s' m hq hD hn fC I';have hCo:∀ b∈[C],∃ o,s'.heap.get? b=some o/\∀ v,o.data≠.cell v:=fun b hb=>by
  have e:b=C:=by simpa using hb
  rw[e];obtain⟨o,es,ep,ho,hd,_⟩:=hn;exact⟨o,ho,fun v z=>by rw[hd]at z;cases z⟩
 have I2':=I'.pinned (fp:=[C]) (fun b hb=>by
  have e:b=C:=by simpa using hb
  rw[e];exact fC) hCo
 show wpAny _ X.A (assign (.Name y py) X.env (.ref D)) _ _ _;refine wpAny_assign_Name (nX (v:=.ref D) I2' hN hy (.inl hx) rfl (fun P2 Y6=>?_) (.inr hx));have We:P2.heap.Ns C m:=by
  obtain⟨o,es,ep,ho,r⟩:=hn;exact⟨o,es,ep,(Y6.pin (C,o) (aaW _ (aaW _ (gc @2 ho)))).1,r⟩
 refine⟨m,We,fun h' sb=>⟨_,_,Y6.kK.turned (t':=P2.toks) (fun b o hb e=>(sb.2 b hb).trans e) fC.1 fC.2.1 fC.2.2.2.1 fC.2.2.2.2.1 fC.2.2.2.2.2,hq D hD⟩⟩
end
structure UB(X:Cx)(ifs:v6)(tt:TT):Prop where
 run:Nj X ifs tt
section
variable {tg c:Expr}{wi:TI}
theorem gX:UB X [] Nk:=⟨HL⟩
theorem fJ(h:ST X c tt):UB X [c] tt:=⟨HN h.run⟩
theorem dn{g:Shared->Hp->Addr->ww->TG}{tt:Shared->Hp->Addr->ww->TT}{te:Shared->Hp->Addr->ww->TE}(B:iE X scope N' ix)(hi:SI X tg iter wi)(hg:∀ bg bG C ex,SG (jf X scope N' bg bG C ex) tg (g bg bG C ex))(ht:∀ bg bG C ex,UB (jf X scope N' bg bG C ex) ifs (tt bg bG C ex))(he:∀ bg bG C ex,SE (jf X scope N' bg bG C ex) elt (te bg bG C ex))(eg:autoParam (∀ bg bG C ex,g bg bG C ex=g X.bg X.bG 0 []) ra5)(et:autoParam (∀ bg bG C ex,tt bg bG C ex=tt X.bg X.bG 0 []) ra5)(ee:autoParam (∀ bg bG C ex,te bg bG C ex=te X.bg X.bG 0 []) ra5)(hc:autoParam (X.calm=true) ra0)(hs:autoParam (∀ x,foldedSetIterable iter X.env x=pure x) ra3):SE X (.ListComp elt [⟨tg,iter,ifs,0⟩] scope pos) (uM wi (g X.bg X.bG 0 []) (tt X.bg X.bG 0 []) (te X.bg X.bG 0 []) ix) :=
 ⟨HQ B hc hi.run (fun a b c d=>eg a b c d▸(hg a b c d).run) (fun a b c d=>et a b c d▸(ht a b c d).run) (fun a b c d=>ee a b c d▸(he a b c d).run) hs⟩
theorem oH(i:Nat){y:Str}{py DJ:Pos}{g:Shared->Hp->Addr->ww->TG}{tt:Shared->Hp->Addr->ww->TT}{te:Shared->Hp->Addr->ww->TE}(B:iE X scope N' ix)(hN:X.N.Nodup)(hi:SI X tg iter wi)(hg:∀ bg bG C ex,SG (jf X scope N' bg bG C ex) tg (g bg bG C ex))(ht:∀ bg bG C ex,UB (jf X scope N' bg bG C ex) ifs (tt bg bG C ex))(he:∀ bg bG C ex,SE (jf X scope N' bg bG C ex) elt (te bg bG C ex))(eg:autoParam (∀ bg bG C ex,g bg bG C ex=g X.bg X.bG 0 []) ra5)(et:autoParam (∀ bg bG C ex,tt bg bG C ex=tt X.bg X.bG 0 []) ra5)(ee:autoParam (∀ bg bG C ex,te bg bG C ex=te X.bg X.bG 0 []) ra5)(hy:autoParam (X.N[i]?=some y) ra0)(hx:autoParam (X.env.scope.names.lookup y=some .local) ra0)(hc:autoParam (X.calm=true) ra0)(RD:autoParam (swapsWith (.ListComp elt [⟨tg,iter,ifs,0⟩] scope pos) (some (.Name y py)) DJ.line X.env=pure true) ra0)(hs:autoParam (∀ x,foldedSetIterable iter X.env x=pure x) ra3):SS X (.Assign [.Name y py] (.ListComp elt [⟨tg,iter,ifs,0⟩] scope pos) DJ) (wW (uM wi (g X.bg X.bG 0 []) (tt X.bg X.bG 0 []) (te X.bg X.bG 0 []) ix) (nZ i)) :=
 ⟨HR B hc hN hy hx hi.run (fun a b c d=>eg a b c d▸(hg a b c d).run) (fun a b c d=>et a b c d▸(ht a b c d).run) (fun a b c d=>ee a b c d▸(he a b c d).run) RD hs⟩
end
section
variable {nx bk ct:St->Hp->Prop}{rt:VK}{t u:TS}{D:Ends}{Z:St}{Q:VK}{ta tb tc:TE}{c d:TT}{i j:Nat}{v x y:V}{r:R2}{B:Bool->Hp->Prop}{ts:TA}{tsr:TA}{R:List V->Hp->Prop}
theorem DL{B:Prop}(h:A):if true=true then A else B:=h
theorem xH{B:Prop}(h:B):if false=true then A else B:=h
theorem Wf{B:Prop}(h:B):if(!true)=true then A else B:=h
theorem Wh{B:Prop}(h:A):if(!false)=true then A else B:=h
theorem pT{B:Prop}[Decidable p](hp:p)(h:A):if decide p=true then A else B:=by rw[aaO (aa2 hp)];exact h
theorem kl{B:Prop}[Decidable p](hp:¬ p)(h:B):if decide p=true then A else B:=by rw[aaJ hp];exact h
theorem xI{B:Prop}[Decidable p](hp:¬ p)(h:A):if(!decide p)=true then A else B:=by rw[aaJ hp];exact h
theorem xJ{B:Prop}[Decidable p](hp:p)(h:B):if(!decide p)=true then A else B:=by rw[aa2 hp];exact h
theorem fi{B:Prop}[Decidable p](h1:p->A)(h2:¬ p->B):if decide p=true then A else B:=by
 by_cases hp:p
 .exact pT hp (h1 hp)
 .exact kl hp (h2 hp)
theorem oI{B:Prop}[Decidable p](h1:¬ p->A)(h2:p->B):if(!decide p)=true then A else B:=by
 by_cases hp:p
 .exact xJ hp (h2 hp)
 .exact xI hp (h1 hp)
end
def Tp(H H':Hp):Prop:=∀ b xs,H b=some (.tup xs)->H' b=some (.tup xs)
mutual
noncomputable def Im:PyData->Bool
 | .tuple ds=>iF ds
 | .list _=>false
 | .dict _=>false
 | _=>true
noncomputable def iF:wE->Bool
 | []=>true
 | d::ds=>Im d&&iF ds
end
mutual
theorem Rep.tp{H H':Hp}(k:Tp H H'):∀{d:PyData} {x:V},Im d=true->Rep H d x->Rep H' d x
 | .none,_,_,h=>h
 | .bool _,_,_,h=>h
 | .int _,_,_,h=>h
 | .str _,_,_,h=>h
 | .list _,_,i,_=>by simp[Im]at i
 | .dict _,_,i,_=>by simp[Im]at i
 | .tuple ds,_,i,⟨a,xs,e,h,r⟩=>⟨a,xs,e,k a xs h,ay.tp k (by simpa [Im] using i) r⟩
theorem ay.tp{H H':Hp}(k:Tp H H'):∀{ds:wE} {xs:List V},iF ds=true->ay H ds xs->ay H' ds xs
 | [],_,_,h=>h
 | d::ds,_,i,⟨y,ys,e,h,r⟩=>by
  have i':Im d=true/\iF ds=true:=by simpa [iF] using i
  exact⟨y,ys,e,Rep.tp k i'.1 h,ay.tp k i'.2 r⟩
end
mutual
theorem Rep.same{H H':Hp}(k:aQ H H'):∀{d:PyData} {x:V},Rep H d x->Rep H' d x
 | .none,_,h=>h
 | .bool _,_,h=>h
 | .int _,_,h=>h
 | .str _,_,h=>h
 | .list _,_,⟨a,xs,e,h,r⟩=>⟨a,xs,e,k a _ h,ay.same k r⟩
 | .dict _,_,h=>h
 | .tuple ds,_,⟨a,xs,e,h,r⟩=>⟨a,xs,e,k a _ h,ay.same k r⟩
theorem ay.same{H H':Hp}(k:aQ H H'):∀{ds:wE} {xs:List V},ay H ds xs->ay H' ds xs
 | [],_,h=>h
 | d::ds,_,⟨y,ys,e,h,r⟩=>⟨y,ys,e,Rep.same k h,ay.same k r⟩
end
theorem qw:∀{ds:wE},(∀ d∈ds,Im d=true)->iF ds=true
 | [],_=>rfl
 | d::r,h=>by simp only[iF,aaN];exact⟨h d (aaP ..),qw fun x hx=>h x (aaI _ hx)⟩
noncomputable def DM(K:zn):List V->Hp->VK->Prop:=fun xs H Q=>∃ p ys,xs=[.ref p]/\((gk K H p ys/\∀ l,H l=none->Q (.ref l) (upd H l (.tup ys)))\/(fX K H p ys/\Q (.ref p) H))
noncomputable def zK(K:zn):List V->Hp->VK->Prop:=fun xs H Q=>∃ p ys,xs=[.ref p]/\(gk K H p ys\/fX K H p ys)/\∀ l,H l=none->Q (.ref l) (upd H l (.lst ys))
noncomputable def DN(K:zn):List V->Hp->VK->Prop:=fun xs H Q=>∃ p ys,xs=[.ref p]/\(gk K H p ys\/fX K H p ys)/\Q (.int ys.length) H
def Km:List V->Hp->VK->Prop:=fun xs H Q=>∃ i j,xs=[.int i,.int j]/\Q (.int (if j > i then j else i)) H
section
variable {K:zn}{Q:VK}{p:Addr}{ys:List V}{i j:Int}
theorem gS:gb X (.type "tuple") (DM X.K):=pQ
theorem gd:gb X (.type "list") (zK X.K):=rS
theorem bj:gb X (.builtin "len") (DN X.K):=rR
theorem Bq(hc:X.calm=true):gb X (.builtin "max") Km:=AY hc
end
end L2
namespace L2
open PySem PySem.Spec PyProof.Rows
variable {X:Cx}{w:World}{H:Hp}{p a f C:Addr}{P:u8}{mg:xL}{base:Heap}{N ps:wv}{qual:Str}{scope:Scope}{cd:Value}{A:tx}{outer:List Env}{s:Shared}{gD pos:Pos}{es:v6}{fd:wT}
noncomputable def RE(K:zn):List V->Hp->VK->Prop:=fun xs H Q=>∃(p:Addr) (bs:List Bool),xs=[.ref p]/\gk K H p (bs.map V.bl)/\Q (.bl (bs.any id)) H
theorem xK{bs:List Bool}{aV:wf}(rv:Vals (bs.map V.bl) aV){i:Nat}{v:Value}(h:aV[i]?=some v):∃ b,bs[i]?=some b/\v=.bool b:=by
 have hl:=rv.length;rw[aav]at hl;have hi:i < aV.length:=(aaH.mp h).1;have hb:bs[i]?=some bs[i]:=aaT @0;obtain⟨u,hu,ru⟩:=rv.get (x:=.bl bs[i]) (by rw[aaz,hb];rfl);rw[h]at hu;cases hu;exact⟨_,hb,ru⟩
theorem qx(hc:X.calm=true):gb X (.builtin "any") (RE X.K):=by
 intro pins s Z H xs us Q I r h;obtain⟨p,bs,rfl,hq,q⟩:=h;obtain⟨u,rfl,ru⟩:=vals1 r;cases ru;obtain⟨aV,rv,pl,hz⟩:=I.list hq;have hl:=pl.isList;have iM:p < s.heap.objs.size:=by obtain⟨_,e,_⟩:=hl;exact aaF e
 refine call_any_walk (abT hl ?_);refine⟨s.heap.objs.size,[s.heap.objs.size,p],[s.heap.objs.size],aV.toArray.size,_,_,fun i=>(bs[i]?).getD false,rfl,Walks.list (A:=X.A.in1) (I.ok.hd hc) _ p (aa6 iM) aV.toArray,
  ⟨⟨_,aaG _ rfl,rfl,rfl⟩,hl.push _⟩,fun i v s' Q' E' hP hQ=>?_,fun h' tk hk=>?_⟩
 .obtain⟨b,e,rfl⟩:=xK rv (i:=i) (v:=v) (by simpa using hP);simp only[e,Option.getD_some]at hQ;exact abS hQ
 .have hlen:=rv.length;rw[aav]at hlen;have e:((List.range aV.toArray.size).any fun i=>(bs[i]?).getD false)=bs.any id:=by
   rw[aaL,<- hlen];exact LSm.range_any bs
  rw[e];exact⟨.bl _,H,I.kept (LSm.kept_iter hk),rfl,q⟩
noncomputable def Kn(K:zn):R2:=fun x y H Q=>∃ a b xs ys,x=.ref a/\y=.ref b/\fX K H a xs/\fX K H b ys/\xs.length+ys.length<=sizeLine /\
 (xs=[]->Q (.ref b) H)/\(xs≠[]->ys=[]->Q (.ref a) H)/\(xs≠[]->ys≠[]->∀ p,H p=none->Q (.ref p) (upd H p (.tup (xs++ys))))
theorem iU:iP X (binaryOp .Add) (Kn X.K):=by
 intro pins s Z H x y v u Q I rx ry h;obtain⟨a,b,xs,ys,rfl,rfl,ha,hb,hz,q0,q1,q2⟩:=h;cases rx;cases ry;obtain⟨aV,r1,p1,_⟩:=I.tuple ha;obtain⟨xw,r2,p2,_⟩:=I.tuple hb
 by_cases e0:aV=[]
 .obtain⟨⟨cls,dd,data,sl⟩,ho,hc,n,hd⟩:=id p1;obtain⟨⟨Vz,P4,data2,Uq⟩,kO,Cj,n2,hd2⟩:=id p2;simp only at hc hd Cj hd2;subst hc hd Cj hd2;exact concat_meets ⟨_,ho,rfl⟩ ⟨_,kO,rfl⟩ noFill_tuple_add seq_tuple_add acY acS (acO _ _)
   (tuple_addW0 a b aV.toArray xw.toArray n n2 dd P4 sl Uq (by simp[e0])) ⟨ho,kO,.ref b,H,I,rfl,q0 (r1.nA.mp e0)⟩
 .have hx:xs≠[]:=fun z=>e0 (r1.nA.mpr z);refine HT.Hq p1 p2 e0 (fun z=>⟨.ref a,H,I,rfl,q1 hx (r2.nA.mp z)⟩) (fun z=>?_) (by rw[<- r1.length,<- r2.length];exact hz);refine⟨.ref s.heap.objs.size,_,I.laid (t':=s.toks) (o:=.tup (xs++ys)) (fun b ob q=>aax _ q) (aaC _) ?_,rfl,q2 hx (fun w=>z (r2.nA.mpr w)) _ (I.cu.fresh (aaC _))⟩;exact⟨by rw[aaV];exact hz,_,r1.append r2,IsTup.new _ _⟩
def Kq:List V->Hp->VK->Prop:=fun xs H Q=>(∃ i,xs=[.int i]/\Q (.int i) H)\/∃ k,xs=[.bl k]/\Q (.int (if k then 1 else 0)) H
theorem lT:gb X (.type "int") Kq:=AZ
theorem cm.there{h:Heap}{o:HO}(x:cm P w H h a o):∃ ob,h.get? a=some ob:=by
 cases o with
 | lst xs=>obtain⟨_,_,_,_,e⟩:=x;exact⟨_,e⟩
 | tup xs=>obtain⟨_,_,_,ob,e,_⟩:=x;exact⟨_,e⟩
 | dK kvs=>obtain⟨_,_,_,_,o,_,_,e,_⟩:=x;exact⟨_,e⟩
 | dT kvs=>obtain⟨_,_,_,_,o,_,_,e,_⟩:=x;exact⟨_,e⟩
 | set S n=>obtain⟨o,_,_,_,e,_⟩:=x;exact⟨_,e⟩
 | ins C dx fs=>obtain⟨_,_,_,e,_⟩:=x;exact⟨_,e⟩
 | own y=>exact x
 | xd fs=>obtain⟨_,⟨_,_,_,e,_⟩,_⟩:=x;exact⟨_,e⟩
 | Ub lo hi=>obtain⟨_,_,_,e⟩:=x;exact⟨_,e⟩
 | lG ob u=>obtain⟨e,_⟩:=x;exact⟨_,e⟩
 | JP ps=>exact⟨_,x⟩
 | met f y=>exact⟨_,x⟩
 | ext φ=>obtain⟨_,e,_⟩:=x;exact e
theorem eV.stays{h h':Heap}(x:eV P w H h)(k:∀ b u ob,H b=some u->h.get? b=some ob->h'.get? b=some ob):eV P w H h':=fun a o e =>
 (x a o e).uh (fun b u hb q=>by
  rcases hb with rfl | hb
  .exact k _ _ _ e q
  .exact k _ _ _ hb q) (fun _ q=>q) fun _ _ q=>q
structure Nq(P:u8)(w:World)(outer:List Env)(H:Hp)(s:Shared)(E:XK)(a C:Addr)(H':Hp)(B:Heap)(a0:Value)(s':Shared):Prop where
 os:s'.os=s.os
 bare:AllBare s'.gens
 un:Un (iB outer) [] H H' s.heap s'.heap
 cu:eV P w H' s'.heap
 new:H' a=none
 fly:Heap.FlyingW B outer a (.ref C) a0 s'.heap
 UC:∀ b o,s.heap.get? b=some o->H b=none->b ∉ iB outer->B.get? b=some o
 Nr:∀ b o u,s.heap.get? b=some o->H b=some u->∃ o',B.get? b=some o'
 G2:∀ b u,H' b=some u->∃ o',B.get? b=some o'
 want:E (.ref C) none H'
def wI(P:u8)(w:World):A4:=fun outer H s E e s'=>∃(a C:Addr) (H':Hp) (B:Heap) (a0:Value),e=.ref a/\Nq P w outer H s E a C H' B a0 s'
section
variable {K:zn}{E:XK}
def sd(K:zn)(C:Addr):Prop:=∀ h:Heap,K.In h->∃(nm q:Str) (N:Addr) (bs bm:wf) (hdct:Bool) (sn:wv) (sub:wf) (ab:Bool) (col:Option Bool) (dd:wS) (k0 k1 k2 k3 k5:wP) (mN:xL),
 h.get? C=some (excClassObj nm q C N bs bm hdct sn sub ab col dd k0 k1 k2 k3 k5 "ValueError.__new__")/\h.Ns N mN/\mN "__init__"=none/\OwnTail h [.type "ValueError",.type "Exception",.type "BaseException",.type "object"] bm/\bm.contains (.type "BaseException")=true
def xM(C:Addr)(E:XK)(t:TA):TS:=fun _ Z H=>t Z H fun vs H1=>vs.length<=sizeLine/\E (.ref C) none H1
theorem DO{x:Str}{np:Pos}{e:Expr}{t:TA}(hk:sd K C)(hg:Gl (gC (wI P w) P w K mg base N qual scope f cd A outer s H E) x)(hm:mg x=some (.ref C))(ha:PA (gC (wI P w) P w K mg base N qual scope f cd A outer s H E) (e::es) t)(hd:autoParam ((x == ("__debug__":Str))=false) ra1)(he:autoParam (starEach (e::es) (envOfC qual scope s.heap.objs.size f cd)=(false,eval e (envOfC qual scope s.heap.objs.size f cd))::starEach es (envOfC qual scope s.heap.objs.size f cd)) ra0)(oo:autoParam ((backTo gD (starEach es (envOfC qual scope s.heap.objs.size f cd))).any (·.1)=false) ra0) :
  PS (gC (wI P w) P w K mg base N qual scope f cd A outer s H E) (.Raise (some (.Call (.Name x np) (e::es) [] gD)) none pos) (xM C E t):=by
 intro pins s1 Z H1 D I h;obtain⟨nm,q,Nn,bs,bm,hdct,sn,sub,ab,col,dd,k0,k1,k2,k3,k5,mN,hC,hN,UD,hT,hb⟩:=hk (gC (wI P w) P w K mg base N qual scope f cd A outer s H E).base I.ok.mod.Cg;refine wpAny_Raise_call_subT (C:=C) (N:=Nn) (nm:=nm) (q:=q) (bs:=bs) (bm:=bm) (hdct:=hdct) (sn:=sn) (sub:=sub) (ab:=ab) (col:=col) (dd:=dd) (k0:=k0) (k1:=k1) (k2:=k2) (k3:=k3) (k5:=k5) PySem.F.excBase_ValueError hb (I.ok.hd rfl) (by
  show(backTo gD (starEach (e::es) (envOfC qual scope s.heap.objs.size f cd))).any (·.1)=false;rw[he];show(false||(backTo gD (starEach es (envOfC qual scope s.heap.objs.size f cd))).any (·.1))=false;rw[oo];rfl) UD (nr I hg hm ⟨rfl,?_⟩ hd)
 have pU:=ha gD pins s1 Z H1 _ I h;rw[show(gC (wI P w) P w K mg base N qual scope f cd A outer s H E).env=envOfC qual scope s.heap.objs.size f cd from rfl]at pU ⊢;rw[he]at pU ⊢;refine Calls.evalArgs_plain (cL pU fun us s2 zz=>?_);obtain⟨vs,H2,I2,r2,q2⟩:=zz;have KB:=I2.bk;refine⟨rfl,by rw[<- r2.length];exact q2.1,KB _ _ hC,hN.keeps KB,hT.keeps KB,fun h' a hx=>?_⟩;have pL:∀ en∈(envOfC qual scope s.heap.objs.size f cd::outer),∀ L,en.frame=some L->L∈iB (envOfC qual scope s.heap.objs.size f cd::outer):=fun en Y7 L hL=>adt.mpr ⟨en,Y7,hL⟩;have LV:s2.heap.FunFrames base (envOfC qual scope s.heap.objs.size f cd::outer):=I2.stack;have ub:Un (iB outer) [] H H2 s.heap s2.heap:=I2.base;have GL:∀ b∈iB outer,H b=none:=I2.ok.GL;have sfr:∀ b∈iB (envOfC qual scope s.heap.objs.size f cd::outer),H2 b=none:=I2.rF;have Y8:∀ b o,s.heap.get? b=some o->b ∉ iB outer->b ∉ iB (envOfC qual scope s.heap.objs.size f cd::outer):=fun b o q n z=>by
  rcases aaA.mp (show b∈s.heap.objs.size::iB outer from z)with e | e
  .have h2:=aaF q;rw[e]at h2;exact absurd h2 (abm _)
  .exact n e
 have Wi:∀ b o,s2.heap.get? b=some o->b ∉ iB (envOfC qual scope s.heap.objs.size f cd::outer)->(PySem.W.hideAll s2.heap (iB (envOfC qual scope s.heap.objs.size f cd::outer))).get? b=some o:=fun b o q n=>PySem.W.hideAll_get _ q n;have UC:∀ b o,s.heap.get? b=some o->H b=none->b ∉ iB outer->(PySem.W.hideAll s2.heap (iB (envOfC qual scope s.heap.objs.size f cd::outer))).get? b=some o:=fun b o q n nf=>Wi b o (ub.keep b o q n nf @2) (Y8 b o q nf);have Nr:∀ b o u,s.heap.get? b=some o->H b=some u->∃ o',(PySem.W.hideAll s2.heap (iB (envOfC qual scope s.heap.objs.size f cd::outer))).get? b=some o':=fun b o u q n=>by
  obtain⟨o1,e1⟩:=ub.there b o q @2;exact⟨o1,Wi b o1 e1 (Y8 b o q fun z=>by rw[GL b z]at n;cases n)⟩
 have G2:∀ b u,H2 b=some u->∃ o',(PySem.W.hideAll s2.heap (iB (envOfC qual scope s.heap.objs.size f cd::outer))).get? b=some o'/\s2.heap.get? b=some o':=fun b u n=>by
  obtain⟨ob,e⟩:=(I2.cu b u n).there;exact⟨ob,Wi b ob e (fun z=>by rw[sfr b z]at n;cases n),e⟩
 show wpAny _ _ (leaving _ _) _ _ _;refine wpAny_leaves_madeW (L:=s.heap.objs.size) (base:=PySem.W.hideAll s2.heap (iB (envOfC qual scope s.heap.objs.size f cd::outer))) (h:=s2.heap) (show(A.deeper (envOfC qual scope s.heap.objs.size f cd)).frames=some (envOfC qual scope s.heap.objs.size f cd::outer) from I2.ok.frames) rfl (fun b o q=>PySem.W.of_hideAll _ q) (PySem.W.funFrames_hide LV pL) hx fun h'' tt fl tu tn us=>?_;have Kr:∀ b o,s.heap.get? b=some o->H b=none->b∈iB outer->∃ sl,h''.get? b=some { o with slots:=sl }:=fun b o q n hb=>by
  obtain⟨sl,e1⟩:=ub.slot b o q n hb @2;obtain⟨_,o2,e2,nd⟩:=LV.mem (show b∈(envOfC qual scope s.heap.objs.size f cd::outer).filterMap (·.frame) from aaI _ hb);rw[e1]at e2;cases e2;obtain⟨Vl,e3⟩:=us b _ (hx.keeps b _ e1) nd;exact⟨Vl,e3⟩
 refine⟨a,C,H2,_,_,rfl,I2.os,I2.bare,⟨fun b o q n nf _=>fl.1 b o (UC b o q n nf),fun b o q n hb _=>Kr b o q n hb,ub.free,fun b o q _=>?_,ub.rC,ub.pN,ub.rD⟩,I2.cu.stays fun b u ob hb q=>?_,?_,fl,UC,Nr,fun b u n=>?_,q2.2⟩
 .cases hH:H b with
  | some u =>
   obtain⟨o',e'⟩:=Nr b o u q hH;exact⟨o',fl.1 b o' e'⟩
  | none =>
   by_cases hb:b∈iB outer
   .obtain⟨sl,e3⟩:=Kr b o q hH hb;exact⟨_,e3⟩
   .exact⟨o,fl.1 b o (UC b o q hH hb)⟩
 .obtain⟨o',e',e2⟩:=G2 b u hb;rw[q]at e2;cases e2;exact fl.1 b _ e'
 .cases n:H2 a with
  | none=>rfl
  | some u =>
   obtain⟨_,_,e2⟩:=G2 a u n;rw[hx.new]at e2;cases e2
 .obtain⟨o',e',_⟩:=G2 b u n;exact⟨o',e'⟩
end
noncomputable def Cx.RF(X:Cx)(xe:xz):Cx:={ X with xe:=xe }
noncomputable def Cx.marked(X:Cx)(a:Addr)(xe:xz):Cx:={ X with A:=X.A.mark (some (.ref a)),calm:=false,xe:=xe }
def Wj(a:Addr)(cls:Value):HO:=.ext fun h=>∃ o,h.get? a=some o/\o.cls=cls
section
variable {K:zn}{E:XK}
theorem se{x:Str}{np:Pos}{e:Expr}{t:TA}(hk:sd K C)(hm:mg x=some (.ref C))(ha:SA (gC (wI P w) P w K mg base N qual scope f cd A outer s H E) (e::es) t)(hs:autoParam ((e::es).all noStar=true) ra0)(hg:autoParam (Gl (gC (wI P w) P w K mg base N qual scope f cd A outer s H E) x) ra0)(hd:autoParam ((x == ("__debug__":Str))=false) ra1) :
  SS (gC (wI P w) P w K mg base N qual scope f cd A outer s H E) (.Raise (some (.Call (.Name x np) (e::es) [] gD)) none pos) (xM C E t) :=
 ⟨DO hk hg hm ha.run hd (dh es _ (by rw[abh,aaN]at hs;exact hs.1)) (gv (by rw[abh,aaN]at hs;exact hs.2))⟩
end
theorem cR.okX{K:zn}{x:Str}{st:Stmt}{k:Nat}{sp:Sp}(F:cR K x qual st f fd)(S:az N ps (defScope st))(len:∀ vs H Q E,sp vs H Q E->vs.length=ps.length)(eG:∀(bB:Value) (A:tx) (outer:List Env) (s:Shared) (H:Hp) (vs:List V) (Q:VK) (E:XK),de k (A.deeper (envOfC qual (defScope st) s.heap.objs.size f bB))->sp vs H Q E ->
   ∃ t,ua (gC (wI P w) P w K mg base N qual (defScope st) f bB A outer s H E) (defBody st) t/\t { nx:=fun _ H'=>Q .dH H',rt:=Q } (start N vs) H):ba P w K mg base (wI P w) (k+1) f fd ps sp:=by
 obtain⟨oc,od,kV,doc,pm,an,bB,ct,xl,rfl,lk,AS⟩:=F.ex;refine JY lk AS S len fun A outer s H vs Q E hr xm=>?_;obtain⟨t,h,q⟩:=eG bB A outer s H vs Q E hr xm;exact⟨t,h.run,q⟩
structure Wk(P:u8)(w:World)(K:zn)(mg:xL)(base:Heap)(k:Nat)(x:Str)(f:Addr)(fd:wT)(ps:wv)(sp:Sp):Prop where
 ok:ba P w K mg base (wI P w) k f fd ps sp
 b:Binds K fd ps []
 kp:PySem.W.keepIn K (.ref f)=true
 m:mg x=some (.ref f)
set_option genInjectivity true in
inductive DV where
 | im (d:PyData) | pt (p:Addr) | cst (xs:List V) | rf (a:Addr) | ty (n:String) | wJ (c:Addr) | raw (xs:List V) | lH (ns:wn) | tp (xs:List (PyData ⊕ Addr))
set_option genInjectivity true in
inductive Cell where
 | lst (xs:List DV) | aI (g:Addr) (n:Nat) | part | dk (kvs:List (Key×DV)) | dt (kvs:List (List Key×DV)) | ob (k d:Addr) (fs:List (Str×DV))
variable {c:Cell}
abbrev Wd:=Addr->Option Cell
variable {W:Wd}
def aG(W:Wd)(p:Addr)(c:Cell):Wd:=fun a=>if a=p then some c else W a
def sf(W:Wd)(p:Addr):Wd:=fun a=>if a=p then none else W a
theorem av:aG W p c p=some c:=by unfold aG;rw[aaO rfl]
theorem aB(h:a≠p):aG W p c a=W a:=by unfold aG;rw[aaD h]
theorem lU{c':Cell}:aG (aG W p c) p c'=aG W p c':=by funext a;unfold aG;split<;>rfl
theorem iV:sf W p p=none:=by unfold sf;rw[aaO rfl]
theorem jg(h:a≠p):sf W p a=W a:=by unfold sf;rw[aaD h]
open Classical in
noncomputable def hide (O:Addr->Prop) (H:Hp):Hp:=fun a=>if O a then none else H a
theorem aD{O:Addr->Prop}{o:HO}:hide O H a=some o↔¬ O a/\H a=some o:=by
 unfold hide
 by_cases h:O a
 .rw[aaO h];exact⟨(fun z=>by cases z),(fun z=>absurd h z.1)⟩
 .rw[aaD h];exact⟨fun z=>⟨h,z⟩,fun z=>z.2⟩
def Mu(o:Option HO):Prop:=∃ u,o=some u/\∀ xs,u≠.tup xs
theorem Mu.ne{o:Option HO}(h:Mu o):o≠none:=by obtain⟨u,e,_⟩:=h;rw[e];exact fun z=>nomatch z
structure DC where
 K:zn
 Rs:Hp->Addr->Addr->Nat->Prop
 H0:Hp
 T:Addr->Prop
 O:Addr->Prop
 E:XK
 ex:Addr->Prop
structure DC.Ok(C:DC):Prop where
 rs:∀{H H':Hp} {t g:Addr} {n:Nat},C.Rs H t g n->H' t=H t->H' g=H g->C.Rs H' t g n
 rn:∀{H:Hp} {t g:Addr} {n:Nat},C.Rs H t g n->Mu (H t)/\Mu (H g)
 ex:∀ c,C.ex c->∀ H',(∀ a o,C.H0 a=some o->¬ C.T a->H' a=some o)->C.E (.ref c) none H'
noncomputable def Fz (C:DC) (W:Wd) (H:Hp):Hp:=hide (fun a=>C.O a\/(W a).isSome=true) H
noncomputable def gY(F:Hp):List (PyData ⊕ Addr)->List V->Prop
 | [],vs=>vs=[]
 | .inl d::r,vs=>∃ y ys,vs=y::ys/\Rep F d y/\gY F r ys
 | .inr p::r,vs=>∃ ys,vs=.ref p::ys/\gY F r ys
theorem gY.same{F F':Hp}(s:aQ F F'):∀{ts:List (PyData ⊕ Addr)} {vs:List V},gY F ts vs->gY F' ts vs
 | [],_,h=>h
 | .inl _::_,_,⟨y,ys,e,h,r⟩=>⟨y,ys,e,Rep.same s h,gY.same s r⟩
 | .inr _::_,_,⟨ys,e,r⟩=>⟨ys,e,gY.same s r⟩
noncomputable def eF(C:DC)(F:Hp):DV->V->Prop
 | .im d,x=>Rep F d x
 | .pt p,x=>x=.ref p
 | .cst xs,x=>∃ a,x=.ref a/\∀ H,fX C.K H a xs
 | .rf a,x=>x=.ref a
 | .ty n,x=>x=.ty n
 | .wJ c,x=>∃ a,x=.ref a/\F a=some (Wj a (.ref c))
 | .raw xs,x=>∃ a,x=.ref a/\F a=some (.tup xs)
 | .lH ns,x=>∃ a,x=.ref a/\gk C.K F a (ns.map V.int)
 | .tp ts,x=>∃ a vs,x=.ref a/\F a=some (.tup vs)/\gY F ts vs
noncomputable def aO(C:DC)(F:Hp):List DV->List V->Prop
 | [],xs=>xs=[]
 | d::ds,xs=>∃ y ys,xs=y::ys/\eF C F d y/\aO C F ds ys
noncomputable def P9:PyData ⊕ Addr->DV
 | .inl d=>.im d
 | .inr p=>.pt p
theorem oJ{C:DC}{F:Hp}:∀{ts:List (PyData ⊕ Addr)} {vs:List V},gY F ts vs->aO C F (ts.map P9) vs
 | [],_,h=>h
 | .inl _::_,_,⟨y,ys,e,h,r⟩=>⟨y,ys,e,h,oJ r⟩
 | .inr _::_,_,⟨ys,e,r⟩=>⟨_,ys,e,rfl,oJ r⟩
theorem xN{C:DC}{F:Hp}:∀{ts:List (PyData ⊕ Addr)} {vs:List V},aO C F (ts.map P9) vs->gY F ts vs
 | [],_,h=>h
 | .inl _::_,_,⟨y,ys,e,h,r⟩=>⟨y,ys,e,h,xN r⟩
 | .inr _::_,_,⟨y,ys,e,h,r⟩=>⟨ys,by rw[e,show y=V.ref _ from h],xN r⟩
noncomputable def bX(C:DC)(W:Wd)(H:Hp)(p:Addr):Cell->Prop
 | .lst aK=>∃ xs,H p=some (.lst xs)/\aO C (Fz C W H) aK xs
 | .aI g n=>C.Rs H p g n/\W g=some .part/\∀ t' g' n',W t'=some (.aI g' n')->t'=p
 | .part=>Mu (H p)
 | .dk kvs=>∃ kvs',H p=some (.dK kvs')/\kvs'.map (·.1)=kvs.map (·.1)/\aO C (Fz C W H) (kvs.map (·.2)) (kvs'.map (·.2))
 | .dt kvs=>∃ kvs',H p=some (.dT kvs')/\kvs'.map (·.1)=kvs.map (·.1)/\aO C (Fz C W H) (kvs.map (·.2)) (kvs'.map (·.2))
 | .ob k d fs=>∃ gK,H p=some (.ins k d gK)/\gK.map (·.1)=fs.map (·.1)/\aO C (Fz C W H) (fs.map (·.2)) (gK.map (·.2))
abbrev bW:=List (Option DV)
noncomputable def Slots(C:DC)(F:Hp):bW->St->Prop
 | [],[]=>True
 | none::Y,_::Z=>Slots C F Y Z
 | some dv::Y,some v::Z=>eF C F dv v/\Slots C F Y Z
 | _,_=>False
structure DR(C:DC)(Z:St)(H:Hp)(Y:bW)(W:Wd):Prop where
 ok:C.Ok
 fr:∀ a o,C.H0 a=some o->¬ C.T a->H a=some o
 ho:∀ a,C.O a->H a≠none
 th:∀ a,C.T a->H a≠none
 sl:Slots C (Fz C W H) Y Z
 ce:∀ p c,W p=some c->(C.H0 p=none\/C.T p)/\¬ C.O p/\bX C W H p c
section
variable {C:DC}{F F':Hp}{Z:St}{Y:bW}{H':Hp}{W':Wd}{dv:DV}{x:V}{aK:List DV}{xs:List V}
theorem eF.mono(s:aQ F F'):∀{dv:DV},eF C F dv x->eF C F' dv x
 | .im _,h=>Rep.same s h
 | .pt _,h=>h
 | .cst _,h=>h
 | .rf _,h=>h
 | .ty _,h=>h
 | .wJ _,⟨a,e,h⟩=>⟨a,e,s _ _ h⟩
 | .raw _,⟨a,e,h⟩=>⟨a,e,s _ _ h⟩
 | .lH _,⟨a,e,h⟩=>⟨a,e,s.seq h⟩
 | .tp _,⟨a,vs,e,h,r⟩=>⟨a,vs,e,s _ _ h,r.same s⟩
theorem aO.mono(s:aQ F F'):∀{aK:List DV} {xs:List V},aO C F aK xs->aO C F' aK xs
 | [],_,h=>h
 | _::_,_,⟨y,ys,e,h,r⟩=>⟨y,ys,e,h.mono s,aO.mono s r⟩
theorem aO.length:∀{aK:List DV} {xs:List V},aO C F aK xs->aK.length=xs.length
 | [],_,h=>by cases h;rfl
 | _::_,_,⟨y,ys,e,_,r⟩=>by subst e;simp[aO.length r]
theorem aO.get:∀{aK:List DV} {xs:List V} {i:Nat} {dv:DV},aO C F aK xs->aK[i]?=some dv->∃ x,xs[i]?=some x/\eF C F dv x
 | [],_,_,_,_,e=>by simp at e
 | _::_,_,0,_,⟨y,ys,e1,r,_⟩,e=>by simp at e;subst e e1;exact⟨y,rfl,r⟩
 | _::_,_,i+1,d,⟨y,ys,e1,_,rs⟩,e=>by
  obtain⟨x,h1,h2⟩:=aO.get (i:=i) (dv:=d) rs (by simpa using e);subst e1;exact⟨x,by simpa using h1,h2⟩
theorem aO.get'{i:Nat}(r:aO C F aK xs)(e:xs[i]?=some x):∃ dv,aK[i]?=some dv/\eF C F dv x:=by
 have hl:=r.length;have hi:i < xs.length:=(aaH.mp e).1;obtain⟨y,h1,h2⟩:=r.get (i:=i) (dv:=aK[i]) (by simp[hl,hi]);rw[e]at h1;cases h1;exact⟨_,by simp[hl,hi],h2⟩
theorem aO.append:∀{aK:List DV} {xs:List V} {RG:List DV} {GR:List V},aO C F aK xs->aO C F RG GR->aO C F (aK++RG) (xs++GR)
 | [],_,_,_,h,h'=>by cases h;exact h'
 | _::_,_,_,_,⟨y,ys,e,h,r⟩,h'=>by subst e;exact⟨y,_,rfl,h,aO.append r h'⟩
theorem aO.one(h:eF C F dv x):aO C F [dv] [x]:=⟨x,[],rfl,h,rfl⟩
theorem aO.set:∀{aK:List DV} {xs:List V} (i:Nat),aO C F aK xs->eF C F dv x->aO C F (aK.set i dv) (xs.set i x)
 | [],_,_,h,_=>by cases h;exact rfl
 | _::_,_,0,⟨y,ys,e,h,r⟩,h'=>by subst e;exact⟨x,ys,rfl,h',r⟩
 | _::_,_,i+1,⟨y,ys,e,h,r⟩,h'=>by subst e;exact⟨y,_,rfl,h,aO.set i r h'⟩
theorem aO.take:∀{aK:List DV} {xs:List V} (i:Nat),aO C F aK xs->aO C F (aK.take i) (xs.take i)
 | [],_,_,h=>by cases h;simp[aO]
 | _::_,_,0,_=>by simp[aO]
 | _::_,_,i+1,⟨y,ys,e,h,r⟩=>by subst e;exact⟨y,_,rfl,h,aO.take i r⟩
theorem aO.drop:∀{aK:List DV} {xs:List V} (i:Nat),aO C F aK xs->aO C F (aK.drop i) (xs.drop i)
 | [],_,_,h=>by cases h;simp[aO]
 | _::_,_,0,h=>h
 | _::_,_,i+1,⟨y,ys,e,h,r⟩=>by subst e;exact aO.drop i r
theorem aO.erase:∀{aK:List DV} {xs:List V} (i:Nat),aO C F aK xs->aO C F (aK.eraseIdx i) (xs.eraseIdx i)
 | [],_,_,h=>by cases h;exact rfl
 | _::_,_,0,⟨y,ys,e,h,r⟩=>by subst e;exact r
 | _::_,_,i+1,⟨y,ys,e,h,r⟩=>by subst e;exact⟨y,_,rfl,h,aO.erase i r⟩
theorem aO.rep(k:Nat)(h:aO C F aK xs):aO C F (List.replicate k aK).flatten (List.replicate k xs).flatten:=by
 induction k with
 | zero=>exact rfl
 | succ k ih=>rw[abU,abU,ack,ack];exact h.append ih
theorem aO.gZ:∀{ds:wE} {xs:List V},ay F ds xs->aO C F (ds.map .im) xs
 | [],_,h=>h
 | _::_,_,⟨y,ys,e,h,r⟩=>⟨y,ys,e,h,aO.gZ r⟩
theorem aO.uN:∀{ds:wE} {xs:List V},aO C F (ds.map .im) xs->ay F ds xs
 | [],_,h=>h
 | _::_,_,⟨y,ys,e,h,r⟩=>⟨y,ys,e,h,aO.uN r⟩
theorem Slots.mono(s:aQ F F'):∀{Y:bW} {Z:St},Slots C F Y Z->Slots C F' Y Z
 | [],[],h=>h
 | none::Y,_::Z,h=>Slots.mono (Y:=Y) (Z:=Z) s h
 | some _::_,some _::_,h=>⟨h.1.mono s,Slots.mono s h.2⟩
 | some _::_,none::_,h=>h.elim
 | [],_::_,h=>h.elim
 | none::_,[],h=>h.elim
 | some _::_,[],h=>h.elim
theorem Slots.get:∀{Y:bW} {Z:St} {i:Nat} {dv:DV},Slots C F Y Z->Y[i]?=some (some dv)->∃ v,Z[i]?=some (some v)/\eF C F dv v
 | [],[],_,_,_,e=>by simp at e
 | none::_,_::_,0,_,_,e=>by simp at e
 | none::Y,_::Z,i+1,_,h,e=>by
  obtain⟨v,h1,h2⟩:=Slots.get (Y:=Y) (Z:=Z) (i:=i) h (by simpa using e);exact⟨v,by simpa using h1,h2⟩
 | some _::_,some v::_,0,_,h,e=>by simp at e;subst e;exact⟨v,rfl,h.1⟩
 | some _::_,some _::_,i+1,_,h,e=>by
  obtain⟨v,h1,h2⟩:=Slots.get (i:=i) h.2 (by simpa using e);exact⟨v,by simpa using h1,h2⟩
 | some _::_,none::_,_,_,h,_=>h.elim
 | [],_::_,_,_,h,_=>h.elim
 | none::_,[],_,_,h,_=>h.elim
 | some _::_,[],_,_,h,_=>h.elim
theorem Slots.set{v:V}(hv:eF C F dv v):∀{Y:bW} {Z:St} (i:Nat),Slots C F Y Z->Slots C F (Y.set i (some dv)) (Z.set i (some v))
 | [],[],_,h=>by cases ‹Nat›<;>exact h
 | none::_,_::_,0,h=>⟨hv,h⟩
 | none::Y,_::Z,i+1,h=>Slots.set (Y:=Y) (Z:=Z) hv i h
 | some _::_,some _::_,0,h=>⟨hv,h.2⟩
 | some _::_,some _::_,i+1,h=>⟨h.1,Slots.set hv i h.2⟩
 | some _::_,none::_,_,h=>h.elim
 | [],_::_,_,h=>h.elim
 | none::_,[],_,h=>h.elim
 | some _::_,[],_,h=>h.elim
theorem Slots.at(h:Slots C F Y Z)(i:Nat):Slots C F [(Y[i]?).join] [(Z[i]?).join]:=by
 cases e:(Y[i]?).join with
 | none=>exact trivial
 | some dv =>
  have e':Y[i]?=some (some dv):=by
   cases q:Y[i]? with
   | none=>rw[q]at e;cases e
   | some o=>rw[q]at e;exact ab4 some e
  obtain⟨v,h1,h2⟩:=h.get e';rw[h1];exact⟨h2,trivial⟩
def Br(ix:List (Option Nat))(Y:bW):bW:=ix.map fun o=>match o with | none=>none | some j=>(Y[j]?).join
theorem Slots.blk(h:Slots C F Y Z):∀ ix:List (Option Nat),Slots C F (Br ix Y) (L2.blk ix Z)
 | []=>trivial
 | none::r=>by show Slots C F (none::Br r Y) (none::L2.blk r Z);exact Slots.blk h r
 | some j::r=>by
  have h1:=h.at j;have h2:=Slots.blk h r;show Slots C F ((Y[j]?).join::Br r Y) ((Z[j]?).join::L2.blk r Z);cases e:(Y[j]?).join with
  | none=>exact h2
  | some dv =>
   rw[e]at h1;cases e2:(Z[j]?).join with
   | none=>rw[e2]at h1;exact h1.elim
   | some v=>rw[e2]at h1;exact⟨h1.1,h2⟩
theorem Fz.le{o:HO}(h:Fz C W H a=some o):H a=some o:=(aD.mp h).2
theorem Fz.sm:aQ (Fz C W H) H:=fun _ _ h=>Fz.le h
theorem Fz.same(hW:∀ a,(W' a).isSome=true->(W a).isSome=true\/H a=none)(hH:∀ a o,H a=some o->W a=none->H' a=some o):aQ (Fz C W H) (Fz C W' H'):=fun a o h=>by
 obtain⟨h1,h2⟩:=aD.mp h;refine aD.mpr ⟨fun z=>?_,hH a o h2 ?_⟩
 .rcases z with z | z
  .exact h1 (.inl z)
  .rcases hW a z with q | q
   .exact h1 (.inr q)
   .rw[q]at h2;cases h2
 .cases e:W a with
  | none=>rfl
  | some c=>exact absurd (.inr (by rw[e];rfl)) h1
theorem bX.mono{c:Cell}(s:aQ (Fz C W H) (Fz C W' H'))(ok:C.Ok)(hp:H' p=H p)(hg:∀ g,W g=some .part->W' g=some .part/\H' g=H g)(ht:∀ t' g' n',W' t'=some (.aI g' n')->∃ n,W t'=some (.aI g' n))(h:bX C W H p c):bX C W' H' p c:=by
 cases c with
 | lst aK=>obtain⟨xs,e,r⟩:=h;exact⟨xs,by rw[hp];exact e,r.mono s⟩
 | aI g n =>
  obtain⟨r,e,u⟩:=h;refine⟨ok.rs r hp (hg g e).2,(hg g e).1,fun t' g' n' q=>?_⟩;obtain⟨m,q⟩:=ht t' g' n' q;exact u t' g' m q
 | part=>show Mu (H' p);rw[hp];exact h
 | dk kvs=>obtain⟨ks,e,k,r⟩:=h;exact⟨ks,by rw[hp];exact e,k,r.mono s⟩
 | dt kvs=>obtain⟨ks,e,k,r⟩:=h;exact⟨ks,by rw[hp];exact e,k,r.mono s⟩
 | ob _ _ kvs=>obtain⟨ks,e,k,r⟩:=h;exact⟨ks,by rw[hp];exact e,k,r.mono s⟩
theorem bX.there(ok:C.Ok)(h:bX C W H p c):H p≠none:=by
 cases c with
 | lst aK=>obtain⟨xs,e,r⟩:=h;rw[e];exact fun z=>nomatch z
 | aI g n=>exact(ok.rn h.1).1.ne
 | part=>exact h.ne
 | dk kvs=>obtain⟨ks,e,k,r⟩:=h;rw[e];exact fun z=>nomatch z
 | dt kvs=>obtain⟨ks,e,k,r⟩:=h;rw[e];exact fun z=>nomatch z
 | ob _ _ kvs=>obtain⟨ks,e,k,r⟩:=h;rw[e];exact fun z=>nomatch z
theorem bX.mu(ok:C.Ok)(h:bX C W H p c):Mu (H p):=by
 cases c with
 | lst aK=>obtain⟨xs,e,r⟩:=h;exact⟨_,e,fun _ z=>nomatch z⟩
 | aI g n=>exact(ok.rn h.1).1
 | part=>exact h
 | dk kvs=>obtain⟨ks,e,k,r⟩:=h;exact⟨_,e,fun _ z=>nomatch z⟩
 | dt kvs=>obtain⟨ks,e,k,r⟩:=h;exact⟨_,e,fun _ z=>nomatch z⟩
 | ob _ _ kvs=>obtain⟨ks,e,k,r⟩:=h;exact⟨_,e,fun _ z=>nomatch z⟩
theorem DR.there(D:DR C Z H Y W)(h:W p=some c):H p≠none:=(D.ce p c h).2.2.there D.ok
theorem DR.fresh(D:DR C Z H Y W)(h:H p=none):W p=none:=by
 cases e:W p with
 | none=>rfl
 | some c=>exact absurd h (D.there e)
theorem DR.nO(D:DR C Z H Y W)(h:H p=none):¬ C.O p:=fun z=>D.ho p z h
theorem DR.Ku(D:DR C Z H Y W)(h:H p=none):C.H0 p=none:=by
 cases e:C.H0 p with
 | none=>rfl
 | some o =>
  by_cases ht:C.T p
  .exact absurd h (D.th p ht)
  .rw[D.fr p o e ht]at h;cases h
theorem DR.step(D:DR C Z H Y W)(hW:∀ a,(W' a).isSome=true->(W a).isSome=true\/H a=none)(hH:∀ a o,H a=some o->W a=none->H' a=some o)(hn:∀ a,H a≠none->H' a≠none)(hc:aQ (Fz C W H) (Fz C W' H')->∀ p c,W' p=some c->(C.H0 p=none\/C.T p)/\¬ C.O p/\bX C W' H' p c):DR C Z H' Y W'/\aQ (Fz C W H) (Fz C W' H'):=by
 have s:=Fz.same (C:=C) hW hH;refine⟨⟨D.ok,fun a o e ht=>?_,fun a ha=>hn a (D.ho a ha),fun a ha=>hn a (D.th a ha),D.sl.mono s,hc s⟩,s⟩;refine hH a o (D.fr a o e ht) ?_;cases q:W a with
 | none=>rfl
 | some c =>
  rcases (D.ce a c q).1 with z | z
  .rw[e]at z;cases z
  .exact absurd z ht
end
end L2
namespace L2
open PySem PySem.Spec PyProof.Rows
variable {H F:Hp}{d dx:PyData}
def Cell.plain:Cell->Bool
 | .aI _ _=>false
 | .part=>false
 | _=>true
section
variable {C:DC}{Z:St}{Y:bW}{H':Hp}{W W':Wd}{p:Addr}{dv:DV}{x:V}{aK Wl:List DV}{xs:List V}
theorem uO{a:Addr}{o u:HO}(h:H p=none)(e:H a=some o):upd H p u a=some o:=by rw[bA (cq e h)];exact e
theorem xO{a:Addr}{o:HO}(h:H a≠none):upd H p o a≠none:=by
 unfold upd;split
 .exact fun z=>nomatch z
 .exact h
theorem DR.Cm(D:DR C Z H Y W)(h:H p=none)(o:HO):DR C Z (upd H p o) Y W/\aQ (Fz C W H) (Fz C W (upd H p o))/\Fz C W (upd H p o) p=some o:=by
 have np:∀ a,H a≠none->a≠p:=fun a ha z=>ha (by rw[z];exact h);obtain⟨d,s⟩:=D.step (W':=W) (H':=upd H p o) (fun a z=>.inl z) (fun a u e _=>uO h e) (fun a ha=>xO ha) fun s q c e=>by
  obtain⟨h1,h2,h3⟩:=D.ce q c e;exact⟨h1,h2,h3.mono s D.ok (bA (np q (D.there e))) (fun g hg=>⟨hg,bA (np g (D.there hg))⟩) fun t' g' n' z=>⟨n',z⟩⟩
 refine⟨d,s,aD.mpr ⟨fun z=>?_,cv⟩⟩;rcases z with z | z
 .exact D.nO h z
 .rw[D.fresh h]at z;cases z
theorem DR.Nu{c:Cell}{o:HO}(D:DR C Z H Y W)(h:H p=none)(hp:c.plain=true)(hc:aQ (Fz C W H) (Fz C (aG W p c) (upd H p o))->bX C (aG W p c) (upd H p o) p c):DR C Z (upd H p o) Y (aG W p c)/\aQ (Fz C W H) (Fz C (aG W p c) (upd H p o)):=by
 have np:∀ a,H a≠none->a≠p:=fun a ha z=>ha (by rw[z];exact h);refine D.step (fun a z=>?_) (fun a u e _=>uO h e) (fun a ha=>xO ha) fun s q c' e=>?_
 .by_cases hq:a=p
  .exact .inr (by rw[hq];exact h)
  .rw[aB hq]at z;exact .inl z
 .by_cases hq:q=p
  .subst hq;rw[av]at e;cases e;exact⟨.inl (D.Ku h),D.nO h,hc s⟩
  .rw[aB hq]at e;obtain⟨h1,h2,h3⟩:=D.ce q c' e;refine⟨h1,h2,h3.mono s D.ok (bA hq) (fun g hg=>?_) fun t' g' n' z=>?_⟩
   .have:=np g (D.there hg);exact⟨by rw[aB this];exact hg,bA this⟩
   .by_cases ht:t'=p
    .subst ht;rw[av]at z;cases z;cases hp
    .rw[aB ht]at z;exact⟨n',z⟩
theorem DR.Wm(D:DR C Z H Y W)(h:H p=none)(r:aO C (Fz C W H) aK xs):DR C Z (upd H p (.lst xs)) Y (aG W p (.lst aK))/\aQ (Fz C W H) (Fz C (aG W p (.lst aK)) (upd H p (.lst xs))) :=
 D.Nu h rfl fun s=>⟨xs,cv,r.mono s⟩
theorem DR.Qa{c c0:Cell}{o:HO}(D:DR C Z H Y W)(e:W p=some c0)(h0:c0.plain=true)(h1:c.plain=true)(hc:aQ (Fz C W H) (Fz C (aG W p c) (upd H p o))->bX C (aG W p c) (upd H p o) p c):DR C Z (upd H p o) Y (aG W p c)/\aQ (Fz C W H) (Fz C (aG W p c) (upd H p o)):=by
 refine D.step (fun a z=>?_) (fun a u q w=>?_) (fun a ha=>xO ha) fun s q c' e'=>?_
 .by_cases hq:a=p
  .exact .inl (by rw[hq,e];rfl)
  .rw[aB hq]at z;exact .inl z
 .rw[bA (fun z=>by rw[z,e]at w;cases w)];exact q
 .by_cases hq:q=p
  .subst hq;rw[av]at e';cases e';exact⟨(D.ce q c0 e).1,(D.ce q c0 e).2.1,hc s⟩
  .rw[aB hq]at e';obtain⟨kn,h2,h3⟩:=D.ce q c' e';refine⟨kn,h2,h3.mono s D.ok (bA hq) (fun g hg=>?_) fun t' g' n' z=>?_⟩
   .have:g≠p:=fun z=>by rw[z,e]at hg;cases hg;cases h0
    exact⟨by rw[aB this];exact hg,bA this⟩
   .by_cases ht:t'=p
    .subst ht;rw[av]at z;cases z;cases h1
    .rw[aB ht]at z;exact⟨n',z⟩
theorem DR.wr(D:DR C Z H Y W)(e:W p=some (.lst Wl))(r:aO C (Fz C W H) aK xs):DR C Z (upd H p (.lst xs)) Y (aG W p (.lst aK))/\aQ (Fz C W H) (Fz C (aG W p (.lst aK)) (upd H p (.lst xs))) :=
 D.Qa e rfl rfl fun s=>⟨xs,cv,r.mono s⟩
theorem DR.del{c0:Cell}(D:DR C Z H Y W)(e:W p=some c0)(h0:c0.plain=true):DR C Z H Y (sf W p)/\aQ (Fz C W H) (Fz C (sf W p) H):=by
 refine D.step (fun a z=>?_) (fun a u q w=>q) (fun a ha=>ha) fun s q c' e'=>?_
 .by_cases hq:a=p
  .rw[hq,iV]at z;cases z
  .rw[jg hq]at z;exact .inl z
 .by_cases hq:q=p
  .subst hq;rw[iV]at e';cases e'
  .rw[jg hq]at e';obtain⟨kn,h2,h3⟩:=D.ce q c' e';refine⟨kn,h2,h3.mono s D.ok rfl (fun g hg=>?_) fun t' g' n' z=>?_⟩
   .have:g≠p:=fun z=>by rw[z,e]at hg;cases hg;cases h0
    exact⟨by rw[jg this];exact hg,rfl⟩
   .by_cases ht:t'=p
    .subst ht;rw[iV]at z;cases z
    .rw[jg ht]at z;exact⟨n',z⟩
theorem iG{a:Addr}(s:aQ H H')(h:H a≠none):H' a=H a:=by
 cases e:H a with
 | none=>exact absurd e h
 | some o=>exact s a o e
theorem sg(s:aQ H H'):∀ a,H a≠none->H' a≠none:=fun a h=>by rw[iG s h];exact h
theorem DR.same(D:DR C Z H Y W)(s:aQ H H'):DR C Z H' Y W/\aQ (Fz C W H) (Fz C W H'):=by
 refine D.step (fun a z=>.inl z) (fun a u q _=>s a u q) (sg s) fun s' q c e=>?_;obtain⟨h1,h2,h3⟩:=D.ce q c e;exact⟨h1,h2,h3.mono s' D.ok (iG s (D.there e)) (fun g hg=>⟨hg,iG s (D.there hg)⟩) fun t' g' n' z=>⟨n',z⟩⟩
theorem DR.kp{t g:Addr}{n n':Nat}(D:DR C Z H Y W)(e:W t=some (.aI g n))(k:Kp t g H H')(r:C.Rs H' t g n'):DR C Z H' Y (aG W t (.aI g n'))/\aQ (Fz C W H) (Fz C (aG W t (.aI g n')) H'):=by
 obtain⟨_,eg,uq⟩:=(D.ce t _ e).2.2;have keep:∀ a,a≠t->a≠g->H a≠none->H' a=H a:=fun a h1 h2 h=>by
  cases q:H a with
  | none=>exact absurd q h
  | some o=>exact k a o q h1 h2
 have gt:g≠t:=fun z=>by rw[z,e]at eg;cases eg
 refine D.step (fun a z=>?_) (fun a u q w=>?_) (fun a ha=>?_) fun s q c e'=>?_
 .by_cases hq:a=t
  .exact .inl (by rw[hq,e];rfl)
  .rw[aB hq]at z;exact .inl z
 .exact k a u q (fun z=>by rw[z,e]at w;cases w) (fun z=>by rw[z,eg]at w;cases w)
 .by_cases h1:a=t
  .rw[h1];exact(D.ok.rn r).1.ne
  by_cases h2:a=g
  .rw[h2];exact(D.ok.rn r).2.ne
  rw[keep a h1 h2 ha];exact ha
 .by_cases hq:q=t
  .subst hq;rw[av]at e';cases e';refine⟨(D.ce q _ e).1,(D.ce q _ e).2.1,r,by rw[aB gt];exact eg,fun t' g' m z=>?_⟩
   by_cases ht:t'=q
   .exact ht
   .rw[aB ht]at z;exact uq t' g' m z
  .rw[aB hq]at e';obtain⟨kn,h2,h3⟩:=D.ce q c e';refine⟨kn,h2,?_⟩
   by_cases Bs:q=g
   .subst Bs;rw[eg]at e';cases e';exact(D.ok.rn r).2
   .cases c with
    | aI g2 n2=>exact absurd (uq q g2 n2 e') hq
    | part=>show Mu (H' q);rw[keep q hq Bs (D.there e')];exact h3
    | lst ds=>obtain⟨xs,z,rr⟩:=h3;exact⟨xs,k q _ z hq Bs,rr.mono s⟩
    | dk ds=>obtain⟨xs,z,kk,rr⟩:=h3;exact⟨xs,k q _ z hq Bs,kk,rr.mono s⟩
    | dt ds=>obtain⟨xs,z,kk,rr⟩:=h3;exact⟨xs,k q _ z hq Bs,kk,rr.mono s⟩
    | ob _ _ ds=>obtain⟨xs,z,kk,rr⟩:=h3;exact⟨xs,k q _ z hq Bs,kk,rr.mono s⟩
theorem DR.set(D:DR C Z H Y W)(i:Nat)(h:eF C (Fz C W H) dv x):DR C (Z.set i (some x)) H (Y.set i (some dv)) W:=⟨D.ok,D.fr,D.ho,D.th,D.sl.set h i,D.ce⟩
theorem DR.slots{bH:St}{cG:bW}(D:DR C Z H Y W)(h:Slots C (Fz C W H) cG bH):DR C bH H cG W:=⟨D.ok,D.fr,D.ho,D.th,h,D.ce⟩
noncomputable def gx(f:DV->Option PyData):List DV->Option wE
 | []=>some []
 | x::r=>(f x).bind fun d=>(gx f r).map (d::·)
noncomputable def dat:Nat->Wd->DV->Option PyData
 | _,_,.im d=>some d
 | n+1,W,.pt p=>match W p with
  | some (.lst xs)=>(gx (dat n W) xs).map .list
  | _=>none
 | n+1,W,.tp ts=>(gx (dat n W) (ts.map P9)).map .tuple
 | _,_,_=>none
theorem jT{f:DV->Option PyData}(hf:∀ d,f (.im d)=some d):∀ ds:List PyData,gx f (ds.map .im)=some ds
 | []=>rfl
 | d::r=>by rw[aaM];unfold gx;rw[hf,jT hf r];rfl
theorem hU{F:Hp}{f:DV->Option PyData}(hf:∀ dv x d,eF C (Fz C W H) dv x->f dv=some d->Rep F d x):∀{aK:List DV} {xs:List V} {ds:wE},aO C (Fz C W H) aK xs->gx f aK=some ds->ay F ds xs
 | [],_,_,h,e=>by cases h;cases e;exact rfl
 | d::r,_,ds,⟨y,ys,e1,h,hr⟩,e=>by
  unfold gx at e;cases q:f d with
  | none=>rw[q]at e;cases e
  | some d' =>
   rw[q]at e;cases q2:gx f r with
   | none=>rw[q2]at e;cases e
   | some Cn =>
    rw[q2]at e;cases e;exact⟨y,ys,e1,hf _ _ _ h q,hU hf hr q2⟩
def fj:Option Cell->Prop
 | some (.aI _ _)=>True
 | some .part=>True
 | _=>False
theorem gO{o:Option Cell}(h:fj o):∃ c,o=some c:=by
 cases o with
 | none=>exact h.elim
 | some c=>exact⟨c,rfl⟩
theorem DR.dat(D:DR C Z H Y W):∀(n:Nat) {dv:DV} {x:V} {d:PyData},eF C (Fz C W H) dv x->dat n W dv=some d->Rep (hide (fun a=>C.O a\/fj (W a)) H) d x
 | n,.im d',x,d,h,e=>by
  have e':d'=d:=by cases n<;>exact abb e
  subst e';exact Rep.same (fun a o z=>by obtain⟨z1,z2⟩:=aD.mp z;exact aD.mpr ⟨fun w=>z1 (w.elim .inl fun w=>.inr (by obtain⟨c,e⟩:=gO w;rw[e];rfl)),z2⟩) h
 | 0,.pt p,_,_,_,e=>by cases e
 | n+1,.pt p,x,d,h,e=>by
  unfold L2.dat at e;cases q:W p with
  | none=>rw[q]at e;cases e
  | some c =>
   rw[q]at e;cases c with
   | lst ys =>
    cases q2:gx (L2.dat n W) ys with
    | none=>simp[q2]at e
    | some ds =>
     simp[q2]at e;subst e;obtain⟨_,h2,xs,hx,hr⟩:=D.ce p _ q;exact⟨p,xs,h,aD.mpr ⟨fun w=>w.elim h2 fun w=>by rw[q]at w;exact w,hx⟩,hU (fun dv x d h e=>DR.dat D n h e) hr q2⟩
   | aI _ _=>cases e
   | part=>cases e
   | dk _=>cases e
   | dt _=>cases e
   | ob _ _ _=>cases e
 | 0,.cst _,_,_,_,e=>by cases e
 | n+1,.cst _,_,_,_,e=>by cases e
 | 0,.rf _,_,_,_,e=>by cases e
 | n+1,.rf _,_,_,_,e=>by cases e
 | 0,.ty _,_,_,_,e=>by cases e
 | n+1,.ty _,_,_,_,e=>by cases e
 | 0,.wJ _,_,_,_,e=>by cases e
 | n+1,.wJ _,_,_,_,e=>by cases e
 | 0,.raw _,_,_,_,e=>by cases e
 | n+1,.raw _,_,_,_,e=>by cases e
 | 0,.lH _,_,_,_,e=>by cases e
 | n+1,.lH _,_,_,_,e=>by cases e
 | 0,.tp _,_,_,_,e=>by cases e
 | n+1,.tp ts,x,d,h,e=>by
  unfold L2.dat at e;cases q2:gx (L2.dat n W) (ts.map P9) with
  | none=>simp[q2]at e
  | some ds =>
   simp[q2]at e;subst e;obtain⟨p,vs,e1,h1,r⟩:=h;exact⟨p,vs,e1,aD.mpr ⟨fun w=>(aD.mp h1).1 (w.elim .inl fun w=>.inr (by obtain⟨c,e⟩:=gO w;rw[e];rfl)),(aD.mp h1).2⟩,hU (fun dv x d h e=>DR.dat D n h e) (oJ r) q2⟩
theorem HS{O:Addr->Prop}:aQ (hide O H) H:=fun a o h=>(aD.mp h).2
theorem DR.si(D:DR C Z H Y W){n:Nat}(h:eF C (Fz C W H) dv x)(e:L2.dat n W dv=some d):Rep H d x:=(D.dat n h e).same HS
noncomputable def jq(f:Wd->DV->Option (PyData×Wd)):Wd->List DV->Option (List PyData×Wd)
 | W,[]=>some ([],W)
 | W,x::r=>(f W x).bind fun(d,W1)=>(jq f W1 r).map fun(ds,W2)=>(d::ds,W2)
noncomputable def lG:Nat->Wd->DV->Option (PyData×Wd)
 | _,W,.im d=>some (d,W)
 | n+1,W,.pt p=>match W p with
  | some (.lst xs)=>(jq (lG n) (sf W p) xs).map fun(ds,W1)=>(.list ds,W1)
  | _=>none
 | _,_,_=>none
theorem fL{f:Wd->DV->Option (PyData×Wd)}{W:Wd}(hf:∀ W d,f W (.im d)=some (d,W)):∀ ds:List PyData,jq f W (ds.map .im)=some (ds,W)
 | []=>rfl
 | d::r=>by rw[aaM];unfold jq;rw[hf];show(jq f W (r.map .im)).map _=_;rw[fL hf r];rfl
noncomputable def Kv(C:DC)(Z:St)(Y:bW)(f:Wd->DV->Option (PyData×Wd)):Prop:=∀{H:Hp} {W W':Wd} {dv:DV} {x:V} {d:PyData},DR C Z H Y W->eF C (Fz C W H) dv x->f W dv=some (d,W')->DR C Z H Y W'/\aQ (Fz C W H) (Fz C W' H)/\Rep (Fz C W' H) d x/\∀ a,W a=none->W' a=none
theorem iH{f:Wd->DV->Option (PyData×Wd)}(hf:Kv C Z Y f):∀{aK:List DV} {W:Wd} {xs:List V} {ds:wE} {W':Wd},DR C Z H Y W->aO C (Fz C W H) aK xs->jq f W aK=some (ds,W')->DR C Z H Y W'/\aQ (Fz C W H) (Fz C W' H)/\ay (Fz C W' H) ds xs/\∀ a,W a=none->W' a=none
 | [],W,_,_,_,D,h,e=>by cases h;cases e;exact⟨D,aQ.refl _,rfl,fun _ z=>z⟩
 | d::r,W,_,ds,W',D,⟨y,ys,e1,h,hr⟩,e=>by
  unfold jq at e;cases q:f W d with
  | none=>rw[q]at e;cases e
  | some dw =>
   obtain⟨d',W1⟩:=dw;rw[q]at e;cases q2:jq f W1 r with
   | none=>simp[q2]at e
   | some Wn =>
    obtain⟨Cn,W2⟩:=Wn;simp[q2]at e;obtain⟨e3,e4⟩:=e;subst e3 e4;obtain⟨D1,s1,r1,k1⟩:=hf D h q;obtain⟨D2,s2,r2,k2⟩:=iH hf D1 (hr.mono s1) q2;exact⟨D2,s1.trans s2,⟨y,ys,e1,r1.same s2,r2⟩,fun a z=>k2 a (k1 a z)⟩
theorem kq:∀ n:Nat,Kv C Z Y (lG n)
 | n,H,W,W',.im d',x,d,D,h,e=>by
  have e':(d',W)=(d,W'):=by cases n<;>exact abb e
  cases e';exact⟨D,aQ.refl _,h,fun _ z=>z⟩
 | 0,_,_,_,.pt p,_,_,_,_,e=>by cases e
 | n+1,H,W,W',.pt p,x,d,D,h,e=>by
  unfold lG at e;cases q:W p with
  | none=>rw[q]at e;cases e
  | some c =>
   rw[q]at e;cases c with
   | lst ys =>
    cases q2:jq (lG n) (sf W p) ys with
    | none=>simp[q2]at e
    | some dw =>
     obtain⟨ds,W1⟩:=dw;simp[q2]at e;obtain⟨e3,e4⟩:=e;subst e3 e4;obtain⟨_,h2,xs,hx,hr⟩:=D.ce p _ q;obtain⟨D1,s1⟩:=D.del q rfl;obtain⟨D2,s2,r2,k2⟩:=iH (kq n) D1 (hr.mono s1) q2;refine⟨D2,s1.trans s2,⟨p,xs,h,aD.mpr ⟨fun z=>?_,hx⟩,r2⟩,fun a z=>k2 a ?_⟩
     .rcases z with z | z
      .exact h2 z
      .rw[k2 p iV]at z;cases z
     .by_cases ha:a=p
      .rw[ha];exact iV
      .rw[jg ha];exact z
   | aI _ _=>cases e
   | part=>cases e
   | dk _=>cases e
   | dt _=>cases e
   | ob _ _ _=>cases e
 | 0,_,_,_,.cst _,_,_,_,_,e=>by cases e
 | n+1,_,_,_,.cst _,_,_,_,_,e=>by cases e
 | 0,_,_,_,.rf _,_,_,_,_,e=>by cases e
 | n+1,_,_,_,.rf _,_,_,_,_,e=>by cases e
 | 0,_,_,_,.ty _,_,_,_,_,e=>by cases e
 | n+1,_,_,_,.ty _,_,_,_,_,e=>by cases e
 | 0,_,_,_,.wJ _,_,_,_,_,e=>by cases e
 | n+1,_,_,_,.wJ _,_,_,_,_,e=>by cases e
 | 0,_,_,_,.raw _,_,_,_,_,e=>by cases e
 | n+1,_,_,_,.raw _,_,_,_,_,e=>by cases e
 | 0,_,_,_,.lH _,_,_,_,_,e=>by cases e
 | n+1,_,_,_,.lH _,_,_,_,_,e=>by cases e
 | 0,_,_,_,.tp _,_,_,_,_,e=>by cases e
 | n+1,_,_,_,.tp _,_,_,_,_,e=>by cases e
end
abbrev DK:=DV->Wd->Prop
abbrev cZ:=bW->Wd->DK->Prop
abbrev nF:=bW->Wd->(Bool->Wd->Prop)->Prop
abbrev mF:=bW->Wd->(List DV->Wd->Prop)->Prop
abbrev Nv:=bW->Wd->(Option Int->Wd->Prop)->Prop
abbrev qy:=DV->DV->Wd->DK->Prop
noncomputable def KE(C:DC)(Z:St)(Y:bW)(W:Wd)(H:Hp)(Qd:DK)(Q:VK):Prop:=∀ x dv H' W',DR C Z H' Y W'->aQ (Fz C W H) (Fz C W' H')->eF C (Fz C W' H') dv x->Qd dv W'->Q x H'
def UE(C:DC)(Z:St)(Y:bW)(W:Wd)(H:Hp)(Qd:Bool->Wd->Prop)(Q:Bool->Hp->Prop):Prop:=∀ b H' W',DR C Z H' Y W'->aQ (Fz C W H) (Fz C W' H')->Qd b W'->Q b H'
noncomputable def KA(C:DC)(Z:St)(Y:bW)(W:Wd)(H:Hp)(Qd:List DV->Wd->Prop)(Q:List V->Hp->Prop):Prop:=∀ xs aK H' W',DR C Z H' Y W'->aQ (Fz C W H) (Fz C W' H')->aO C (Fz C W' H') aK xs->Qd aK W'->Q xs H'
def KO(C:DC)(Z:St)(Y:bW)(W:Wd)(H:Hp)(Qd:v0->Wd->Prop)(Q:v0->Hp->Prop):Prop:=∀ o H' W',DR C Z H' Y W'->aQ (Fz C W H) (Fz C W' H')->Qd o W'->Q o H'
class lV (C:DC) (K:zn):Prop where
 eq:C.K=K
instance {K:zn}{Rs:Hp->Addr->Addr->Nat->Prop}{H0:Hp}{T O:Addr->Prop}{E:XK}{ex:Addr->Prop}:lV ⟨K,Rs,H0,T,O,E,ex⟩ K:=⟨rfl⟩
class HU (C:DC) (Rs:Hp->Addr->Addr->Nat->Prop):Prop where
 eq:C.Rs=Rs
instance {K:zn}{Rs:Hp->Addr->Addr->Nat->Prop}{H0:Hp}{T O:Addr->Prop}{E:XK}{ex:Addr->Prop}:HU ⟨K,Rs,H0,T,O,E,ex⟩ Rs:=⟨rfl⟩
class Y9 (C:DC) (E:XK) (X:outParam (Addr->Prop)):Prop where
 e:C.E=E
 x:C.ex=X
instance {K:zn}{Rs:Hp->Addr->Addr->Nat->Prop}{H0:Hp}{T O:Addr->Prop}{E:XK}{ex:Addr->Prop}:Y9 ⟨K,Rs,H0,T,O,E,ex⟩ E ex:=⟨rfl,rfl⟩
class LE (C:DC) (t:TE) (d:outParam cZ):Prop where
 go:∀{Z:St} {H:Hp} {Y:bW} {W:Wd} {Qd:DK} {Q:VK},DR C Z H Y W->d Y W Qd->KE C Z Y W H Qd Q->t Z H Q
class LT (C:DC) (t:TT) (d:outParam nF):Prop where
 go:∀{Z:St} {H:Hp} {Y:bW} {W:Wd} {Qd:Bool->Wd->Prop} {Q:Bool->Hp->Prop},DR C Z H Y W->d Y W Qd->UE C Z Y W H Qd Q->t Z H Q
class LA (C:DC) (t:TA) (d:outParam mF):Prop where
 go:∀{Z:St} {H:Hp} {Y:bW} {W:Wd} {Qd:List DV->Wd->Prop} {Q:List V->Hp->Prop},DR C Z H Y W->d Y W Qd->KA C Z Y W H Qd Q->t Z H Q
class LO (C:DC) (t:TO) (d:outParam Nv):Prop where
 go:∀{Z:St} {H:Hp} {Y:bW} {W:Wd} {Qd:v0->Wd->Prop} {Q:v0->Hp->Prop},DR C Z H Y W->d Y W Qd->KO C Z Y W H Qd Q->t Z H Q
class Bt (C:DC) (r:R2) (d:outParam qy):Prop where
 go:∀{Z:St} {H:Hp} {Y:bW} {W:Wd} {Qd:DK} {Q:VK} {a b:DV} {x y:V},DR C Z H Y W->eF C (Fz C W H) a x->eF C (Fz C W H) b y->d a b W Qd->KE C Z Y W H Qd Q->r x y H Q
class Wo (C:DC) (r:V->Hp->VK->Prop) (d:outParam (DV->Wd->DK->Prop)):Prop where
 go:∀{Z:St} {H:Hp} {Y:bW} {W:Wd} {Qd:DK} {Q:VK} {a:DV} {x:V},DR C Z H Y W->eF C (Fz C W H) a x->d a W Qd->KE C Z Y W H Qd Q->r x H Q
class HV (C:DC) (r:List V->Hp->VK->Prop) (d:outParam (List DV->Wd->DK->Prop)):Prop where
 go:∀{Z:St} {H:Hp} {Y:bW} {W:Wd} {Qd:DK} {Q:VK} {as:List DV} {xs:List V},DR C Z H Y W->aO C (Fz C W H) as xs->d as W Qd->KE C Z Y W H Qd Q->r xs H Q
class Qb (C:DC) (r:V->List V->Hp->VK->Prop) (d:outParam (DV->List DV->Wd->DK->Prop)):Prop where
 go:∀{Z:St} {H:Hp} {Y:bW} {W:Wd} {Qd:DK} {Q:VK} {a:DV} {x:V} {as:List DV} {xs:List V},DR C Z H Y W->eF C (Fz C W H) a x->aO C (Fz C W H) as xs->d a as W Qd->KE C Z Y W H Qd Q->r x xs H Q
section
variable {C:DC}{ta tb tc te:TE}{da db dc:cZ}{r r':R2}{dr Wq:qy}{c c':TT}{dt RH:nF}{ts:TA}{ds:mF}{Z:St}{H':Hp}{Y:bW}{W W':Wd}{Qd:DK}{Q:VK}{x:V}{dv:DV}
theorem KE.mono(k:KE C Z Y W H Qd Q)(s:aQ (Fz C W H) (Fz C W' H')):KE C Z Y W' H' Qd Q:=fun x dv H2 W2 D s2 v q=>k x dv H2 W2 D (s.trans s2) v q
theorem KE.now(k:KE C Z Y W H Qd Q)(D:DR C Z H Y W)(v:eF C (Fz C W H) dv x)(q:Qd dv W):Q x H:=k x dv H W D (aQ.refl _) v q
theorem KE.to(k:KE C Z Y W H Qd Q)(D:DR C Z H' Y W'/\aQ (Fz C W H) (Fz C W' H'))(v:eF C (Fz C W' H') dv x)(q:Qd dv W'):Q x H':=k x dv H' W' D.1 D.2 v q
def RI(i:Nat):cZ:=fun Y W Q=>∃ v,Y[i]?=some (some v)/\Q v W
instance {i:Nat}:LE C (LX i) (RI i):=⟨fun D zz k=>by obtain⟨v,e,q⟩:=zz; obtain⟨u,h1,h2⟩:=D.sl.get e;exact⟨u,h1,k.now D h2 q⟩⟩
def dC(v:DV):cZ:=fun _ W Q=>Q v W
instance {n:Int}:LE C (tC (.int n)) (dC (.im (.int n))):=⟨fun D h k=>k.now (dv:=.im (.int n)) D rfl h⟩
instance {b:Bool}:LE C (tC (.bl b)) (dC (.im (.bool b))):=⟨fun D h k=>k.now (dv:=.im (.bool b)) D rfl h⟩
instance {s:Str}:LE C (tC (.str s)) (dC (.im (.str s))):=⟨fun D h k=>k.now (dv:=.im (.str s)) D rfl h⟩
instance:LE C (tC .dH) (dC (.im .none)):=⟨fun D h k=>k.now (dv:=.im .none) D rfl h⟩
instance {n:String}:LE C (tC (.ty n)) (dC (.ty n)):=⟨fun D h k=>k.now (dv:=.ty n) D rfl h⟩
def Za(dr:qy)(da db:cZ):cZ:=fun Y W Q=>da Y W fun v W1=>db Y W1 fun u W2=>dr v u W2 Q
instance [ir:Bt C r dr][ia:LE C ta da][ib:LE C tb db]:LE C (AX r ta tb) (Za dr da db):=⟨fun D h k=>ia.go D h fun x dv H1 W1 D1 s1 v1 h1=>ib.go D1 h1 fun y du H2 W2 D2 s2 v2 h2=>ir.go D2 (v1.mono s2) v2 h2 (k.mono (s1.trans s2))⟩
def Zb(f:DV->Wd->DK->Prop)(da:cZ):cZ:=fun Y W Q=>da Y W fun v W1=>f v W1 Q
instance {u:V->Hp->VK->Prop}{f:DV->Wd->DK->Prop}[iu:Wo C u f][ia:LE C ta da]:LE C (Um u ta) (Zb f da):=⟨fun D h k=>ia.go D h fun x dv H1 W1 D1 s1 v1 h1=>iu.go D1 v1 h1 (k.mono s1)⟩
def Wt(da:cZ):nF:=fun Y W Q=>da Y W fun v W1=>∃ b,v=.im (.bool b)/\Q b W1
instance [ia:LE C ta da]:LT C (tB ta) (Wt da):=⟨fun D h k=>ia.go D h fun x dv H1 W1 D1 s1 v1 zz=>by obtain⟨b,e,q⟩:=zz; subst e;exact⟨b,v1,k b H1 W1 D1 s1 q⟩⟩
instance [ia:LE C ta da]:LT C (zq ta) (Wt da):=⟨fun D h k=>ia.go D h fun x dv H1 W1 D1 s1 v1 zz=>by obtain⟨b,e,q⟩:=zz; subst e;exact⟨b,v1,k b H1 W1 D1 s1 q⟩⟩
def RJ(a b:nF):nF:=fun Y W Q=>a Y W fun c W1=>if c=true then b Y W1 Q else Q false W1
def Zc(a b:nF):nF:=fun Y W Q=>a Y W fun c W1=>if c=true then Q true W1 else b Y W1 Q
def RK(a:nF):nF:=fun Y W Q=>a Y W fun c W1=>Q (!c) W1
theorem UE.mono{Qd:Bool->Wd->Prop}{Q:Bool->Hp->Prop}(k:UE C Z Y W H Qd Q)(s:aQ (Fz C W H) (Fz C W' H')):UE C Z Y W' H' Qd Q:=fun b H2 W2 D s2 q=>k b H2 W2 D (s.trans s2) q
instance [it:LT C c dt][DQ:LT C c' RH]:LT C (L1 c c') (RJ dt RH):=⟨fun D h k=>it.go D h fun b H1 W1 D1 s1 h1=>by
 cases b with
 | true=>exact DQ.go D1 h1 (k.mono s1)
 | false=>exact k false H1 W1 D1 s1 h1⟩
instance [it:LT C c dt][DQ:LT C c' RH]:LT C (Vq c c') (Zc dt RH):=⟨fun D h k=>it.go D h fun b H1 W1 D1 s1 h1=>by
 cases b with
 | true=>exact k true H1 W1 D1 s1 h1
 | false=>exact DQ.go D1 h1 (k.mono s1)⟩
instance [it:LT C c dt]:LT C (L3 c) (RK dt):=⟨fun D h k=>it.go D h fun b H1 W1 D1 s1 h1=>k (!b) H1 W1 D1 s1 h1⟩
def Kw(a b:cZ):cZ:=fun Y W Q=>a Y W fun v W1=>∃ c,v=.im (.bool c)/\if c=true then b Y W1 Q else Q (.im (.bool false)) W1
def RL(a b:cZ):cZ:=fun Y W Q=>a Y W fun v W1=>∃ c,v=.im (.bool c)/\if c=true then Q (.im (.bool true)) W1 else b Y W1 Q
def Kx(a:cZ):cZ:=fun Y W Q=>a Y W fun v W1=>∃ c,v=.im (.bool c)/\Q (.im (.bool (!c))) W1
instance [ia:LE C ta da][ib:LE C tb db]:LE C (CB ta tb) (Kw da db):=⟨fun D h k=>ia.go D h fun x dv H1 W1 D1 s1 v1 zz=>by
 obtain⟨b,e,q⟩:=zz
 subst e;refine⟨b,v1,?_⟩;cases b with
 | true=>exact ib.go D1 q (k.mono s1)
 | false=>exact(k.mono s1).now (dv:=.im (.bool _)) D1 rfl q⟩
instance [ia:LE C ta da][ib:LE C tb db]:LE C (L7 ta tb) (RL da db):=⟨fun D h k=>ia.go D h fun x dv H1 W1 D1 s1 v1 zz=>by
 obtain⟨b,e,q⟩:=zz
 subst e;refine⟨b,v1,?_⟩;cases b with
 | true=>exact(k.mono s1).now (dv:=.im (.bool _)) D1 rfl q
 | false=>exact ib.go D1 q (k.mono s1)⟩
instance [ia:LE C ta da]:LE C (CC ta) (Kx da):=⟨fun D h k=>ia.go D h fun x dv H1 W1 D1 s1 v1 zz=>by obtain⟨b,e,q⟩:=zz; subst e;exact⟨b,v1,(k.mono s1).now (dv:=.im (.bool _)) D1 rfl q⟩⟩
def Zd(c:nF)(a b:cZ):cZ:=fun Y W Q=>c Y W fun k W1=>if k=true then a Y W1 Q else b Y W1 Q
instance [it:LT C c dt][ia:LE C ta da][ib:LE C tb db]:LE C (Vr c ta tb) (Zd dt da db):=⟨fun D h k=>it.go D h fun b H1 W1 D1 s1 h1=>by
 cases b with
 | true=>exact ia.go D1 h1 (k.mono s1)
 | false=>exact ib.go D1 h1 (k.mono s1)⟩
def isNone:DV->Bool
 | .im .none=>true
 | _=>false
theorem qz:∀{dv:DV} {x:V},eF C F dv x->decide (x=.dH)=isNone dv
 | .im .none,x,h=>by rw[show x=.dH from h];rfl
 | .im (.bool _),x,h=>by rw[show x=.bl _ from h];rfl
 | .im (.int _),x,h=>by rw[show x=.int _ from h];exact aaJ (fun z=>nomatch z)
 | .im (.str _),x,h=>by rw[show x=.str _ from h];exact aaJ (fun z=>nomatch z)
 | .im (.list _),x,⟨a,_,e,_⟩=>by rw[e];exact aaJ (fun z=>nomatch z)
 | .im (.tuple _),x,⟨a,_,e,_⟩=>by rw[e];exact aaJ (fun z=>nomatch z)
 | .im (.dict _),x,h=>h.elim
 | .pt _,x,h=>by rw[show x=.ref _ from h];exact aaJ (fun z=>nomatch z)
 | .cst _,x,⟨a,e,_⟩=>by rw[e];exact aaJ (fun z=>nomatch z)
 | .rf _,x,h=>by rw[show x=.ref _ from h];exact aaJ (fun z=>nomatch z)
 | .ty _,x,h=>by rw[show x=.ty _ from h];exact aaJ (fun z=>nomatch z)
 | .wJ _,x,⟨a,e,_⟩=>by rw[e];exact aaJ (fun z=>nomatch z)
 | .raw _,x,⟨a,e,_⟩=>by rw[e];exact aaJ (fun z=>nomatch z)
 | .lH _,x,⟨a,e,_⟩=>by rw[e];exact aaJ (fun z=>nomatch z)
 | .tp _,x,⟨a,_,e,_⟩=>by rw[e];exact aaJ (fun z=>nomatch z)
def RM(a:cZ):cZ:=fun Y W Q=>a Y W fun v W1=>Q (.im (.bool (isNone v))) W1
def Ky(a:cZ):cZ:=fun Y W Q=>a Y W fun v W1=>Q (.im (.bool (!isNone v))) W1
instance [ia:LE C ta da]:LE C (G5 ta) (RM da):=⟨fun D h k=>ia.go D h fun x dv H1 W1 D1 s1 v1 q=>by rw[qz v1];exact(k.mono s1).now (dv:=.im (.bool _)) D1 rfl q⟩
instance [ia:LE C ta da]:LE C (Cy ta) (Ky da):=⟨fun D h k=>ia.go D h fun x dv H1 W1 D1 s1 v1 q=>by rw[qz v1];exact(k.mono s1).now (dv:=.im (.bool _)) D1 rfl q⟩
def DS(r r':qy)(a b c:cZ):cZ:=fun Y W Q=>a Y W fun x W1=>b Y W1 fun y W2=>r x y W2 fun z W3=>∃ k,z=.im (.bool k)/\if k=true then c Y W3 fun w W4=>r' y w W4 Q else Q (.im (.bool false)) W3
instance [ir:Bt C r dr][ir':Bt C r' Wq][ia:LE C ta da][ib:LE C tb db][ic:LE C tc dc]:LE C (xc r r' ta tb tc) (DS dr Wq da db dc):=⟨fun D h k=>ia.go D h fun x dv H1 W1 D1 s1 v1 h1=>ib.go D1 h1 fun y du H2 W2 D2 s2 v2 h2=>ir.go D2 (v1.mono s2) v2 h2 fun z dz H3 W3 D3 s3 v3 zz=>by
 obtain⟨b,e,q⟩:=zz
 subst e;refine⟨b,v3,?_⟩;cases b with
 | true=>exact ic.go D3 q fun w dw H4 W4 D4 s4 v4 h4=>ir'.go D4 ((v2.mono s3).mono s4) v4 h4 (k.mono (((s1.trans s2).trans s3).trans s4))
 | false=>exact(k.mono ((s1.trans s2).trans s3)).now (dv:=.im (.bool _)) D3 rfl q⟩
def RN:mF:=fun _ W Q=>Q [] W
def Kz(a:cZ)(b:mF):mF:=fun Y W Q=>a Y W fun v W1=>b Y W1 fun vs W2=>Q (v::vs) W2
instance:LA C rK RN:=⟨fun D h k=>k [] [] _ _ D (aQ.refl _) rfl h⟩
instance [ia:LE C ta da][is:LA C ts ds]:LA C (om ta ts) (Kz da ds):=⟨fun D h k=>ia.go D h fun x dv H1 W1 D1 s1 v1 h1=>is.go D1 h1 fun xs aK H2 W2 D2 s2 v2 h2=>k (x::xs) (dv::aK) H2 W2 D2 (s1.trans s2) ⟨x,xs,rfl,v1.mono s2,v2⟩ h2⟩
noncomputable def GS:V->DV
 | .dH=>.im .none
 | .bl b=>.im (.bool b)
 | .int i=>.im (.int i)
 | .str s=>.im (.str s)
 | .ref a=>.rf a
 | .ty n=>.ty n
 | _=>.im (.dict [])
theorem Nw:∀{x:V},eW x=true->eF C F (GS x) x
 | .dH,_=>rfl
 | .bl _,_=>rfl
 | .int _,_=>rfl
 | .str _,_=>rfl
 | .ref _,h=>by cases h
 | .ty _,h=>by cases h
 | .zf _,h=>by cases h
 | .G1 _,h=>by cases h
theorem nG{F:Hp}:∀{xs:List V},xs.all eW=true->aO C F (xs.map GS) xs
 | [],_=>rfl
 | x::r,h=>by
  rw[abh,aaN]at h;exact⟨x,r,rfl,Nw h.1,nG h.2⟩
noncomputable def Ze(vs:List V):mF:=fun _ W Q=>vs.all eW=true/\Q (vs.map GS) W
noncomputable instance {vs:List V}:LA C (tK vs) (Ze vs):=⟨fun D h k=>k vs _ _ _ D (aQ.refl _) (nG h.1) h.2⟩
noncomputable def Ny:DV->Option V
 | .rf a=>some (.ref a)
 | .ty n=>some (.ty n)
 | _=>none
noncomputable def DT:List DV->Option (List V)
 | []=>some []
 | x::r=>(Ny x).bind fun v=>(DT r).map (v::·)
theorem HW{v:V}:∀{dv:DV} {x:V},eF C F dv x->Ny dv=some v->x=v
 | .rf a,x,h,e=>by cases e;exact h
 | .ty a,x,h,e=>by cases e;exact h
 | .im _,_,_,e=>by cases e
 | .pt _,_,_,e=>by cases e
 | .cst _,_,_,e=>by cases e
 | .wJ _,_,_,e=>by cases e
 | .raw _,_,_,e=>by cases e
 | .lH _,_,_,e=>by cases e
 | .tp _,_,_,e=>by cases e
theorem zL{F:Hp}:∀{aK:List DV} {xs vs:List V},aO C F aK xs->DT aK=some vs->xs=vs
 | [],_,_,h,e=>by cases h;cases e;rfl
 | d::r,_,_,⟨y,ys,e1,h,hr⟩,e=>by
  unfold DT at e;cases q:Ny d with
  | none=>rw[q]at e;cases e
  | some v =>
   rw[q]at e;cases q2:DT r with
   | none=>simp[q2]at e
   | some vs =>
    simp[q2]at e;subst e;rw[e1,HW h q,zL hr q2]
noncomputable def oK(vs:List DV)(W1:Wd)(Q:DK):Prop:=vs.length<=sizeLine/\((∃ ds W2,jq (lG 3) W1 vs=some (ds,W2)/\Q (.im (.tuple ds)) W2)\/(∃ us,DT vs=some us/\Q (.raw us) W1)\/∃ ts,vs=ts.map P9/\Q (.tp ts) W1)
noncomputable def RO(a:mF):cZ:=fun Y W Q=>a Y W fun vs W1=>oK vs W1 Q
noncomputable instance [is:LA C ts ds]:LE C (MC ts) (RO ds):=⟨fun D h k=>is.go D h fun xs aK H1 W1 D1 s1 v1 ⟨hl,h1⟩=>⟨by rw[<- v1.length];exact hl,fun p hp=>by
 rcases h1 with⟨ds,W2,e,q⟩ | ⟨us,e,q⟩ | ⟨ts',e,q⟩
 .obtain⟨D2,s2,r2,k2⟩:=iH (kq 3) D1 v1 e;obtain⟨D3,s3,e3⟩:=D2.Cm hp (.tup xs);exact k _ (.im (.tuple ds)) _ _ D3 ((s1.trans s2).trans s3) ⟨p,xs,rfl,e3,ay.same s3 r2⟩ q
 .obtain⟨D3,s3,e3⟩:=D1.Cm hp (.tup xs);exact k _ (.raw us) _ _ D3 (s1.trans s3) ⟨p,rfl,by rw[e3,zL v1 e]⟩ q
 .subst e;obtain⟨D3,s3,e3⟩:=D1.Cm hp (.tup xs);exact k _ (.tp ts') _ _ D3 (s1.trans s3) ⟨p,xs,rfl,e3,(xN v1).same s3⟩ q⟩⟩
def iW(vs:List DV)(W:Wd)(Q:DK):Prop:=(∀ p,W p=none->Q (.pt p) (aG W p (.lst vs)))\/∃ ds,vs=ds.map .im/\Q (.im (.list ds)) W
theorem gP{vs:List DV}{xs:List V}{p:Addr}(D:DR C Z H Y W)(r:aO C (Fz C W H) vs xs)(hp:H p=none)(h:iW vs W Qd)(k:KE C Z Y W H Qd Q):Q (.ref p) (upd H p (.lst xs)):=by
 rcases h with h | ⟨ds,rfl,h⟩
 .exact k.to (dv:=.pt p) (D.Wm hp r) rfl (h p (D.fresh hp))
 .obtain⟨D3,s3,e3⟩:=D.Cm hp (.lst xs);exact k _ (.im (.list ds)) _ _ D3 s3 ⟨p,xs,rfl,e3,ay.same s3 r.uN⟩ h
def zM(vs:List DV)(W:Wd)(Q:DK):Prop:=vs.length<=sizeLine/\iW vs W Q
def RP(a:mF):cZ:=fun Y W Q=>a Y W fun vs W1=>zM vs W1 Q
instance [is:LA C ts ds]:LE C (CZ ts) (RP ds):=⟨fun D h k=>is.go D h fun xs aK H1 W1 D1 s1 v1 ⟨hl,h1⟩=>⟨by rw[<- v1.length];exact hl,fun p hp=>by
 exact gP D1 v1 hp h1 (k.mono s1)⟩⟩
class zN (f:Int->Int->V) (g:outParam (Int->Int->PyData)):Prop where
 at_:∀ i j F,Rep F (g i j) (f i j)
instance:zN (fun i j=>.int (i+j)) (fun i j=>.int (i+j)):=⟨fun _ _ _=>rfl⟩
instance:zN (fun i j=>.int (i - j)) (fun i j=>.int (i - j)):=⟨fun _ _ _=>rfl⟩
instance:zN (fun i j=>.int (i * j)) (fun i j=>.int (i * j)):=⟨fun _ _ _=>rfl⟩
instance:zN (fun i j=>.int (i / j)) (fun i j=>.int (i / j)):=⟨fun _ _ _=>rfl⟩
instance:zN (fun i j=>.int (i % j)) (fun i j=>.int (i % j)):=⟨fun _ _ _=>rfl⟩
instance:zN (fun i j=>.int (i ^ j.toNat)) (fun i j=>.int (i ^ j.toNat)):=⟨fun _ _ _=>rfl⟩
instance:zN (fun i j=>.bl (decide (i < j))) (fun i j=>.bool (decide (i < j))):=⟨fun _ _ _=>rfl⟩
instance:zN (fun i j=>.bl (decide (i<=j))) (fun i j=>.bool (decide (i<=j))):=⟨fun _ _ _=>rfl⟩
instance:zN (fun i j=>.bl (decide (j < i))) (fun i j=>.bool (decide (j < i))):=⟨fun _ _ _=>rfl⟩
instance:zN (fun i j=>.bl (decide (j<=i))) (fun i j=>.bool (decide (j<=i))):=⟨fun _ _ _=>rfl⟩
def Zf(g:Int->Int->PyData):qy:=fun a b W Q=>∃ i j,a=.im (.int i)/\b=.im (.int j)/\Q (.im (g i j)) W
def dI(P:Int->Int->Prop)(g:Int->Int->PyData):qy:=fun a b W Q=>∃ i j,a=.im (.int i)/\b=.im (.int j)/\P i j/\Q (.im (g i j)) W
instance {f:Int->Int->V}{g:Int->Int->PyData}[zN f g]:Bt C (GP f) (Zf g):=⟨fun D h1 h2 zz k=>by obtain⟨i,j,e1,e2,q⟩:=zz; subst e1 e2;exact⟨i,j,h1,h2,k.now (dv:=.im (g i j)) D (zN.at_ (f:=f) i j _) q⟩⟩
instance {P:Int->Int->Prop}{f:Int->Int->V}{g:Int->Int->PyData}[zN f g]:Bt C (rI P f) (dI P g):=⟨fun D h1 h2 zz k=>by obtain⟨i,j,e1,e2,p,q⟩:=zz; subst e1 e2;exact⟨i,j,h1,h2,p,k.now (dv:=.im (g i j)) D (zN.at_ (f:=f) i j _) q⟩⟩
def dU(g:Int->PyData):DV->Wd->DK->Prop:=fun a W Q=>∃ i,a=.im (.int i)/\Q (.im (g i)) W
instance:Wo C (rU fun i=>.int (-i)) (dU fun i=>.int (-i)):=⟨fun D h1 zz k=>by obtain⟨i,e1,q⟩:=zz; subst e1;exact⟨i,h1,k.now (dv:=.im (.int (-i))) D rfl q⟩⟩
end
mutual
theorem Rep.inj{H:Hp}:∀{d d':PyData} {v:V},Rep H d v->Rep H d' v->d=d'
 | .none,d',v,h,h'=>by
  rw[show v=.dH from h]at h';cases d' with
  | none=>rfl
  | bool _=>cases (show V.dH=.bl _ from h')
  | int _=>cases (show V.dH=.int _ from h')
  | str _=>cases (show V.dH=.str _ from h')
  | list _=>obtain⟨a,xs,e,_⟩:=h';cases e
  | tuple _=>obtain⟨a,xs,e,_⟩:=h';cases e
  | dict _=>exact h'.elim
 | .bool b,d',v,h,h'=>by
  rw[show v=.bl b from h]at h';cases d' with
  | none=>cases (show V.bl b=.dH from h')
  | bool _=>cases (show V.bl b=.bl _ from h');rfl
  | int _=>cases (show V.bl b=.int _ from h')
  | str _=>cases (show V.bl b=.str _ from h')
  | list _=>obtain⟨a,xs,e,_⟩:=h';cases e
  | tuple _=>obtain⟨a,xs,e,_⟩:=h';cases e
  | dict _=>exact h'.elim
 | .int b,d',v,h,h'=>by
  rw[show v=.int b from h]at h';cases d' with
  | none=>cases (show V.int b=.dH from h')
  | bool _=>cases (show V.int b=.bl _ from h')
  | int _=>cases (show V.int b=.int _ from h');rfl
  | str _=>cases (show V.int b=.str _ from h')
  | list _=>obtain⟨a,xs,e,_⟩:=h';cases e
  | tuple _=>obtain⟨a,xs,e,_⟩:=h';cases e
  | dict _=>exact h'.elim
 | .str b,d',v,h,h'=>by
  rw[show v=.str b from h]at h';cases d' with
  | none=>cases (show V.str b=.dH from h')
  | bool _=>cases (show V.str b=.bl _ from h')
  | int _=>cases (show V.str b=.int _ from h')
  | str _=>cases (show V.str b=.str _ from h');rfl
  | list _=>obtain⟨a,xs,e,_⟩:=h';cases e
  | tuple _=>obtain⟨a,xs,e,_⟩:=h';cases e
  | dict _=>exact h'.elim
 | .list ds,d',v,⟨a,xs,e,ha,r⟩,h'=>by
  subst e;cases d' with
  | none=>cases (show V.ref a=.dH from h')
  | bool _=>cases (show V.ref a=.bl _ from h')
  | int _=>cases (show V.ref a=.int _ from h')
  | str _=>cases (show V.ref a=.str _ from h')
  | list _=>obtain⟨a',GR,e,pU,r'⟩:=h';cases e;rw[ha]at pU;cases pU;rw[ay.inj r r']
  | tuple _=>obtain⟨a',GR,e,pU,r'⟩:=h';cases e;rw[ha]at pU;cases pU
  | dict _=>exact h'.elim
 | .tuple ds,d',v,⟨a,xs,e,ha,r⟩,h'=>by
  subst e;cases d' with
  | none=>cases (show V.ref a=.dH from h')
  | bool _=>cases (show V.ref a=.bl _ from h')
  | int _=>cases (show V.ref a=.int _ from h')
  | str _=>cases (show V.ref a=.str _ from h')
  | list _=>obtain⟨a',GR,e,pU,r'⟩:=h';cases e;rw[ha]at pU;cases pU
  | tuple _=>obtain⟨a',GR,e,pU,r'⟩:=h';cases e;rw[ha]at pU;cases pU;rw[ay.inj r r']
  | dict _=>exact h'.elim
 | .dict _,_,_,h,_=>h.elim
theorem ay.inj{H:Hp}:∀{ds Cn:wE} {xs:List V},ay H ds xs->ay H Cn xs->ds=Cn
 | [],Cn,xs,h,h'=>by
  cases h;cases Cn with
  | nil=>rfl
  | cons _ _=>obtain⟨_,_,e,_⟩:=h';cases e
 | d::ds,Cn,xs,⟨y,ys,e,h,r⟩,h'=>by
  subst e;cases Cn with
  | nil=>cases (show y::ys=[] from h')
  | cons d' r'=>obtain⟨_,_,e,h2,r2⟩:=h';cases e;rw[Rep.inj h h2,ay.inj r r2]
end
open Classical in
noncomputable def zO (H:Hp) (v:V):Option PyData:=if h:∃ d,Rep H d v then some (Classical.choose h)else none
theorem DU{v:V}(h:Rep H d v):zO H v=some d:=by
 unfold zO;rw[dif_pos ⟨d,h⟩];exact ab4 some (Rep.inj (Classical.choose_spec (⟨d,h⟩:∃ d,Rep H d v)) h)
noncomputable def j2 (H:Hp) (dx:PyData) (u:Value):Bool:=match Qw u with
 | some v=>match zO H v with
  | some d=>PyData.eqv d dx
  | none=>false
 | none=>false
theorem zP{u:Value}{v:V}(r:RelV v u)(h:Rep H d v):j2 H dx u=PyData.eqv d dx:=by
 unfold j2;rw[r.abs];show(match zO H v with | some d=>PyData.eqv d dx | none=>false)=_;rw[DU h]
theorem jA{H:Hp}{dx:PyData}:∀{ds:wE} {xs:List V} {us:wf},ay H ds xs->Vals xs us->us.any (j2 H dx)=ds.any fun d=>PyData.eqv d dx
 | [],_,_,h,r=>by cases h;cases r;rfl
 | d::ds,_,_,⟨y,ys,e,h,hr⟩,r=>by
  subst e;cases r with
  | cons r1 r2=>rw[abF,abF,zP r1 h,jA hr r2]
section
variable {X:Cx}{C:DC}
theorem jB{pins:yp}{s:Shared}{Z:St}{H:Hp}{x:V}{v:Value}{dx:PyData}(I:Inv X pins Z H s)(hu:X.A.units+64 < cLine)(rx:RelV x v)(hx:Rep H dx x)(cx:dx.canLay0=true)(hd:dx.depth<=62) :
  ∀{ds:wE} {xs:List V} {us:wf},ay H ds xs->Vals xs us->PyData.canLayAll0 ds=true->∀ u∈us,SeqAt.EqAt X.A.in1 s u v (j2 H dx u)
 | [],_,_,h,r,_=>fun u hu=>by cases h;cases r;cases hu
 | d::ds,_,_,⟨y,ys,e,h,hr⟩,r,cl=>fun u Wu=>by
  subst e;have Zg:d.canLay0=true/\PyData.canLayAll0 ds=true:=by simpa [PyData.canLayAll0] using cl
  cases r with
  | cons r1 r2 =>
   rcases aaA.mp Wu with e | Wu
   .subst e;rw[zP r1 h];obtain⟨as,q1⟩:=h.reads I.cu r1;obtain⟨bs,q2⟩:=hx.reads I.cu rx;exact SeqAt.eqAt_reads d dx X.A.in1 s u v as bs q1 q2 Zg.1 cx (by
     have:X.A.in1.units<=X.A.units+1:=by first | exact aaC _ | (simp[Around.in1]) | omega
     omega)
   .exact jB I hu rx hx cx hd hr r2 Zg.2 u Wu
noncomputable def Nz(K:zn)(neg:Bool):R2:=fun x y H Q=>∃ p xs dx ds,y=.ref p/\(gk K H p xs\/fX K H p xs)/\Rep H dx x/\ay H ds xs/\dx.canLay0=true/\PyData.canLayAll0 ds=true/\dx.depth<=62/\Q (.bl (if neg then !ds.any (fun d=>PyData.eqv d dx)else ds.any fun d=>PyData.eqv d dx)) H
theorem NA(hu:X.A.units+64 < cLine):iP X (compareOp .In) (Nz X.K false):=by
 intro pins s Z H x y v u Q I rx ry h;obtain⟨p,xs,dx,ds,rfl,hq,hx,hs,cx,cs,hd,q⟩:=h;cases ry;rcases hq with hq | hq
 .obtain⟨aV,r,pl,hz⟩:=I.list hq;refine SeqAt.in_listAt (j2 H dx) pl.isList (fun w hw=>jB I hu rx hx cx hd hs r cs w (by simpa using hw)) ⟨.bl _,H,I,rfl,?_⟩;rw[show aV.toArray.any (j2 H dx)=aV.any (j2 H dx) by simp,jA hs r];exact q
 .obtain⟨aV,r,pl,hz⟩:=I.tuple hq;refine SeqAt.in_tupleAt (j2 H dx) pl (fun w hw=>jB I hu rx hx cx hd hs r cs w (by simpa using hw)) ⟨.bl _,H,I,rfl,?_⟩;rw[show aV.toArray.any (j2 H dx)=aV.any (j2 H dx) by simp,jA hs r];exact q
theorem Bu(hu:X.A.units+64 < cLine):iP X (compareOp .NotIn) (Nz X.K true):=by
 intro pins s Z H x y v u Q I rx ry h;obtain⟨p,xs,dx,ds,rfl,hq,hx,hs,cx,cs,hd,q⟩:=h;cases ry;rcases hq with hq | hq
 .obtain⟨aV,r,pl,hz⟩:=I.list hq;refine SeqAt.notIn_listAt (j2 H dx) pl.isList (fun w hw=>jB I hu rx hx cx hd hs r cs w (by simpa using hw)) ⟨.bl _,H,I,rfl,?_⟩;rw[show aV.toArray.any (j2 H dx)=aV.any (j2 H dx) by simp,jA hs r];exact q
 .obtain⟨aV,r,pl,hz⟩:=I.tuple hq;refine SeqAt.notIn_tupleAt (j2 H dx) pl (fun w hw=>jB I hu rx hx cx hd hs r cs w (by simpa using hw)) ⟨.bl _,H,I,rfl,?_⟩;rw[show aV.toArray.any (j2 H dx)=aV.any (j2 H dx) by simp,jA hs r];exact q
noncomputable def NB:R2:=fun x y H Q=>YL x y H Q\/Q6 x y H Q
noncomputable def NC:R2:=fun x y H Q=>YM x y H Q\/Q7 x y H Q
theorem aJ(hu:X.A.units+64 < cLine):iP X (compareOp .Eq) NB:=fun pins s Z H x y v u Q I rx ry h=>h.elim (QE pins s Z H x y v u Q I rx ry) (MW hu pins s Z H x y v u Q I rx ry)
theorem bM(hu:X.A.units+64 < cLine):iP X (compareOp .NotEq) NC:=fun pins s Z H x y v u Q I rx ry h=>h.elim (QF pins s Z H x y v u Q I rx ry) (MX hu pins s Z H x y v u Q I rx ry)
noncomputable def ND(K:zn)(neg:Bool):R2:=fun x y H Q=>VD K neg x y H Q\/Nz K neg x y H Q
theorem jh(hu:X.A.units+64 < cLine):iP X (compareOp .In) (ND X.K false):=fun pins s Z H x y v u Q I rx ry h=>h.elim (Bc pins s Z H x y v u Q I rx ry) (NA hu pins s Z H x y v u Q I rx ry)
theorem lW(hu:X.A.units+64 < cLine):iP X (compareOp .NotIn) (ND X.K true):=fun pins s Z H x y v u Q I rx ry h=>h.elim (rQ pins s Z H x y v u Q I rx ry) (Bu hu pins s Z H x y v u Q I rx ry)
end
end L2
namespace L2
open PySem PySem.Spec PyProof.Rows
variable {C:DC}{Z:St}{H H' F:Hp}{Y:bW}{W W':Wd}{Qd Q:DK}{x qual:Str}{vs us as:List DV}{xs:List V}{ds:wE}{v dv:DV}{da:cZ}{T:String}{hi:v0}{a p f g:Addr}{n:Nat}{X:Cx}{E:XK}{N ps:wv}{P:u8}{w:World}{mg:xL}{base:Heap}{st:Stmt}{fd:wT}{c:Cell}{pos:Pos}{es:v6}{ns:wn}{κ:Type}{nx ct Qs:bW->Wd->Prop}{m:Int}{d:PyData}{items:Array Value}{Kc:Wd->Prop}{rt:DV->Wd->Prop}
def zQ:PyData->Bool
 | .none=>true
 | .bool _=>true
 | .int _=>true
 | .str _=>true
 | _=>false
noncomputable def HX:V->PyData
 | .dH=>.none
 | .bl b=>.bool b
 | .int i=>.int i
 | .str s=>.str s
 | _=>.dict []
noncomputable def dX(W:Wd):DV->Option (List DV)
 | .im (.list ds)=>some (ds.map .im)
 | .pt p=>match W p with
  | some (.lst xs)=>some xs
  | _=>none
 | _=>none
noncomputable def kr:DV->Option (List DV)
 | .im (.tuple ds)=>some (ds.map .im)
 | .cst xs=>if xs.all eW=true then some (xs.map GS)else none
 | .tp ts=>some (ts.map P9)
 | _=>none
noncomputable def pV:DV->Option (List DV)
 | .lH ns=>some (ns.map fun n=>.im (.int n))
 | _=>none
noncomputable def iX(W:Wd)(dv:DV):Option (List DV):=match dX W dv with
 | some vs=>some vs
 | none=>match pV dv with
  | some vs=>some vs
  | none=>kr dv
section
variable {Q:VK}{x y:V}{a b:DV}
theorem DR.dX(D:DR C Z H Y W)(h:eF C (Fz C W H) a x)(e:L2.dX W a=some vs):∃ p xs,x=.ref p/\H p=some (.lst xs)/\aO C (Fz C W H) vs xs:=by
 cases a with
 | im d =>
  cases d with
  | list ds=>cases e;obtain⟨p,xs,e1,h1,r⟩:=h;exact⟨p,xs,e1,Fz.le h1,.gZ r⟩
  | _=>cases e
 | pt p =>
  unfold L2.dX at e;cases q:W p with
  | none=>simp[q]at e
  | some c =>
   cases c with
   | lst ys=>simp[q]at e;subst e;obtain⟨_,_,xs,h1,r⟩:=D.ce p _ q;exact⟨p,xs,h,h1,r⟩
   | _=>simp[q]at e
 | _=>cases e
theorem DR.kr(D:DR C Z H Y W)(h:eF C (Fz C W H) a x)(e:L2.kr a=some vs):∃ p xs,x=.ref p/\fX C.K H p xs/\aO C (Fz C W H) vs xs:=by
 cases a with
 | im d =>
  cases d with
  | tuple ds=>cases e;obtain⟨p,xs,e1,h1,r⟩:=h;exact⟨p,xs,e1,fX.of (Fz.le h1),.gZ r⟩
  | _=>cases e
 | cst ys =>
  obtain⟨p,e1,h1⟩:=h;unfold L2.kr at e
  by_cases q:ys.all eW=true
  .simp only[q,acT]at e;cases e;exact⟨p,ys,e1,h1 H,nG q⟩
  .simp only[q]at e;cases e
 | tp ts=>cases e;obtain⟨p,Bv,e1,h1,r⟩:=h;exact⟨p,Bv,e1,fX.of (Fz.le h1),oJ r⟩
 | _=>cases e
theorem jC{F:Hp}:∀ ns:List Int,aO C F (ns.map fun n=>.im (.int n)) (ns.map V.int)
 | []=>rfl
 | n::r=>⟨.int n,r.map V.int,rfl,rfl,jC r⟩
theorem DR.pV(D:DR C Z H Y W)(h:eF C (Fz C W H) a x)(e:L2.pV a=some vs):∃ p xs,x=.ref p/\gk C.K H p xs/\gk C.K (Fz C W H) p xs/\aO C (Fz C W H) vs xs:=by
 cases a with
 | lH ns=>cases e;obtain⟨p,e1,h1⟩:=h;exact⟨p,_,e1,(Fz.sm (C:=C) (W:=W)).seq h1,h1,jC ns⟩
 | _=>cases e
theorem DR.iX(D:DR C Z H Y W)(h:eF C (Fz C W H) a x)(e:L2.iX W a=some vs):∃ p xs,x=.ref p/\(gk C.K H p xs\/fX C.K H p xs)/\aO C (Fz C W H) vs xs:=by
 unfold L2.iX at e;cases q:L2.dX W a with
 | some us=>rw[q]at e;cases e;obtain⟨p,xs,e1,h1,r⟩:=D.dX h q;exact⟨p,xs,e1,.inl (gk.of h1),r⟩
 | none =>
  rw[q]at e;cases q2:L2.pV a with
  | some us=>rw[q2]at e;cases e;obtain⟨p,xs,e1,h1,_,r⟩:=D.pV h q2;exact⟨p,xs,e1,.inl h1,r⟩
  | none=>rw[q2]at e;obtain⟨p,xs,e1,h1,r⟩:=D.kr h e;exact⟨p,xs,e1,.inr h1,r⟩
theorem aO.jb{F:Hp}{i:Int}(r:aO C F vs xs)(e:L2.jb vs i=some a):∃ x,L2.jb xs i=some x/\eF C F a x:=by
 unfold L2.jb at e ⊢;rw[<- r.length];cases q:Bb vs.length i with
 | none=>rw[q]at e;cases e
 | some j=>rw[q]at e;exact r.get e
def NF(d1 d2:PyData):Prop:=(∃ a b,d1=.str a/\d2=.str b)\/(d1.canLay0=true/\d2.canLay0=true/\min d1.depth d2.depth<=64)
noncomputable def DW:qy:=fun a b W Q=>∃ d1 d2,dat 4 W a=some d1/\dat 4 W b=some d2/\NF d1 d2/\Q (.im (.bool (PyData.eqv d1 d2))) W
noncomputable def Bw:qy:=fun a b W Q=>∃ d1 d2,dat 4 W a=some d1/\dat 4 W b=some d2/\NF d1 d2/\Q (.im (.bool (!PyData.eqv d1 d2))) W
noncomputable instance:Bt C NB DW:=⟨fun D h1 h2 zz k=>by
 obtain⟨d1,d2,e1,e2,ok,q⟩:=zz
 have r1:=D.si h1 e1;have r2:=D.si h2 e2;rcases ok with⟨a,b,rfl,rfl⟩ | ⟨c1,c2,hd⟩
 .cases r1;cases r2;refine .inl ⟨rfl,k.now (dv:=.im (.bool _)) D ?_ q⟩;show V.bl _=V.bl _;congr 1;show _=(a == b);rw[show decide (V.str a=V.str b)=decide (a=b) by simp]
  by_cases e:a=b<;>simp[e]
 .exact .inr ⟨d1,d2,r1,r2,c1,c2,hd,k.now (dv:=.im (.bool _)) D rfl q⟩⟩
noncomputable instance:Bt C NC Bw:=⟨fun D h1 h2 zz k=>by
 obtain⟨d1,d2,e1,e2,ok,q⟩:=zz
 have r1:=D.si h1 e1;have r2:=D.si h2 e2;rcases ok with⟨a,b,rfl,rfl⟩ | ⟨c1,c2,hd⟩
 .cases r1;cases r2;refine .inl ⟨rfl,k.now (dv:=.im (.bool _)) D ?_ q⟩;show V.bl _=V.bl _;congr 1;show _=!(a == b);rw[show decide (V.str a=V.str b)=decide (a=b) by simp]
  by_cases e:a=b<;>simp[e]
 .exact .inr ⟨d1,d2,r1,r2,c1,c2,hd,k.now (dv:=.im (.bool _)) D rfl q⟩⟩
noncomputable def hV(W:Wd)(dv:DV):Option (List PyData):=(iX W dv).bind fun vs=>gx (dat 3 W) vs
theorem DR.hV{ds:wE}(D:DR C Z H Y W)(h:eF C (Fz C W H) a x)(e:L2.hV W a=some ds):∃ p xs,x=.ref p/\(gk C.K H p xs\/fX C.K H p xs)/\ay H ds xs:=by
 unfold L2.hV at e;cases q:L2.iX W a with
 | none=>rw[q]at e;cases e
 | some vs =>
  rw[q]at e;obtain⟨p,xs,e1,h1,r⟩:=D.iX h q;exact⟨p,xs,e1,h1,hU (fun dv x d h e=>D.si h e) r e⟩
def Wv(dx:PyData)(ds:wE):Prop:=(zQ dx=true/\ds.all zQ=true)\/(dx.canLay0=true/\PyData.canLayAll0 ds=true/\dx.depth<=62)
theorem uP:∀{d:PyData} {x:V},zQ d=true->Rep F d x->eW x=true/\d=HX x
 | .none,_,_,h=>by cases h;exact⟨rfl,rfl⟩
 | .bool _,_,_,h=>by cases h;exact⟨rfl,rfl⟩
 | .int _,_,_,h=>by cases h;exact⟨rfl,rfl⟩
 | .str _,_,_,h=>by cases h;exact⟨rfl,rfl⟩
 | .list _,_,h,_=>by cases h
 | .tuple _,_,h,_=>by cases h
 | .dict _,_,h,_=>by cases h
theorem HY:∀{x y:V},eW x=true->eW y=true->Hv y x=PyData.eqv (HX y) (HX x):=by
 intro x y hx hy;cases x<;>cases y<;>first | rfl | cases hx | cases hy
theorem uQ{F:Hp}:∀{ds:wE} {xs:List V},ds.all zQ=true->ay F ds xs->xs.all eW=true/\∀ x,eW x=true->Uu x xs=ds.any fun d=>PyData.eqv d (HX x)
 | [],_,_,h=>by cases h;exact⟨rfl,fun _ _=>rfl⟩
 | d::ds,_,hf,⟨y,ys,e,h,r⟩=>by
  subst e;rw[abh,aaN]at hf;obtain⟨f1,e1⟩:=uP hf.1 h;obtain⟨f2,e2⟩:=uQ hf.2 r;refine⟨by rw[abh,f1,f2];rfl,fun x hx=>?_⟩;have:=e2 x hx;unfold Uu at this ⊢;rw[abF,abF,this,HY hx f1,e1]
noncomputable def uR(neg:Bool):qy:=fun a b W Q=>∃ dx ds,dat 3 W a=some dx/\hV W b=some ds/\Wv dx ds/\Q (.im (.bool (if neg then !ds.any (fun d=>PyData.eqv d dx)else ds.any fun d=>PyData.eqv d dx))) W
noncomputable instance {K:zn}[hk:lV C K]{neg:Bool}:Bt C (ND K neg) (uR neg):=by
 obtain⟨rfl⟩:=hk;exact⟨fun D h1 h2 zz k=>by
 obtain⟨dx,ds,e1,e2,ok,q⟩:=zz
 have r1:=D.si h1 e1;obtain⟨p,xs,rfl,hq,r2⟩:=D.hV h2 e2;rcases ok with⟨f1,f2⟩ | ⟨c1,c2,hd⟩
 .obtain⟨g1,g2⟩:=uP f1 r1;obtain⟨g3,g4⟩:=uQ f2 r2;refine .inl ⟨p,xs,rfl,hq,g1,g3,?_⟩;rw[g4 _ g1,<- g2];exact k.now (dv:=.im (.bool _)) D rfl q
 .exact .inr ⟨p,xs,dx,ds,rfl,hq,r1,r2,c1,c2,hd,k.now (dv:=.im (.bool _)) D rfl q⟩⟩
noncomputable def NG(W:Wd)(a:DV)(i:Int):Option DV:=match a with
 | .im (.str z)=>if z.length<=sizeLine then(jb z.cps.toList i).map fun c=>.im (.str ⟨#[c]⟩)else none
 | a=>(iX W a).bind fun vs=>jb vs i
noncomputable def NH:qy:=fun a b W Q=>∃ i v,b=.im (.int i)/\NG W a i=some v/\Q v W
theorem DX(D:DR C Z H Y W)(h1:eF C (Fz C W H) a x){i:Int}{Q':VK}(e:((iX W a).bind fun vs=>jb vs i)=some v)(q:∀ z,eF C (Fz C W H) v z->Q' z H):Ut C.K x (.int i) H Q':=by
 cases q1:iX W a with
 | none=>rw[q1]at e;cases e
 | some vs =>
  rw[q1]at e;obtain⟨p,xs,rfl,hq,r⟩:=D.iX h1 q1;obtain⟨z,hz,rz⟩:=r.jb e;rcases hq with hq | hq
  .exact .inl ⟨p,xs,i,z,rfl,rfl,hq,hz,q z rz⟩
  .exact .inr (.inl ⟨p,xs,i,z,rfl,rfl,hq,hz,q z rz⟩)
noncomputable instance {K:zn}[hk:lV C K]:Bt C (Ut K) NH:=by
 obtain⟨rfl⟩:=hk;exact⟨fun{Z H Y W Qd Q a b x y} D h1 h2 ⟨i,v,e1,e2,q⟩ k=>by
 subst e1;cases (show y=V.int i from h2);cases a with
 | im d =>
  cases d with
  | str z =>
   cases (show x=V.str z from h1)
   by_cases hz:z.length<=sizeLine
   .simp only[NG,hz,acT]at e2;cases q2:jb z.cps.toList i with
    | none=>simp[q2]at e2
    | some c=>simp[q2]at e2;subst e2;exact .inr (.inr ⟨z,i,c,rfl,rfl,hz,q2,k.now (dv:=.im (.str _)) D rfl q⟩)
   .simp only[NG,hz]at e2;cases e2
  | _=>exact DX D h1 e2 fun z hz=>k.now D hz q
 | _=>exact DX D h1 e2 fun z hz=>k.now D hz q⟩
noncomputable def HZ:qy:=fun a b W Q=>∃ vs us,dX W a=some vs/\dX W b=some us/\vs.length+us.length<=sizeLine/\iW (vs++us) W Q
noncomputable instance:Bt C QY HZ:=⟨fun D h1 h2 zz k=>by
 obtain⟨vs,us,e1,e2,hl,q⟩:=zz
 obtain⟨p1,xs,rfl,hx,rx⟩:=D.dX h1 e1;obtain⟨p2,ys,rfl,hy,ry⟩:=D.dX h2 e2;exact⟨p1,p2,xs,ys,rfl,rfl,hx,hy,by rw[<- rx.length,<- ry.length];exact hl,fun p hp=>gP D (rx.append ry) hp q k⟩⟩
noncomputable def RQ:qy:=fun a b W Q=>∃ vs n,dX W a=some vs/\b=.im (.int n)/\-(2 ^ 63)<=n/\n < 2 ^ 63/\vs.length * n.toNat<=sizeLine/\iW (List.replicate n.toNat vs).flatten W Q
noncomputable instance:Bt C QZ RQ:=⟨fun D h1 h2 zz k=>by
 obtain⟨vs,n,e1,e2,l1,l2,hl,q⟩:=zz
 obtain⟨p1,xs,rfl,hx,rx⟩:=D.dX h1 e1;subst e2;exact⟨p1,n,xs,rfl,h2,hx,l1,l2,by rw[<- rx.length];exact hl,fun p hp=>gP D (rx.rep n.toNat) hp q k⟩⟩
theorem ay.append{F:Hp}:∀{ds:wE} {xs:List V} {Cn:wE} {GR:List V},ay F ds xs->ay F Cn GR->ay F (ds++Cn) (xs++GR)
 | [],_,_,_,h,h'=>by cases h;exact h'
 | _::_,_,_,_,⟨y,ys,e,h,r⟩,h'=>by subst e;exact⟨y,_,rfl,h,ay.append r h'⟩
def RS:qy:=fun a b W Q=>∃ ds es,a=.im (.tuple ds)/\b=.im (.tuple es)/\ds.length+es.length<=sizeLine/\Q (.im (.tuple (ds++es))) W
noncomputable instance {K:zn}[hk:lV C K]:Bt C (Kn K) RS:=by
 obtain⟨rfl⟩:=hk;exact⟨fun D h1 h2 zz k=>by
 obtain⟨ds,es,e1,e2,hl,q⟩:=zz
 subst e1 e2;obtain⟨p1,xs,rfl,hx,rx⟩:=h1;obtain⟨p2,ys,rfl,hy,ry⟩:=h2;refine⟨p1,p2,xs,ys,rfl,rfl,fX.of (Fz.le hx),fX.of (Fz.le hy),by rw[<- rx.length,<- ry.length];exact hl,fun e=>?_,fun _ e=>?_,fun _ _ p hp=>?_⟩
 .subst e;have:ds=[]:=ab0.mp (by rw[rx.length];rfl);subst this;exact k.now (dv:=.im (.tuple es)) D ⟨p2,ys,rfl,hy,ry⟩ q
 .subst e;have:es=[]:=ab0.mp (by rw[ry.length];rfl);subst this;rw[acu]at q;exact k.now (dv:=.im (.tuple ds)) D ⟨p1,xs,rfl,hx,rx⟩ q
 .obtain⟨D3,s3,e3⟩:=D.Cm hp (.tup (xs++ys));exact k _ (.im (.tuple (ds++es))) _ _ D3 s3 ⟨p,_,rfl,e3,ay.same s3 (rx.append ry)⟩ q⟩
end
section
variable {Q:VK}{x y:V}{a b:DV}{te:TE}{ts:TA}{ds:mF}
theorem aO.dY(h:aO C F [a] xs):∃ x,xs=[x]/\eF C F a x:=by
 obtain⟨y,ys,e,h1,h2⟩:=h;cases h2;exact⟨y,e,h1⟩
theorem aO.nH(h:aO C F [a,b] xs):∃ x y,xs=[x,y]/\eF C F a x/\eF C F b y:=by
 obtain⟨y,ys,e,h1,h2⟩:=h;obtain⟨z,rfl,h3⟩:=h2.dY;exact⟨y,z,e,h1,h3⟩
def Ww(f:List DV->Wd->DK->Prop)(d:mF):cZ:=fun Y W Q=>d Y W fun vs W1=>f vs W1 Q
instance {rr:List V->Hp->VK->Prop}{f:List DV->Wd->DK->Prop}[ir:HV C rr f][is:LA C ts ds]:LE C (MG rr ts) (Ww f ds):=⟨fun D h k=>is.go D h fun xs aK H1 W1 D1 s1 v1 h1=>ir.go D1 v1 h1 (k.mono s1)⟩
noncomputable def Ia:List DV->Wd->DK->Prop:=fun as W Q=>∃ a vs,as=[a]/\iX W a=some vs/\Q (.im (.int vs.length)) W
noncomputable instance {K:zn}[hk:lV C K]:HV C (DN K) Ia:=by
 obtain⟨rfl⟩:=hk;exact⟨fun D h zz k=>by
 obtain⟨a,vs,e,e2,q⟩:=zz
 subst e;obtain⟨x,rfl,hx⟩:=h.dY;obtain⟨p,xs,rfl,hq,r⟩:=D.iX hx e2;refine⟨p,xs,rfl,hq,?_⟩;rw[<- r.length];exact k.now (dv:=.im (.int _)) D rfl q⟩
noncomputable def sj:List DV->Wd->DK->Prop:=fun as W Q=>∃ a vs,as=[a]/\iX W a=some vs/\iW vs W Q
noncomputable instance {K:zn}[hk:lV C K]:HV C (zK K) sj:=by
 obtain⟨rfl⟩:=hk;exact⟨fun D h zz k=>by
 obtain⟨a,vs,e,e2,q⟩:=zz
 subst e;obtain⟨x,rfl,hx⟩:=h.dY;obtain⟨p,xs,rfl,hq,r⟩:=D.iX hx e2;exact⟨p,xs,rfl,hq,fun l hl=>gP D r hl q k⟩⟩
noncomputable def NI:List DV->Wd->DK->Prop:=fun as W Q=>∃ a,as=[a]/\((∃ vs ds W2,dX W a=some vs/\jq (lG 3) W vs=some (ds,W2)/\Q (.im (.tuple ds)) W2)\/∃ ds,a=.im (.tuple ds)/\Q a W)
noncomputable instance {K:zn}[hk:lV C K]:HV C (DM K) NI:=by
 obtain⟨rfl⟩:=hk;exact⟨fun D h zz k=>by
 obtain⟨a,e,q⟩:=zz
 subst e;obtain⟨x,rfl,hx⟩:=h.dY;rcases q with⟨vs,ds,W2,e2,e3,q⟩ | ⟨ds,e2,q⟩
 .obtain⟨p,xs,rfl,hq,r⟩:=D.dX hx e2;obtain⟨D2,s2,r2,k2⟩:=iH (kq 3) D r e3;refine⟨p,xs,rfl,.inl ⟨gk.of hq,fun l hl=>?_⟩⟩;obtain⟨D3,s3,e4⟩:=D2.Cm hl (.tup xs);exact k _ (.im (.tuple ds)) _ _ D3 (s2.trans s3) ⟨l,xs,rfl,e4,ay.same s3 r2⟩ q
 .subst e2;obtain⟨p,xs,rfl,h1,r⟩:=hx;exact⟨p,xs,rfl,.inr ⟨fX.of (Fz.le h1),k.now (dv:=.im (.tuple ds)) D ⟨p,xs,rfl,h1,r⟩ q⟩⟩⟩
def KC:List DV->Wd->DK->Prop:=fun as W Q=>∃ i j,as=[.im (.int i),.im (.int j)]/\Q (.im (.int (if j > i then j else i))) W
instance:HV C Km KC:=⟨fun D h zz k=>by
 obtain⟨i,j,e,q⟩:=zz
 subst e;obtain⟨x,y,rfl,hx,hy⟩:=h.nH;cases hx;cases hy;exact⟨i,j,rfl,k.now (dv:=.im (.int _)) D rfl q⟩⟩
def DY:List DV->Wd->DK->Prop:=fun as W Q=>(∃ i,as=[.im (.int i)]/\Q (.im (.int i)) W)\/∃ b,as=[.im (.bool b)]/\Q (.im (.int (if b then 1 else 0))) W
instance:HV C Kq DY:=⟨fun D h q k=>by
 rcases q with⟨i,e,q⟩ | ⟨b,e,q⟩
 .subst e;obtain⟨x,rfl,hx⟩:=h.dY;cases hx;exact .inl ⟨i,rfl,k.now (dv:=.im (.int _)) D rfl q⟩
 .subst e;obtain⟨x,rfl,hx⟩:=h.dY;cases hx;exact .inr ⟨b,rfl,k.now (dv:=.im (.int _)) D rfl q⟩⟩
noncomputable def jD:List DV->Option (List Bool)
 | []=>some []
 | .im (.bool b)::r=>(jD r).map (b::·)
 | _=>none
theorem qA{F:Hp}:∀{vs:List DV} {xs:List V} {bs:List Bool},aO C F vs xs->jD vs=some bs->xs=bs.map V.bl
 | [],_,_,h,e=>by cases h;cases e;rfl
 | .im (.bool b)::r,_,bs,⟨y,ys,e1,h,hr⟩,e=>by
  unfold jD at e;cases q:jD r with
  | none=>rw[q]at e;cases e
  | some cs =>
   rw[q]at e;cases e;rw[e1,show y=V.bl b from h,qA hr q];rfl
 | .im .none::_,_,_,_,e=>by cases e
 | .im (.int _)::_,_,_,_,e=>by cases e
 | .im (.str _)::_,_,_,_,e=>by cases e
 | .im (.list _)::_,_,_,_,e=>by cases e
 | .im (.tuple _)::_,_,_,_,e=>by cases e
 | .im (.dict _)::_,_,_,_,e=>by cases e
 | .pt _::_,_,_,_,e=>by cases e
 | .cst _::_,_,_,_,e=>by cases e
 | .rf _::_,_,_,_,e=>by cases e
 | .ty _::_,_,_,_,e=>by cases e
 | .wJ _::_,_,_,_,e=>by cases e
 | .raw _::_,_,_,_,e=>by cases e
 | .lH _::_,_,_,_,e=>by cases e
 | .tp _::_,_,_,_,e=>by cases e
theorem xP(bs:List Bool):jD (bs.map fun b=>.im (.bool b))=some bs:=by
 induction bs with
 | nil=>rfl
 | cons b r ih=>rw[aaM];unfold jD;rw[ih];rfl
noncomputable def Wx:List DV->Wd->DK->Prop:=fun as W Q=>∃ a vs bs,as=[a]/\dX W a=some vs/\jD vs=some bs/\Q (.im (.bool (bs.any id))) W
noncomputable instance {K:zn}[hk:lV C K]:HV C (RE K) Wx:=by
 obtain⟨rfl⟩:=hk;exact⟨fun D h zz k=>by
 obtain⟨a,vs,bs,e,e1,e2,q⟩:=zz
 subst e;obtain⟨x,rfl,hx⟩:=h.dY;obtain⟨p,xs,rfl,hq,r⟩:=D.dX hx e1;rw[qA r e2]at hq;exact⟨p,bs,rfl,gk.of hq,k.now (dv:=.im (.bool _)) D rfl q⟩⟩
noncomputable def RT(T:String):List DV->Wd->DK->Prop:=fun as W Q=>∃ a d,as=[a,.ty T]/\dat 4 W a=some d/\Q (.im (.bool (Ro d T))) W
noncomputable instance {T:String}:HV C (HE T) (RT T):=⟨fun D h zz k=>by
 obtain⟨a,d,e,e1,q⟩:=zz
 subst e;obtain⟨x,y,rfl,hx,hy⟩:=h.nH;cases hy;exact⟨x,d,rfl,D.si hx e1,k.now (dv:=.im (.bool _)) D rfl q⟩⟩
noncomputable def xQ(T:String)(a:DV)(W:Wd):Prop:=(T = "list"/\∃ vs,dX W a=some vs)\/(T = "str"/\∃ s,a=.im (.str s))\/(T = "dict"/\∃ p,a=.pt p/\((∃ kvs,W p=some (.dk kvs))\/∃ kvs,W p=some (.dt kvs)))
theorem Ib(D:DR C Z H Y W)(h:eF C (Fz C W H) a x)(e:xQ T a W):VE C.K T x H:=by
 rcases e with⟨rfl,vs,e⟩ | ⟨rfl,s,rfl⟩ | ⟨rfl,p,rfl,e⟩
 .obtain⟨p,xs,rfl,hq,r⟩:=D.dX h e;exact .inl ⟨rfl,xs,gk.of hq⟩
 .cases h;exact rfl
 .cases h;rcases e with⟨kvs,e⟩ | ⟨kvs,e⟩
  .obtain⟨_,_,ks,h1,_⟩:=D.ce p _ e;exact .inr (.inr (.inl ⟨rfl,.inl ⟨ks,h1⟩⟩))
  .obtain⟨_,_,ks,h1,_⟩:=D.ce p _ e;exact .inr (.inr (.inl ⟨rfl,.inr ⟨ks,h1⟩⟩))
noncomputable def Zh(T:String)(f:DV->List DV->Wd->DK->Prop)(d:cZ)(e:mF):cZ:=fun Y W Q=>d Y W fun a W1=>xQ T a W1/\e Y W1 fun vs W2=>f a vs W2 Q
noncomputable instance {K:zn}[hk:lV C K]{T:String}{rr:V->List V->Hp->VK->Prop}{f:DV->List DV->Wd->DK->Prop}[ir:Qb C rr f][ia:LE C te da][is:LA C ts ds]:LE C (VF K T rr te ts) (Zh T f da ds):=by
 obtain⟨rfl⟩:=hk;exact⟨fun D h k=>ia.go D h fun x dv H1 W1 D1 s1 v1 zz=>(by obtain⟨ht,h1⟩:=zz;exact ⟨Ib D1 v1 ht,is.go D1 h1 fun xs aK H2 W2 D2 s2 v2 h2=>ir.go D2 (v1.mono s2) v2 h2 (k.mono (s1.trans s2))⟩)⟩
def sk:DV->List DV->Wd->DK->Prop:=fun a as W Q=>∃ p vs v,a=.pt p/\as=[v]/\W p=some (.lst vs)/\vs.length < sizeLine/\Q (.im .none) (aG W p (.lst (vs++[v])))
instance:Qb C zA sk:=⟨fun D h1 h2 zz k=>by
 obtain⟨p,vs,v,e1,e2,e3,hl,q⟩:=zz
 subst e1 e2;cases h1;obtain⟨y,rfl,hy⟩:=h2.dY;obtain⟨_,_,xs,h3,r⟩:=D.ce p _ e3;exact⟨p,xs,y,rfl,rfl,h3,by rw[<- r.length];exact hl,k.to (dv:=.im .none) (D.wr e3 (r.append (.one hy))) rfl q⟩⟩
def NJ:DV->List DV->Wd->DK->Prop:=fun a as W Q=>∃ p vs i j v,a=.pt p/\as=[.im (.int i)]/\W p=some (.lst vs)/\-(2 ^ 63)<=i/\i < 2 ^ 63/\seqIndex? i vs.length=some j/\vs[j]?=some v/\Q v (aG W p (.lst (vs.eraseIdx j)))
instance:Qb C Dq NJ:=⟨fun D h1 h2 zz k=>by
 obtain⟨p,vs,i,j,v,e1,e2,e3,l1,l2,e4,e5,q⟩:=zz
 subst e1 e2;cases h1;obtain⟨y,rfl,hy⟩:=h2.dY;cases hy;obtain⟨_,_,xs,h3,r⟩:=D.ce p _ e3;obtain⟨y,hy,ry⟩:=r.get e5;obtain⟨D2,s2⟩:=D.wr e3 (r.erase j);exact⟨p,xs,i,j,y,rfl,rfl,h3,l1,l2,by rw[<- r.length];exact e4,hy,k _ v _ _ D2 s2 (ry.mono s2) q⟩⟩
def zR:Nv:=fun _ W Q=>Q none W
def KD(d:cZ):Nv:=fun Y W Q=>d Y W fun v W1=>∃ i,v=.im (.int i)/\Q (some i) W1
instance:LO C rN zR:=⟨fun D h k=>k none _ _ D (aQ.refl _) h⟩
instance [ia:LE C te da]:LO C (Dh te) (KD da):=⟨fun D h k=>ia.go D h fun x dv H1 W1 D1 s1 v1 zz=>by obtain⟨i,e,q⟩:=zz; subst e;exact⟨i,v1,k (some i) H1 W1 D1 s1 q⟩⟩
class UG (C:DC) (r:V->v0->v0->Hp->VK->Prop) (d:outParam (DV->v0->v0->Wd->DK->Prop)):Prop where
 go:∀{Z:St} {H:Hp} {Y:bW} {W:Wd} {Qd:DK} {Q:VK} {a:DV} {x:V} {lo hi:v0},DR C Z H Y W->eF C (Fz C W H) a x->d a lo hi W Qd->KE C Z Y W H Qd Q->r x lo hi H Q
def Zi(f:DV->v0->v0->Wd->DK->Prop)(d:cZ)(l u:Nv):cZ:=fun Y W Q=>d Y W fun v W1=>l Y W1 fun lo W2=>u Y W2 fun hi W3=>f v lo hi W3 Q
instance {rr:V->v0->v0->Hp->VK->Prop}{f:DV->v0->v0->Wd->DK->Prop}{tl tu:TO}{dl du:Nv}[ir:UG C rr f][ia:LE C te da][il:LO C tl dl][iu:LO C tu du]:LE C (VC rr te tl tu) (Zi f da dl du) :=
 ⟨fun D h k=>ia.go D h fun x dv H1 W1 D1 s1 v1 h1=>il.go D1 h1 fun lo H2 W2 D2 s2 h2=>iu.go D2 h2 fun hi H3 W3 D3 s3 h3=>ir.go D3 ((v1.mono s2).mono s3) h3 (k.mono ((s1.trans s2).trans s3))⟩
noncomputable def cutD{J:Type}(xs:List J)(lo hi:v0):List J:=(xs.drop (HT.dG xs.length 0 lo)).take (HT.dG xs.length xs.length hi - HT.dG xs.length 0 lo)
theorem aO.cut{lo:v0}(h:aO C F vs xs):aO C F (cutD vs lo hi) (lL xs lo hi):=by
 unfold cutD lL;rw[<- h.length];exact(h.drop _).take _
theorem ay.drop{F:Hp}:∀{ds:wE} {xs:List V} (i:Nat),ay F ds xs->ay F (ds.drop i) (xs.drop i)
 | [],_,_,h=>by cases h;simp[ay]
 | _::_,_,0,h=>h
 | _::_,_,i+1,⟨y,ys,e,h,r⟩=>by subst e;exact ay.drop i r
theorem ay.take{F:Hp}:∀{ds:wE} {xs:List V} (i:Nat),ay F ds xs->ay F (ds.take i) (xs.take i)
 | [],_,_,h=>by cases h;simp[ay]
 | _::_,_,0,_=>by simp[ay]
 | _::_,_,i+1,⟨y,ys,e,h,r⟩=>by subst e;exact⟨y,_,rfl,h,ay.take i r⟩
theorem ay.cut{ds:wE}{lo:v0}(h:ay F ds xs):ay F (cutD ds lo hi) (lL xs lo hi):=by
 unfold cutD lL;rw[<- h.length];exact(h.drop _).take _
noncomputable def NK:DV->v0->v0->Wd->DK->Prop:=fun a lo hi W Q=>∃ vs,(dX W a=some vs\/pV a=some vs)/\iW (cutD vs lo hi) W Q
noncomputable instance {K:zn}[hk:lV C K]:UG C (QU K) NK:=by
 obtain⟨rfl⟩:=hk;exact⟨fun D h zz k=>by
 obtain⟨vs,e,q⟩:=zz
 rcases e with e | e
 .obtain⟨p,xs,rfl,hq,r⟩:=D.dX h e;exact⟨p,xs,rfl,gk.of hq,fun l hl=>gP D r.cut hl q k⟩
 .obtain⟨p,xs,rfl,hq,_,r⟩:=D.pV h e;exact⟨p,xs,rfl,hq,fun l hl=>gP D r.cut hl q k⟩⟩
noncomputable def Ic:DV->v0->v0->Wd->DK->Prop:=fun a lo hi W Q=>∃ ds,a=.im (.tuple ds)/\¬ (HT.dG ds.length 0 lo=0/\HT.dG ds.length ds.length hi=ds.length)/\Q (.im (.tuple (cutD ds lo hi))) W
noncomputable instance {K:zn}[hk:lV C K]:UG C (QP K) Ic:=by
 obtain⟨rfl⟩:=hk;exact⟨fun D h zz k=>by
 obtain⟨ds,e,hn,q⟩:=zz
 subst e;obtain⟨p,xs,rfl,hq,r⟩:=h;refine⟨p,xs,rfl,fX.of (Fz.le hq),by rw[<- r.length];exact hn,fun l hl=>?_⟩;obtain⟨D3,s3,e3⟩:=D.Cm hl (.tup (lL xs _ _));exact k _ (.im (.tuple _)) _ _ D3 s3 ⟨l,_,rfl,e3,ay.same s3 r.cut⟩ q⟩
end
abbrev sq:=DV->bW->Wd->(bW->Wd->Prop)->Prop
abbrev sr:=List DV->bW->Wd->(bW->Wd->Prop)->Prop
structure hZ where
 nx:bW->Wd->Prop
 rt:DK
 bk:bW->Wd->Prop
 ct:bW->Wd->Prop
abbrev j3:=hZ->bW->Wd->Prop
variable {b:j3}
def KG(C:DC)(F:Hp)(Qd:bW->Wd->Prop)(Q:St->Hp->Prop):Prop:=∀ bH H' cG W',DR C bH H' cG W'->aQ F (Fz C W' H')->Qd cG W'->Q bH H'
class LG (C:DC) (g:TG) (d:outParam sq):Prop where
 go:∀{Z:St} {H:Hp} {Y:bW} {W:Wd} {v:V} {dv:DV} {Qd:bW->Wd->Prop} {Q:St->Hp->Prop},DR C Z H Y W->eF C (Fz C W H) dv v->d dv Y W Qd->KG C (Fz C W H) Qd Q->g v Z H Q
class UH (C:DC) (g:wF) (d:outParam sr):Prop where
 go:∀{Z:St} {H:Hp} {Y:bW} {W:Wd} {vs:List V} {aK:List DV} {Qd:bW->Wd->Prop} {Q:St->Hp->Prop},DR C Z H Y W->aO C (Fz C W H) aK vs->d aK Y W Qd->KG C (Fz C W H) Qd Q->g vs Z H Q
structure EM(C:DC)(F:Hp)(De:hZ)(D:Ends):Prop where
 nx:KG C F De.nx D.nx
 bk:KG C F De.bk D.bk
 ct:KG C F De.ct D.ct
 rt:∀ x dv bH H' cG W',DR C bH H' cG W'->aQ F (Fz C W' H')->eF C (Fz C W' H') dv x->De.rt dv W'->D.rt x H'
class LS (C:DC) (t:TS) (d:outParam j3):Prop where
 go:∀{Z:St} {H:Hp} {Y:bW} {W:Wd} {De:hZ} {D:Ends},DR C Z H Y W->d De Y W->EM C (Fz C W H) De D->t D Z H
section
variable {ta tb tc te to ti:TE}{db dc Zj di:cZ}{r r':R2}{dr Wq:qy}{c c':TT}{dt RH:nF}{ts:TA}{ds:mF}{Q:VK}{x:V}{g:TG}{dg:sq}{gs:wF}{RU:sr}{t u:TS}{d e:j3}{F':Hp}
theorem KG.mono{Qd:bW->Wd->Prop}{Q:St->Hp->Prop}(k:KG C F Qd Q)(s:aQ F F'):KG C F' Qd Q:=fun bH H' cG W' D s' q=>k bH H' cG W' D (s.trans s') q
theorem EM.mono{De:hZ}{D:Ends}(m:EM C F De D)(s:aQ F F'):EM C F' De D:=⟨m.nx.mono s,m.bk.mono s,m.ct.mono s,fun x dv bH H' cG W' D s' v q=>m.rt x dv bH H' cG W' D (s.trans s') v q⟩
def Zk(i:Nat):sq:=fun dv Y W Q=>Q (Y.set i (some dv)) W
instance {i:Nat}:LG C (nZ i) (Zk i):=⟨fun D v h k=>k _ _ _ _ (D.set i v) (aQ.refl _) h⟩
def Zl:sr:=fun vs Y W Q=>vs=[]/\Q Y W
def Zm(a:sq)(b:sr):sr:=fun vs Y W Q=>∃ v r,vs=v::r/\a v Y W fun cG W'=>b r cG W' Q
instance:UH C Mg Zl:=⟨fun D v h k=>by obtain⟨e,q⟩:=h;subst e;cases v;exact⟨rfl,k _ _ _ _ D (aQ.refl _) q⟩⟩
instance [ia:LG C g dg][ib:UH C gs RU]:UH C (CI g gs) (Zm dg RU):=⟨fun D v h k=>by
 obtain⟨dv,r,e,q⟩:=h;subst e;obtain⟨y,ys,e,v1,v2⟩:=v;subst e;exact⟨y,ys,rfl,ia.go D v1 q fun bH H' cG W' D' s' q'=>ib.go D' (v2.mono s') q' (k.mono s')⟩⟩
noncomputable def zS(a b dv:DV)(W2:Wd)(Kc:Wd->Prop):Prop:=∃ p vs k j,a=.pt p/\b=.im (.int k)/\W2 p=some (.lst vs)/\Bb vs.length k=some j/\Kc (aG W2 p (.lst (vs.set j dv)))
noncomputable def Zn(o i:cZ):sq:=fun dv Y W Q=>o Y W fun a W1=>i Y W1 fun b W2=>zS a b dv W2 (Q Y)
noncomputable instance [io:LE C to Zj][ii:LE C ti di]:LG C (Mi to ti J0) (Zn Zj di):=⟨fun D v h k=>io.go D h fun x dx H1 W1 D1 s1 v1 h1=>ii.go D1 h1 fun y dy H2 W2 D2 s2 v2 zz=>by
 obtain⟨p,vs,n,j,e1,e2,e3,e4,q⟩:=zz
 subst e1 e2;cases (v1.mono s2);cases v2;obtain⟨_,_,xs,h3,r⟩:=D2.ce p _ e3;obtain⟨D3,s3⟩:=D2.wr e3 (r.set j ((v.mono s1).mono s2));exact⟨p,xs,n,j,rfl,rfl,h3,by rw[<- r.length];exact e4,k _ _ _ _ D3 ((s1.trans s2).trans s3) q⟩⟩
def KH:j3:=fun De Y W=>De.nx Y W
instance:LS C CF KH:=⟨fun D h m=>m.nx _ _ _ _ D (aQ.refl _) h⟩
def j4(a b:j3):j3:=fun De Y W=>a ⟨b De,De.rt,De.bk,De.ct⟩ Y W
instance [ia:LS C t d][ib:LS C u e]:LS C (Mb t u) (j4 d e):=⟨fun D h m=>ia.go D h ⟨fun bH H' cG W' D' s' q=>ib.go D' q (m.mono s'),m.bk,m.ct,m.rt⟩⟩
def zT(a:cZ):j3:=fun De Y W=>a Y W fun _ W1=>De.nx Y W1
instance [ia:LE C ta da]:LS C (CH ta) (zT da):=⟨fun D h m=>ia.go D h fun x dv H1 W1 D1 s1 v1 q=>m.nx _ _ _ _ D1 s1 q⟩
def RV(a:cZ):j3:=fun De Y W=>a Y W De.rt
instance [ia:LE C ta da]:LS C (Mc ta) (RV da):=⟨fun D h m=>ia.go D h fun x dv H1 W1 D1 s1 v1 q=>m.rt x dv _ _ _ _ D1 s1 v1 q⟩
def NL(c:nF)(a b:j3):j3:=fun De Y W=>c Y W fun k W1=>if k=true then a De Y W1 else b De Y W1
instance [it:LT C c dt][ia:LS C t d][ib:LS C u e]:LS C (Me c t u) (NL dt d e):=⟨fun D h m=>it.go D h fun b H1 W1 D1 s1 h1=>by
 cases b with
 | true=>exact ia.go D1 h1 (m.mono s1)
 | false=>exact ib.go D1 h1 (m.mono s1)⟩
def Ie(a:cZ)(g:sq):j3:=fun De Y W=>a Y W fun v W1=>g v Y W1 De.nx
instance [ia:LE C ta da][ig:LG C g dg]:LS C (wW ta g) (Ie da dg):=⟨fun D h m=>ia.go D h fun x dv H1 W1 D1 s1 v1 q=>ig.go D1 v1 q (m.nx.mono s1)⟩
def DZ(P:Prop)(a:mF):j3:=fun _ Y W=>a Y W fun vs _=>vs.length<=sizeLine/\P
instance {E':XK}{X':Addr->Prop}[he:Y9 C E' X']{k:Addr}[ia:LA C ts ds]:LS C (xM k E' ts) (DZ (X' k) ds):=by
 obtain⟨rfl,rfl⟩:=he;exact⟨fun D h m=>ia.go D h fun xs aK H1 W1 D1 s1 v1 zz=>(by obtain⟨hl,p⟩:=zz;exact ⟨by rw[<- v1.length];exact hl,D1.ok.ex k p H1 D1.fr⟩)⟩
def D0(c:nF)(b:j3):j3:=fun De Y W=>∃ Pv:Nat->bW->Wd->Prop,(∃ m,Pv m Y W)/\∀ m Y W,Pv m Y W->c Y W fun k W1=>if k=true then b ⟨fun cG W'=>∃ m',m' < m/\Pv m' cG W',De.rt,De.nx,fun cG W'=>∃ m',m' < m/\Pv m' cG W'⟩ Y W1 else De.nx Y W1
instance [it:LT C c dt][ib:LS C t d]:LS C (wX c t) (D0 dt d):=⟨fun{Z H Y W De D} R h m=>by
 obtain⟨Pv,⟨m0,p0⟩,hs⟩:=h;refine⟨fun n bH H'=>∃ cG W',DR C bH H' cG W'/\aQ (Fz C W H) (Fz C W' H')/\Pv n cG W',⟨m0,Y,W,R,aQ.refl _,p0⟩,?_⟩;rintro n bH H' ⟨cG,W',D',s',p'⟩;refine it.go D' (hs n cG W' p') fun b H1 W1 D1 s1 h1=>?_;cases b with
 | true =>
  refine⟨fun Ci H2=>∃ jE W2,DR C Ci H2 jE W2/\aQ (Fz C W H) (Fz C W2 H2)/\∃ m',m' < n/\Pv m' jE W2,fun Ci H2 zz=>(by obtain⟨jE,W2,D2,s2,m',l,p2⟩:=zz;exact ⟨m',l,jE,W2,D2,s2,p2⟩),ib.go D1 h1 ?_⟩;have ss:=s'.trans s1;exact⟨fun Ci H2 jE W2 D2 s2 q=>⟨jE,W2,D2,ss.trans s2,q⟩,m.nx.mono ss,fun Ci H2 jE W2 D2 s2 q=>⟨jE,W2,D2,ss.trans s2,q⟩,(m.mono ss).rt⟩
 | false=>exact m.nx _ _ _ _ D1 (s'.trans s1) h1⟩
structure nI where
 vs:List DV
 kp:Wd->Prop
abbrev Ea:=bW->Wd->(nI->Wd->Prop)->Prop
structure Eb(C:DC)(F:Hp)(am:It)(it:nI):Prop where
 go:∀ i Z H Y W,DR C Z H Y W->aQ F (Fz C W H)->it.kp W->i < it.vs.length->am.go i H
 CL:∀ i Z H Y W,DR C Z H Y W->aQ F (Fz C W H)->it.kp W->i < it.vs.length->∀ x H',am.CL i H x H'->DR C Z H' Y W/\aQ (Fz C W H) (Fz C W H')/\∃ dv,it.vs[i]?=some dv/\eF C (Fz C W H') dv x
 stop:∀ Z H Y W,DR C Z H Y W->aQ F (Fz C W H)->it.kp W->am.stop it.vs.length H
class LI (C:DC) (w:TI) (d:outParam Ea):Prop where
 go:∀{Z:St} {H:Hp} {Y:bW} {W:Wd} {Qd:nI->Wd->Prop} {Q:It->Hp->Prop},DR C Z H Y W->d Y W Qd->(∀ am it H' W',DR C Z H' Y W'->aQ (Fz C W H) (Fz C W' H')->Eb C (Fz C W' H') am it->Qd it W'->Q am H')->w Z H Q
def qB(it:nI)(g:sq)(b:j3)(De:hZ)(Y:bW)(W1:Wd):Prop:=∃ Pv:Nat->bW->Wd->Prop,Pv 0 Y W1/\(∀ i Y W,Pv i Y W->it.kp W) /\
 (∀ i v Y W,it.vs[i]?=some v->Pv i Y W->g v Y W fun jE W2=>b ⟨Pv (i+1),De.rt,De.nx,Pv (i+1)⟩ jE W2)/\∀ Y W,Pv it.vs.length Y W->De.nx Y W
def RW(w:Ea)(g:sq)(b:j3):j3:=fun De Y W=>w Y W fun it W1=>qB it g b De Y W1
instance {w:TI}{dw:Ea}[iw:LI C w dw][ig:LG C g dg][ib:LS C t d]:LS C (Mp w g t) (RW dw dg d):=⟨fun{Z H Y W De D} R h m=>iw.go R h fun am it H1 W1 D1 s1 ok zz=>by
 obtain⟨Pv,p0,kp,hs,hd⟩:=zz
 refine⟨fun i n bH H'=>n=it.vs.length - i/\i<=it.vs.length/\∃ cG W',DR C bH H' cG W'/\aQ (Fz C W1 H1) (Fz C W' H')/\Pv i cG W',⟨it.vs.length,@2,aaY _,Y,W1,D1,aQ.refl _,p0⟩,?_⟩;rintro i n bH H' ⟨rfl,hi,cG,W',D',s',p'⟩;have kw:=kp i cG W' p'
 by_cases iM:i < it.vs.length
 .refine .inr ⟨ok.go i bH H' cG W' D' s' kw iM,fun Ci H2=>∃ jE W2,DR C Ci H2 jE W2/\aQ (Fz C W1 H1) (Fz C W2 H2)/\Pv (i+1) jE W2,fun Ci H2 zz=>(by obtain⟨jE,W2,D2,s2,p2⟩:=zz;exact ⟨it.vs.length - (i+1),@0,rfl,iM,jE,W2,D2,s2,p2⟩),fun x H2 hy=>?_⟩;obtain⟨D2,s2,dv,e,v⟩:=ok.CL i bH H' cG W' D' s' kw iM x H2 hy;refine ig.go D2 v (hs i dv cG W' e p') fun zj H3 Zo W3 D3 s3 q3=>ib.go D3 q3 ?_;have ss:=(s'.trans s2).trans s3;exact⟨fun σ4 H4 Wy W4 D4 s4 q=>⟨Wy,W4,D4,ss.trans s4,q⟩,m.nx.mono (s1.trans ss),fun σ4 H4 Wy W4 D4 s4 q=>⟨Wy,W4,D4,ss.trans s4,q⟩,(m.mono (s1.trans ss)).rt⟩
 .have e:i=it.vs.length:=by omega
  subst e;exact .inl ⟨ok.stop bH H' cG W' D' s' kw,m.nx _ _ _ _ D' (s1.trans s') (hd cG W' p')⟩⟩
def uS(it:nI)(g:sq)(c:nF)(e:cZ)(Y:bW)(W1:Wd)(Q:DK):Prop:=it.vs.length<=sizeLine/\∃ Pv:Nat->List DV->Wd->Prop,Pv 0 [] W1/\(∀ i ys W,Pv i ys W->it.kp W) /\
 (∀ i v ys W,it.vs[i]?=some v->ys.length<=i->Pv i ys W->g v Y W fun jE W2=>c jE W2 fun b W3=>if b=true then e jE W3 fun y W4=>Pv (i+1) (ys++[y]) W4 else Pv (i+1) ys W3) /\
 ∀ ys W,Pv it.vs.length ys W->iW ys W Q
def KI(w:Ea)(g:sq)(c:nF)(e:cZ)(ix:List (Option Nat)):cZ:=fun Y W Q=>w Y W fun it W1=>uS it g c e (Br ix Y) W1 Q
noncomputable instance {w:TI}{dw:Ea}{ix:List (Option Nat)}[iw:LI C w dw][ig:LG C g dg][it:LT C c dt][ie:LE C te da]:LE C (uM w g c te ix) (KI dw dg dt da ix):=⟨fun{Z H Y W Qd Q} R h k=>iw.go R h fun am DQ H1 W1 D1 s1 ok zz=>by
 obtain⟨hz,Pv,p0,kp,hs,hd⟩:=zz
 refine⟨fun i n ys H'=>n=DQ.vs.length - i/\i<=DQ.vs.length/\∃ zs W',DR C Z H' Y W'/\aQ (Fz C W1 H1) (Fz C W' H')/\aO C (Fz C W' H') zs ys/\zs.length<=i/\Pv i zs W',⟨DQ.vs.length,@2,aaY _,[],W1,D1,aQ.refl _,rfl,aaC _,p0⟩,?_⟩;rintro i n ys H' ⟨rfl,hi,zs,W',D',s',vz,hl,p'⟩;have kw:=kp i zs W' p'
 by_cases iM:i < DQ.vs.length
 .refine .inr ⟨ok.go i Z H' Y W' D' s' kw iM,by rw[<- vz.length];omega,
   fun y H2=>∃ zy W2,DR C Z H2 Y W2/\aQ (Fz C W1 H1) (Fz C W2 H2)/\aO C (Fz C W2 H2) zs ys/\eF C (Fz C W2 H2) zy y/\Pv (i+1) (zs++[zy]) W2,fun H2=>∃ W2,DR C Z H2 Y W2/\aQ (Fz C W1 H1) (Fz C W2 H2)/\aO C (Fz C W2 H2) zs ys/\Pv (i+1) zs W2,
   fun y H2 zz=>(by obtain⟨zy,W2,D2,s2,v2,vy,p2⟩:=zz;exact ⟨DQ.vs.length - (i+1),@0,rfl,iM,zs++[zy],W2,D2,s2,v2.append (.one vy),by rw[aaV];simp;omega,p2⟩),
   fun H2 zz=>(by obtain⟨W2,D2,s2,v2,p2⟩:=zz;exact ⟨DQ.vs.length - (i+1),@0,rfl,iM,zs,W2,D2,s2,v2,@0,p2⟩),fun x H2 hy=>?_⟩
  obtain⟨D2,s2,dv,e,v⟩:=ok.CL i Z H' Y W' D' s' kw iM x H2 hy;have D2':DR C (blk ix Z) H2 (Br ix Y) W':=D2.slots (D2.sl.blk ix);refine ig.go D2' v (hs i dv zs W' e hl p') fun zj H3 Zo W3 D3 s3 q3=>it.go D3 q3 fun b H4 W4 D4 s4 h4=>?_;have back:∀ H5 W5,DR C zj H5 Zo W5->aQ (Fz C W' H2) (Fz C W5 H5)->DR C Z H5 Y W5:=fun H5 W5 D5 s5=>D5.slots (D2.sl.mono s5);cases b with
  | true =>
   refine ie.go D4 h4 fun y zy H5 W5 D5 s5 v5 q5=>?_;exact⟨zy,W5,back H5 W5 D5 ((s3.trans s4).trans s5),(((s'.trans s2).trans s3).trans s4).trans s5,vz.mono (((s2.trans s3).trans s4).trans s5),v5,q5⟩
  | false=>exact⟨W4,back H4 W4 D4 (s3.trans s4),((s'.trans s2).trans s3).trans s4,vz.mono ((s2.trans s3).trans s4),h4⟩
 .have e:i=DQ.vs.length:=by omega
  subst e;refine .inl ⟨ok.stop Z H' Y W' D' s' kw,fun p hp=>?_⟩;exact gP D' vz hp (hd zs W' p') (k.mono (s1.trans s'))⟩
def RX:nF:=fun _ W Q=>Q true W
instance:LT C Nk RX:=⟨fun D h k=>k true _ _ D (aQ.refl _) h⟩
def Ec(v:DV)(W1:Wd)(Q:nI->Wd->Prop):Prop:=(∃ ds,v=.im (.list ds)/\Q ⟨ds.map .im,fun _=>True⟩ W1)\/(∃ p vs,v=.pt p/\W1 p=some (.lst vs)/\Q ⟨vs,fun W'=>W' p=some (.lst vs)⟩ W1)\/(∃ ns,v=.lH ns/\Q ⟨ns.map fun n=>.im (.int n),fun _=>True⟩ W1)
def Ed(a:cZ):Ea:=fun Y W Q=>a Y W fun v W1=>Ec v W1 Q
theorem xR{it:nI}(h:∀ Z H Y W,DR C Z H Y W->aQ F (Fz C W H)->it.kp W->∃ xs,gk C.K H a xs/\aO C (Fz C W H) it.vs xs):Eb C F (Vs C.K a) it where
 go:=fun i Z H Y W D s kw hi=>by
  obtain⟨xs,q,v⟩:=h Z H Y W D s kw;have hl:=v.length;exact⟨xs,xs[i]'(by omega),q,by simp[show i < xs.length by omega]⟩
 CL:=fun i Z H Y W D s kw hi x H' zz=>by
  obtain⟨e,y⟩:=zz
  obtain⟨xs,q,v⟩:=h Z H Y W D s kw;subst e;obtain⟨dv,e2,v2⟩:=v.get' (y xs q);exact⟨D,aQ.refl _,dv,e2,v2⟩
 stop:=fun Z H Y W D s kw=>by
  obtain⟨xs,q,v⟩:=h Z H Y W D s kw;exact⟨xs,q,by rw[v.length];exact aaC _⟩
noncomputable instance {K:zn}[hk:lV C K][ia:LE C ta da]:LI C (CN K ta) (Ed da):=by
 obtain⟨rfl⟩:=hk;exact⟨fun D h k=>ia.go D h fun x dv H1 W1 D1 s1 v1 h1=>by
 rcases h1 with⟨ds,e,q⟩ | ⟨p,vs,e,ew,q⟩ | ⟨ns,e,q⟩
 .subst e;obtain⟨p,xs,rfl,hp,r⟩:=v1;exact⟨p,rfl,⟨xs,gk.of (Fz.le hp)⟩,k _ _ _ _ D1 s1 (xR fun Z H Y W D s _=>⟨xs,gk.of (Fz.le (s _ _ hp)),.gZ (ay.same s r)⟩) q⟩
 .subst e;cases v1;obtain⟨_,_,xs,h3,r⟩:=D1.ce p _ ew;exact⟨p,rfl,⟨xs,gk.of h3⟩,k _ _ _ _ D1 s1 (xR fun Z H Y W D s kw=>by
   obtain⟨_,_,ys,h4,r4⟩:=D.ce p _ kw;exact⟨ys,gk.of h4,r4⟩) q⟩
 .subst e;obtain⟨p,rfl,hp⟩:=v1;exact⟨p,rfl,⟨_,(Fz.sm (C:=C) (W:=W1)).seq hp⟩,k _ _ _ _ D1 s1 (xR fun Z H Y W D s _=>⟨_,(Fz.sm (C:=C) (W:=W)).seq (s.seq hp),jC ns⟩) q⟩⟩
theorem NM{it:nI}(h:∀ Z H Y W,DR C Z H Y W->aQ F (Fz C W H)->it.kp W->∃ xs,fX C.K H a xs/\aO C (Fz C W H) it.vs xs):Eb C F (Vt C.K a) it where
 go:=fun i Z H Y W D s kw hi=>by
  obtain⟨xs,q,v⟩:=h Z H Y W D s kw;have hl:=v.length;exact⟨xs,xs[i]'(by omega),q,by simp[show i < xs.length by omega]⟩
 CL:=fun i Z H Y W D s kw hi x H' zz=>by
  obtain⟨e,y⟩:=zz
  obtain⟨xs,q,v⟩:=h Z H Y W D s kw;subst e;obtain⟨dv,e2,v2⟩:=v.get' (y xs q);exact⟨D,aQ.refl _,dv,e2,v2⟩
 stop:=fun Z H Y W D s kw=>by
  obtain⟨xs,q,v⟩:=h Z H Y W D s kw;exact⟨xs,q,by rw[v.length];exact aaC _⟩
noncomputable def NN(v:DV)(W1:Wd)(Q:nI->Wd->Prop):Prop:=∃ vs,kr v=some vs/\Q ⟨vs,fun _=>True⟩ W1
noncomputable def KJ(a:cZ):Ea:=fun Y W Q=>a Y W fun v W1=>NN v W1 Q
theorem qC(D:DR C Z H Y W)(h:eF C (Fz C W H) dv x)(e:kr dv=some vs):∃ p xs,x=.ref p/\∀ bH H' cG W',DR C bH H' cG W'->aQ (Fz C W H) (Fz C W' H')->fX C.K H' p xs/\aO C (Fz C W' H') vs xs:=by
 cases dv with
 | im d =>
  cases d with
  | tuple ds=>cases e;obtain⟨p,xs,e1,h1,r⟩:=h;exact⟨p,xs,e1,fun bH H' cG W' D' s=>⟨fX.of (Fz.le (s _ _ h1)),.gZ (ay.same s r)⟩⟩
  | _=>cases e
 | cst ys =>
  obtain⟨p,e1,h1⟩:=h;unfold kr at e
  by_cases q:ys.all eW=true
  .simp only[q,acT]at e;cases e;exact⟨p,ys,e1,fun bH H' cG W' D' s=>⟨h1 H',nG q⟩⟩
  .simp only[q]at e;cases e
 | tp ts=>cases e;obtain⟨p,Bv,e1,h1,r⟩:=h;exact⟨p,Bv,e1,fun bH H' cG W' D' s=>⟨fX.of (Fz.le (s _ _ h1)),oJ (r.same s)⟩⟩
 | _=>cases e
noncomputable instance {K:zn}[hk:lV C K][ia:LE C ta da]:LI C (Mn K ta) (KJ da):=by
 obtain⟨rfl⟩:=hk;exact⟨fun D h k=>ia.go D h fun x dv H1 W1 D1 s1 v1 zz=>by
 obtain⟨vs,e,q⟩:=zz
 obtain⟨p,xs,rfl,hk⟩:=qC D1 v1 e;exact⟨p,rfl,⟨xs,(hk _ _ _ _ D1 (aQ.refl _)).1⟩,k _ _ _ _ D1 s1 (NM fun Z H Y W D s _=>⟨xs,hk Z H Y W D s⟩) q⟩⟩
theorem NO{lo:Int}:Eb C F (Uj lo n) ⟨(List.range n).map fun i=>.im (.int (lo+(i:Nat))),fun _=>True⟩ where
 go:=fun i Z H Y W D s kw hi=>by show i < n;simpa using hi
 CL:=fun i Z H Y W D s kw hi x H' zz=>by
  obtain⟨e,y⟩:=zz
  subst e;have Ee:i < n:=by simpa using hi
  exact⟨D,aQ.refl _,.im (.int (lo+i)),by simp[Ee],y⟩
 stop:=fun Z H Y W D s kw=>by show n<=_;simp
def NP(vs:List DV)(W1:Wd)(Q:nI->Wd->Prop):Prop:=∃ j:Int,vs=[.im (.int j)]/\-(2 ^ 62)<=j/\j < 2 ^ 62/\Q ⟨(List.range j.toNat).map fun i=>.im (.int (0+(i:Nat))),fun _=>True⟩ W1
def KL(a:mF):Ea:=fun Y W Q=>a Y W fun vs W1=>NP vs W1 Q
instance [is:LA C ts ds]:LI C (CP ts) (KL ds):=⟨fun D h k=>is.go D h fun xs aK H1 W1 D1 s1 v1 zz=>by
 obtain⟨j,e,l1,l2,q⟩:=zz
 subst e;obtain⟨x,rfl,hx⟩:=v1.dY;cases hx;exact⟨j,rfl,l1,l2,k _ _ _ _ D1 s1 NO q⟩⟩
end
variable {B':nI->Wd->Prop}
section
variable {ta:TE}{ts:TA}{ds:mF}{Q:VK}{x:V}{F':Hp}
noncomputable def Bx(k:SK)(W:Wd)(dv:DV):Option (List DV):=match k with
 | .L=>match dX W dv with
  | some vs=>some vs
  | none=>pV dv
 | .T=>kr dv
def xS(dv:DV)(vs:List DV):Wd->Prop:=match dv with
 | .pt p=>fun W'=>W' p=some (.lst vs)
 | _=>fun _=>True
theorem qD(D:DR C Z H Y W)(h:eF C (Fz C W H) dv x){k:SK}(e:Bx k W dv=some vs):∃ p,x=.ref p/\xS dv vs W/\∀ bH H' cG W',DR C bH H' cG W'->aQ (Fz C W H) (Fz C W' H')->xS dv vs W'->∃ xs,xx C.K k H' p xs/\aO C (Fz C W' H') vs xs:=by
 cases k with
 | T =>
  obtain⟨p,xs,e1,hk⟩:=qC D h (show kr dv=some vs from e);have tt:∀ W',xS dv vs W':=fun W'=>by
   cases dv with
   | pt q=>cases (show kr (.pt q)=some vs from e)
   | _=>exact trivial
  exact⟨p,e1,tt W,fun bH H' cG W' D' s _=>⟨xs,hk bH H' cG W' D' s⟩⟩
 | L =>
  cases dv with
  | im d =>
   cases d with
   | list ds =>
    cases (show some (ds.map DV.im)=some vs from e);obtain⟨p,xs,e1,h1,r⟩:=h;exact⟨p,e1,trivial,fun bH H' cG W' D' s _=>⟨xs,gk.of (Fz.le (s _ _ h1)),.gZ (ay.same s r)⟩⟩
   | _=>cases (show none=some vs from e)
  | pt p =>
   unfold Bx dX at e;cases q:W p with
   | none=>simp[q,pV]at e
   | some c =>
    cases c with
    | lst ys =>
     simp[q]at e;subst e;refine⟨p,h,q,fun bH H' cG W' D' s kw=>?_⟩;obtain⟨_,_,zs,h4,r4⟩:=D'.ce p _ kw;exact⟨zs,gk.of h4,r4⟩
    | _=>simp[q,pV]at e
  | lH ns =>
   cases (show some (ns.map fun n=>DV.im (.int n))=some vs from e);obtain⟨p,e1,h1⟩:=h;exact⟨p,e1,trivial,fun bH H' cG W' D' s _=>⟨_,(Fz.sm (C:=C) (W:=W')).seq (s.seq h1),jC ns⟩⟩
  | _=>cases (show none=some vs from e)
noncomputable def NQ:DV->Option PyData
 | .im d=>some d
 | _=>none
theorem su:∀{vs:List DV} {ds:wE},gx NQ vs=some ds->vs=ds.map .im
 | [],_,e=>by cases e;rfl
 | .im d::r,_,e=>by
  unfold gx at e;cases q:gx NQ r with
  | none=>simp[NQ,q]at e
  | some cs=>simp[NQ,q]at e;subst e;rw[su q];rfl
 | .pt _::_,_,e=>by cases e
 | .cst _::_,_,e=>by cases e
 | .rf _::_,_,e=>by cases e
 | .ty _::_,_,e=>by cases e
 | .wJ _::_,_,e=>by cases e
 | .raw _::_,_,e=>by cases e
 | .lH _::_,_,e=>by cases e
 | .tp _::_,_,e=>by cases e
noncomputable def WA(k1 k2:SK)(vs:List DV)(W1:Wd)(Q:nI->Wd->Prop):Prop:=∃ v1 v2 NR wK d1 d2,vs=[v1,v2]/\Bx k1 W1 v1=some NR/\Bx k2 W1 v2=some wK/\gx NQ NR=some d1/\gx NQ wK=some d2 /\
 Q ⟨(d1.zip d2).map fun p=>.im (.tuple [p.1,p.2]),fun W'=>xS v1 NR W'/\xS v2 wK W'⟩ W1
noncomputable def RY(k1 k2:SK)(a:mF):Ea:=fun Y W Q=>a Y W fun vs W1=>WA k1 k2 vs W1 Q
theorem NS{k1 k2:SK}{b:Addr}{d1 d2:wE}{kp:Wd->Prop}(h1:∀ Z H Y W,DR C Z H Y W->aQ F (Fz C W H)->kp W->∃ xs,xx C.K k1 H a xs/\ay (Fz C W H) d1 xs)(h2:∀ Z H Y W,DR C Z H Y W->aQ F (Fz C W H)->kp W->∃ xs,xx C.K k2 H b xs/\ay (Fz C W H) d2 xs) :
  Eb C F (VU C.K k1 k2 a b) ⟨(d1.zip d2).map fun p=>.im (.tuple [p.1,p.2]),kp⟩ where
 go:=fun i Z H Y W D s kw hi=>by
  obtain⟨xs,q1,r1⟩:=h1 Z H Y W D s kw;obtain⟨ys,q2,r2⟩:=h2 Z H Y W D s kw;have Ee:i < d1.length/\i < d2.length:=by simp at hi;omega
  have l1:=r1.length;have l2:=r2.length;exact⟨xs,ys,xs[i]'(by omega),ys[i]'(by omega),q1,q2,by simp[show i < xs.length by omega],by simp[show i < ys.length by omega]⟩
 CL:=fun i Z H Y W D s kw hi x H' zz=>by
  obtain⟨p,y,z,e,hp,eH,g1,g2⟩:=zz
  subst e eH;obtain⟨xs,q1,r1⟩:=h1 Z H Y W D s kw;obtain⟨ys,q2,r2⟩:=h2 Z H Y W D s kw;have Ee:i < d1.length/\i < d2.length:=by simp at hi;omega
  obtain⟨y',ey,ry⟩:=r1.get (i:=i) (d:=d1[i]) (by simp[Ee.1]);obtain⟨z',ez,rz⟩:=r2.get (i:=i) (d:=d2[i]) (by simp[Ee.2]);rw[g1 xs q1]at ey;cases ey;rw[g2 ys q2]at ez;cases ez;obtain⟨D2,s2,e2⟩:=D.Cm hp (.tup [y,z]);refine⟨D2,s2,.im (.tuple [d1[i],d2[i]]),?_,p,_,rfl,e2,y,_,rfl,ry.same s2,z,_,rfl,rz.same s2,rfl⟩;have:(d1.zip d2)[i]?=some (d1[i],d2[i]):=by simp[abD,Ee.1,Ee.2]
  show((d1.zip d2).map fun p=>DV.im (.tuple [p.1,p.2]))[i]?=_;rw[aaz,this];rfl
 stop:=fun Z H Y W D s kw=>by
  obtain⟨xs,q1,r1⟩:=h1 Z H Y W D s kw;obtain⟨ys,q2,r2⟩:=h2 Z H Y W D s kw;refine⟨xs,ys,q1,q2,?_⟩;show xs.length<=((d1.zip d2).map _).length\/ys.length<=((d1.zip d2).map _).length;rw[aav,ad0,<- r1.length,<- r2.length];omega
noncomputable instance {K:zn}[hk:lV C K]{k1 k2:SK}[is:LA C ts ds]:LI C (Nd K k1 k2 ts) (RY k1 k2 ds):=by
 obtain⟨rfl⟩:=hk;exact⟨fun D h k=>is.go D h fun xs aK H1 W1 D1 s1 v1 zz=>by
 obtain⟨a,b,NR,wK,d1,d2,e,e1,e2,i1,i2,q⟩:=zz
 subst e;obtain⟨x,y,rfl,hx,hy⟩:=v1.nH;obtain⟨p1,rfl,k1',f1⟩:=qD D1 hx e1;obtain⟨p2,rfl,k2',f2⟩:=qD D1 hy e2;have u1:=su i1;have u2:=su i2;subst u1 u2;refine⟨p1,p2,rfl,let ⟨xs,q,_⟩:=f1 _ _ _ _ D1 (aQ.refl _) k1';⟨xs,q⟩,let ⟨xs,q,_⟩:=f2 _ _ _ _ D1 (aQ.refl _) k2';⟨xs,q⟩,k _ _ _ _ D1 s1 (NS (fun Z H Y W D s kw=>?_) fun Z H Y W D s kw=>?_) q⟩
 .obtain⟨xs,q,r⟩:=f1 Z H Y W D s kw.1;exact⟨xs,q,r.uN⟩
 .obtain⟨xs,q,r⟩:=f2 Z H Y W D s kw.2;exact⟨xs,q,r.uN⟩⟩
set_option genInjectivity true in
inductive Res where
 | im (d:PyData) | nw (ds:wE)
noncomputable def UI:Res->Bool
 | .im d=>Im d
 | .nw ds=>iF ds
noncomputable def zU(O:Addr->Prop)(H H':Hp):Res->V->Prop
 | .im d,v=>Rep (hide O H') d v
 | .nw ds,v=>∃ p xs,v=.ref p/\H p=none/\H' p=some (.lst xs)/\ay (hide (fun a=>O a\/a=p) H') ds xs
abbrev ku:=List PyData->(Res->Prop)->(Addr->Prop)->Prop
noncomputable def eZ(S:ku):Sp:=fun vs H Q E=>∃(O:Addr->Prop) (ds:wE) (R:Res->Prop) (X:Addr->Prop),(∀ a,O a->H a≠none)/\ay (hide O H) ds vs/\S ds R X/\(∀ r v H',R r->aQ H H'->zU O H H' r v->Q v H')/\∀ c H',X c->aQ H H'->E (.ref c) none H'
def j5(W:Wd)(Q:DK):Res->Prop
 | .im d=>Q (.im d) W
 | .nw ds=>(∀ p,W p=none->Q (.pt p) (aG W p (.lst (ds.map .im))))\/Q (.im (.list ds)) W
noncomputable def qE(S:ku)(X:Addr->Prop):List DV->Wd->DK->Prop:=fun as W Q =>
 (∃ ds,gx (dat 4 W) as=some ds/\S ds (fun r=>UI r=true/\j5 W Q r) X)\/∃ ds W1,jq (lG 4) W as=some (ds,W1)/\S ds (j5 W1 Q) X
class Ig (C:DC) (sp:Sp) (E:XK) (d:outParam (List DV->Wd->DK->Prop)):Prop where
 go:∀{Z:St} {H:Hp} {Y:bW} {W:Wd} {Qd:DK} {Q:VK} {as:List DV} {xs:List V},DR C Z H Y W->aO C (Fz C W H) as xs->d as W Qd->KE C Z Y W H Qd Q->sp xs H Q E
theorem DR.sameNew(D:DR C Z H Y W)(s:aQ H H'){aK:List DV}(hp:H p=none)(uT:H' p=some (.lst xs))(r:aO C (Fz C (aG W p (.lst aK)) H') aK xs):DR C Z H' Y (aG W p (.lst aK))/\aQ (Fz C W H) (Fz C (aG W p (.lst aK)) H'):=by
 have np:∀ a,H a≠none->a≠p:=fun a ha z=>ha (by rw[z];exact hp);refine D.step (fun a z=>?_) (fun a u e _=>s a u e) (sg s) fun s' q c' e=>?_
 .by_cases hq:a=p
  .exact .inr (by rw[hq];exact hp)
  .rw[aB hq]at z;exact .inl z
 .by_cases hq:q=p
  .subst hq;rw[av]at e;cases e;exact⟨.inl (D.Ku hp),D.nO hp,xs,uT,r⟩
  .rw[aB hq]at e;obtain⟨h1,h2,h3⟩:=D.ce q c' e;refine⟨h1,h2,h3.mono s' D.ok (iG s (D.there e)) (fun g hg=>?_) fun t' g' n' z=>?_⟩
   .have:=np g (D.there hg);exact⟨by rw[aB this];exact hg,iG s (D.there hg)⟩
   .by_cases ht:t'=p
    .subst ht;rw[av]at z;cases z
    .rw[aB ht]at z;exact⟨n',z⟩
theorem DR.tp(D:DR C Z H Y W){O:Addr->Prop}(hO:∀ a,C.O a->O a):Tp (hide O H) (Fz C W H):=fun b xs e=>by
 obtain⟨h1,h2⟩:=aD.mp e;refine aD.mpr ⟨fun z=>?_,h2⟩;rcases z with z | z
 .exact h1 (hO b z)
 .cases q:W b with
  | none=>rw[q]at z;cases z
  | some c =>
   obtain⟨u,e1,e2⟩:=(D.ce b c q).2.2.mu D.ok;rw[h2]at e1;cases e1;exact e2 xs rfl
theorem zV{S:ku}{X:Addr->Prop}(hX:∀ c H',X c->(∀ a o,C.H0 a=some o->¬ C.T a->H' a=some o)->E (.ref c) none H')(D:DR C Z H Y W)(h:aO C (Fz C W H) as xs)(hd:qE S X as W Qd)(k:KE C Z Y W H Qd Q):eZ S xs H Q E:=by
 have hE:∀ c H',X c->aQ H H'->E (.ref c) none H':=fun c H' hc s=>hX c H' hc fun a o e ht=>s a o (D.fr a o e ht);rcases hd with⟨ds,e,hS⟩ | ⟨ds,W1,e,hS⟩
 .refine⟨fun a=>C.O a\/fj (W a),ds,_,X,fun a ha=>?_,hU (fun dv x d h e=>D.dat 4 h e) h e,hS,fun r v H' hr s hv=>?_,hE⟩
  .rcases ha with ha | ha
   .exact D.ho a ha
   .obtain⟨c,e⟩:=gO ha;exact D.there e
  .obtain⟨D1,s1⟩:=D.same s;cases r with
   | im d=>exact k _ (.im d) _ _ D1 s1 (Rep.tp (D1.tp fun a ha=>.inl ha) hr.1 hv) hr.2
   | nw es =>
    obtain⟨p,ys,rfl,hp,uT,rr⟩:=hv;have base:ay (Fz C W H') es ys:=ay.tp (D1.tp fun a ha=>.inl (.inl ha)) hr.1 rr;have Ef:Tp (Fz C W H') (Fz C (aG W p (.lst (es.map .im))) H'):=fun b zs e=>by
     obtain⟨h1,h2⟩:=aD.mp e;have nb:b≠p:=fun z=>by rw[z,uT]at h2;cases h2
     refine aD.mpr ⟨fun z=>h1 (z.elim .inl fun z=>.inr ?_),h2⟩;rw[aB nb]at z;exact z
    rcases hr.2 with h2 | h2
    .obtain⟨D2,s2⟩:=D.sameNew s hp uT (.gZ (ay.tp Ef hr.1 base));exact k _ (.pt p) _ _ D2 s2 rfl (h2 p (D.fresh hp))
    .exact k _ (.im (.list es)) _ _ D1 s1 ⟨p,ys,rfl,aD.mpr ⟨(fun z=>z.elim (D.nO hp) (fun z=>by rw[D.fresh hp]at z;cases z)),uT⟩,base⟩ h2
 .obtain⟨D1,s1,r1,k1⟩:=iH (kq 4) D h e;refine⟨fun a=>C.O a\/(W1 a).isSome=true,ds,_,X,fun a ha=>?_,r1,hS,fun r v H' hr s hv=>?_,hE⟩
  .rcases ha with ha | ha
   .exact D1.ho a ha
   .cases q:W1 a with
    | none=>rw[q]at ha;cases ha
    | some c=>exact D1.there q
  .obtain⟨D2,s2⟩:=D1.same s;cases r with
   | im d=>exact k _ (.im d) _ _ D2 (s1.trans s2) hv hr
   | nw es =>
    obtain⟨p,ys,rfl,hp,uT,rr⟩:=hv;have:aQ (hide (fun a=>(C.O a\/(W1 a).isSome=true)\/a=p) H') (Fz C (aG W1 p (.lst (es.map .im))) H'):=fun b o e=>by
     obtain⟨h1,h2⟩:=aD.mp e;refine aD.mpr ⟨fun z=>h1 ?_,h2⟩;rcases z with z | z
     .exact .inl (.inl z)
     .by_cases hb:b=p
      .exact .inr hb
      .rw[aB hb]at z;exact .inl (.inr z)
    rcases hr with h2 | h2
    .obtain⟨D3,s3⟩:=D1.sameNew s hp uT (.gZ (ay.same this rr));exact k _ (.pt p) _ _ D3 (s1.trans s3) rfl (h2 p (D1.fresh hp))
    .refine k _ (.im (.list es)) _ _ D2 (s1.trans s2) ⟨p,ys,rfl,aD.mpr ⟨(fun z=>z.elim (D1.nO hp) (fun z=>by rw[D1.fresh hp]at z;cases z)),uT⟩,ay.same (fun b o e=>?_) rr⟩ h2;obtain⟨g1,g2⟩:=aD.mp e;exact aD.mpr ⟨fun z=>g1 (.inl z),g2⟩
noncomputable instance {S:ku}:Ig C (eZ S) E0 (qE S fun _=>False):=⟨fun D h hd k=>zV (fun c H' hc _=>hc.elim) D h hd k⟩
instance {sp:Sp}{E:XK}{f:List DV->Wd->DK->Prop}[ir:Ig C sp E f][is:LA C ts ds]:LE C (zt sp [] E ts) (Ww f ds):=⟨fun D h k=>is.go D h fun xs aK H1 W1 D1 s1 v1 h1=>by
 show sp (xs++[]) H1 _ E;rw[acu];exact ir.go D1 v1 h1 (k.mono s1)⟩
end
def W0:Wd:=fun _=>none
def lX:Hp->Addr->Addr->Nat->Prop:=fun _ _ _ _=>False
def xT:Addr->Prop:=fun _=>False
def cC(N:wv)(ds:List DV):bW:=ds.map some++List.replicate (N.length - ds.length) none
noncomputable def Ih(W:Wd)(R:Res->Prop):DV->Prop
 | .im d=>R (.im d)
 | .pt p=>∃ vs ds W2,W p=some (.lst vs)/\jq (lG 3) W vs=some (ds,W2)/\(W2 p).isSome=true/\R (.nw ds)
 | _=>False
noncomputable def NT(R:Res->Prop):hZ:=⟨fun _ _=>R (.im .none),fun dv W=>Ih W R dv,fun _ _=>False,fun _ _=>False⟩
theorem Slots.none:∀ n:Nat,Slots C F (List.replicate n Option.none) (List.replicate n Option.none)
 | 0=>trivial
 | n+1=>Slots.none n
theorem Slots.start:∀{aK:List DV} {vs:List V} (n:Nat),aO C F aK vs->Slots C F (aK.map some++List.replicate n Option.none) (vs.map some++List.replicate n Option.none)
 | [],_,n,h=>by cases h;exact Slots.none n
 | d::r,_,n,⟨y,ys,e,h,hr⟩=>by subst e;exact⟨h,Slots.start n hr⟩
theorem NU{R:Res->Prop}{x:V}(D:DR C Z H' Y W)(hT:∀ p,C.H0 p=none\/C.T p->W p=none\/C.H0 p=none)(v:eF C (Fz C W H') dv x)(h:Ih W R dv):∃ r,R r/\zU C.O C.H0 H' r x:=by
 cases dv with
 | im d=>exact⟨.im d,h,Rep.same (fun a o e=>by obtain⟨h1,h2⟩:=aD.mp e;exact aD.mpr ⟨fun z=>h1 (.inl z),h2⟩) v⟩
 | pt p =>
  obtain⟨vs,ds,W2,e,ef,hs,hr⟩:=h;obtain⟨h0,hO,xs,hx,rx⟩:=D.ce p _ e;have h0':C.H0 p=none:=by
   rcases hT p h0 with z | z
   .rw[e]at z;cases z
   .exact z
  obtain⟨D2,s2,r2,_⟩:=iH (kq 3) D rx ef;refine⟨.nw ds,hr,p,xs,v,h0',hx,ay.same (fun a o q=>?_) r2⟩;obtain⟨g1,g2⟩:=aD.mp q;refine aD.mpr ⟨fun z=>?_,g2⟩;rcases z with z | z
  .exact g1 (.inl z)
  .subst z;exact g1 (.inr hs)
 | _=>exact h.elim
section
variable {K:zn}{k:Nat}{Sd:ku}
theorem zW{vs:List V}{Q:VK}{t:TS}(h:eZ Sd vs H Q E)(hb:∀ O X,∃ d,LS ⟨K,lX,H,xT,O,E,X⟩ t d/\∀ ds R,Sd ds R X->d (NT R) (cC N (ds.map .im)) W0):t { nx:=fun _ H'=>Q .dH H',rt:=Q } (start N vs) H:=by
 obtain⟨O,ds,R,X,hO,hr,hS,hR,hX⟩:=h;obtain⟨d,hd,hb⟩:=hb O X;have fz:∀ H1,Fz ⟨K,lX,H,xT,O,E,X⟩ W0 H1=hide O H1:=fun H1=>by
  funext a;unfold Fz hide
  by_cases ha:O a
  .rw[aaO ha,aaO (.inl ha)]
  .rw[aaD ha,aaD (by rintro(z | z);exact ha z;cases z)]
 have D:DR ⟨K,lX,H,xT,O,E,X⟩ (start N vs) H (cC N (ds.map .im)) W0:=by
  refine⟨⟨fun z=>z.elim,fun z=>z.elim,fun c hc H' hf=>hX c H' hc fun a o e=>hf a o e (fun z=>z)⟩,fun a o e _=>e,hO,fun a z=>z.elim,?_,fun p c e=>by cases e⟩;rw[fz H];have va:aO ⟨K,lX,H,xT,O,E,X⟩ (hide O H) (ds.map .im) vs:=aO.gZ hr;unfold start cC;rw[va.length];exact Slots.start _ va
 refine hd.go D (hb ds R hS) ⟨fun bH H' cG W' D' s q=>?_,fun bH H' cG W' D' s q=>q.elim,fun bH H' cG W' D' s q=>q.elim,fun x dv bH H' cG W' D' s v q=>?_⟩
 .exact hR (.im .none) .dH H' q (fun a o e=>D'.fr a o e (fun z=>z)) rfl
 .obtain⟨r,hr,hv⟩:=NU D' (fun p z=>z.elim .inr fun z=>z.elim) v q;exact hR r x H' hr (fun a o e=>D'.fr a o e (fun z=>z)) hv
theorem zX(hlen:∀ ds R X,Sd ds R X->ds.length=ps.length):∀ vs H Q E,eZ Sd vs H Q E->vs.length=ps.length:=fun vs H Q E zz=>by obtain⟨O,ds,R,X,_,hr,hS,_⟩:=zz; rw[<- hr.length];exact hlen ds R X hS
theorem cR.pW(F:cR K x qual st f fd)(S:az N ps (defScope st))(hlen:∀ ds R X,Sd ds R X->ds.length=ps.length)(eG:∀(bB:Value) (A:tx) (outer:List Env) (s:Shared) (H:Hp) (E:XK),de k (A.deeper (envOfC qual (defScope st) s.heap.objs.size f bB)) ->
   ∃ t,ua (gC df P w K mg base N qual (defScope st) f bB A outer s H E).AU (defBody st) t/\∀ O X,∃ d,LS ⟨K,lX,H,xT,O,E,X⟩ t d/\∀ ds R,Sd ds R X->d (NT R) (cC N (ds.map .im)) W0):ba P w K mg base df (k+1) f fd ps (eZ Sd) :=
 F.Ni S (zX hlen) fun bB A outer s H vs Q E hr h=>by
  obtain⟨t,h1,h2⟩:=eG bB A outer s H E hr;exact⟨t,h1,zW h h2⟩
theorem cR.RZ(F:cR K x qual st f fd)(S:az N ps (defScope st))(hlen:∀ ds R X,Sd ds R X->ds.length=ps.length)(eG:∀(bB:Value) (A:tx) (outer:List Env) (s:Shared) (H:Hp) (E:XK),de k (A.deeper (envOfC qual (defScope st) s.heap.objs.size f bB)) ->
   ∃ t,ua (gC (wI P w) P w K mg base N qual (defScope st) f bB A outer s H E) (defBody st) t/\∀ O X,∃ d,LS ⟨K,lX,H,xT,O,E,X⟩ t d/\∀ ds R,Sd ds R X->d (NT R) (cC N (ds.map .im)) W0):ba P w K mg base (wI P w) (k+1) f fd ps (eZ Sd) :=
 F.okX S (zX hlen) fun bB A outer s H vs Q E hr h=>by
  obtain⟨t,h1,h2⟩:=eG bB A outer s H E hr;exact⟨t,h1,zW h h2⟩
end
def zY(f:Wd->DV->Option (PyData×Wd)):Prop:=∀{W W':Wd} {dv:DV} {d:PyData},f W dv=some (d,W')->∀ a,fj (W a)->W' a=W a
theorem jU{f:Wd->DV->Option (PyData×Wd)}(hf:zY f):∀{aK:List DV} {W W':Wd} {ds:wE},jq f W aK=some (ds,W')->∀ a,fj (W a)->W' a=W a
 | [],W,_,_,e,a,_=>by cases e;rfl
 | d::r,W,W',ds,e,a,ht=>by
  unfold jq at e;cases q:f W d with
  | none=>rw[q]at e;cases e
  | some dw =>
   obtain⟨d',W1⟩:=dw;rw[q]at e;cases q2:jq f W1 r with
   | none=>simp[q2]at e
   | some Wn =>
    obtain⟨Cn,W2⟩:=Wn;simp[q2]at e;obtain⟨e3,e4⟩:=e;subst e3 e4;have h1:=hf q a ht;rw[jU hf q2 a (by rw[h1];exact ht),h1]
theorem oM:∀ n:Nat,zY (lG n)
 | n,W,W',.im d',d,e,a,ht=>by
  have e':(d',W)=(d,W'):=by cases n<;>exact abb e
  cases e';rfl
 | 0,_,_,.pt p,_,e,_,_=>by cases e
 | n+1,W,W',.pt p,d,e,a,ht=>by
  unfold lG at e;cases q:W p with
  | none=>rw[q]at e;cases e
  | some c =>
   rw[q]at e;cases c with
   | lst ys =>
    cases q2:jq (lG n) (sf W p) ys with
    | none=>simp[q2]at e
    | some dw =>
     obtain⟨ds,W1⟩:=dw;simp[q2]at e;obtain⟨e3,e4⟩:=e;subst e3 e4;have ap:a≠p:=fun z=>by rw[z,q]at ht;exact ht
     rw[jU (oM n) q2 a (by rw[jg ap];exact ht),jg ap]
   | aI _ _=>cases e
   | part=>cases e
   | dk _=>cases e
   | dt _=>cases e
   | ob _ _ _=>cases e
 | 0,_,_,.cst _,_,e,_,_=>by cases e
 | n+1,_,_,.cst _,_,e,_,_=>by cases e
 | 0,_,_,.rf _,_,e,_,_=>by cases e
 | n+1,_,_,.rf _,_,e,_,_=>by cases e
 | 0,_,_,.ty _,_,e,_,_=>by cases e
 | n+1,_,_,.ty _,_,e,_,_=>by cases e
 | 0,_,_,.wJ _,_,e,_,_=>by cases e
 | n+1,_,_,.wJ _,_,e,_,_=>by cases e
 | 0,_,_,.raw _,_,e,_,_=>by cases e
 | n+1,_,_,.raw _,_,e,_,_=>by cases e
 | 0,_,_,.lH _,_,e,_,_=>by cases e
 | n+1,_,_,.lH _,_,e,_,_=>by cases e
 | 0,_,_,.tp _,_,e,_,_=>by cases e
 | n+1,_,_,.tp _,_,e,_,_=>by cases e
abbrev uU:=Nat->wE->(Res->Nat->Prop)->Prop
noncomputable def spT(Rs:Hp->Addr->Addr->Nat->Prop)(S:uU):Sp:=fun vs H Q _=>∃(t g:Addr) (n:Nat) (Bv:List V) (O:Addr->Prop) (ds:wE) (R:Res->Nat->Prop),vs=.ref t::Bv/\Rs H t g n/\g≠t/\(∀ a,O a->H a≠none)/\¬ O t/\¬ O g /\
 ay (hide (fun a=>O a\/a=t\/a=g) H) ds Bv/\S n ds R/\∀ r n' v H',R r n'->Kp t g H H'->Rs H' t g n'->zU (fun a=>O a\/a=t\/a=g) H H' r v->Q v H'
noncomputable def uV(S:uU):List DV->Wd->DK->Prop:=fun as W Q=>∃ t g n UJ,as=.pt t::UJ/\W t=some (.aI g n) /\
 ((∃ ds,gx (dat 4 W) UJ=some ds/\S n ds fun r n'=>UI r=true/\j5 (aG W t (.aI g n')) Q r)\/∃ ds W1,jq (lG 4) W UJ=some (ds,W1)/\W1 t=some (.aI g n)/\S n ds fun r n'=>j5 (aG W1 t (.aI g n')) Q r)
section
variable {Q:VK}
theorem By{b:Addr}{d:Cell}(h:a≠b):aG (aG W a c) b d=aG (aG W b d) a c:=by
 funext z;unfold aG
 by_cases h1:z=b
 .subst h1;rw[aaO rfl,aaD (acD h),aaO rfl]
 .rw[aaD h1];by_cases h2:z=a
  .rw[aaO h2,aaO h2]
  .rw[aaD h2,aaD h2,aaD h1]
theorem DR.KN{t:Addr}{n':Nat}{aK:List DV}(D:DR C Z H Y W)(e:W t=some (.aI g n))(k:Kp t g H H')(r:C.Rs H' t g n')(hp:H p=none)(uT:H' p=some (.lst xs))(rx:aO C (Fz C (aG (aG W t (.aI g n')) p (.lst aK)) H') aK xs):DR C Z H' Y (aG (aG W t (.aI g n')) p (.lst aK))/\aQ (Fz C W H) (Fz C (aG (aG W t (.aI g n')) p (.lst aK)) H'):=by
 obtain⟨_,eg,uq⟩:=(D.ce t _ e).2.2;have pt:p≠t:=fun z=>D.there e (by rw[<- z];exact hp);have pg:p≠g:=fun z=>D.there eg (by rw[<- z];exact hp);have gt:g≠t:=fun z=>by rw[z,e]at eg;cases eg
 obtain⟨D1,s1⟩:=D.kp e k r;have keep:∀ a,a≠t->a≠g->H a≠none->H' a=H a:=fun a h1 h2 h=>by
  cases q:H a with
  | none=>exact absurd q h
  | some o=>exact k a o q h1 h2
 refine D.step (fun a z=>?_) (fun a u q w'=>?_) (fun a ha=>?_) fun s q c e'=>?_
 .by_cases hq:a=p
  .exact .inr (by rw[hq];exact hp)
  .rw[aB hq]at z
   by_cases hq:a=t
   .exact .inl (by rw[hq,e];rfl)
   .rw[aB hq]at z;exact .inl z
 .exact k a u q (fun z=>by rw[z,e]at w';cases w') (fun z=>by rw[z,eg]at w';cases w')
 .by_cases h1:a=t
  .rw[h1];exact(D.ok.rn r).1.ne
  by_cases h2:a=g
  .rw[h2];exact(D.ok.rn r).2.ne
  rw[keep a h1 h2 ha];exact ha
 .by_cases hq:q=p
  .subst hq;rw[av]at e';cases e';exact⟨.inl (D.Ku hp),D.nO hp,xs,uT,rx⟩
  .rw[aB hq]at e'
   by_cases KP:q=t
   .subst KP;rw[av]at e';cases e';refine⟨(D.ce q _ e).1,(D.ce q _ e).2.1,r,by rw[aB (acD pg),aB gt];exact eg,fun t' g' m z=>?_⟩
    by_cases ht:t'=p
    .subst ht;rw[av]at z;cases z
    .rw[aB ht]at z
     by_cases ht:t'=q
     .exact ht
     .rw[aB ht]at z;exact uq t' g' m z
   .rw[aB KP]at e';obtain⟨kn,h2,h3⟩:=D.ce q c e';refine⟨kn,h2,?_⟩
    by_cases Bs:q=g
    .subst Bs;rw[eg]at e';cases e';exact(D.ok.rn r).2
    .cases c with
     | aI g2 n2=>exact absurd (uq q g2 n2 e') KP
     | part=>show Mu (H' q);rw[keep q KP Bs (D.there e')];exact h3
     | lst ds=>obtain⟨xs,z,rr⟩:=h3;exact⟨xs,k q _ z KP Bs,rr.mono s⟩
     | dk ds=>obtain⟨xs,z,kk,rr⟩:=h3;exact⟨xs,k q _ z KP Bs,kk,rr.mono s⟩
     | dt ds=>obtain⟨xs,z,kk,rr⟩:=h3;exact⟨xs,k q _ z KP Bs,kk,rr.mono s⟩
     | ob _ _ ds=>obtain⟨xs,z,kk,rr⟩:=h3;exact⟨xs,k q _ z KP Bs,kk,rr.mono s⟩
theorem Ii{S:uU}(D:DR C Z H Y W)(h:aO C (Fz C W H) as xs)(hd:uV S as W Qd)(k:KE C Z Y W H Qd Q):spT C.Rs S xs H Q E:=by
 obtain⟨t,g,n,UJ,rfl,et,hd⟩:=hd;obtain⟨y,ys,rfl,hy,Zp⟩:=h;cases hy;have main:∀(W:Wd) (O:Addr->Prop) (ds:wE) (R:Res->Nat->Prop),DR C Z H Y W->W t=some (.aI g n)->(∀ a,O a->H a≠none)->¬ O t->¬ O g->ay (hide (fun a=>O a\/a=t\/a=g) H) ds ys->S n ds R ->
   (∀ r n' v H',R r n'->Kp t g H H'->C.Rs H' t g n'->zU (fun a=>O a\/a=t\/a=g) H H' r v->Q v H')->spT C.Rs S (.ref t::ys) H Q E:=fun W O ds R D et ho h1 h2 hr hS hR=>by
  obtain⟨_,nO,xU,eg,uq⟩:=D.ce t _ et;have gt:g≠t:=fun z=>by rw[z,et]at eg;cases eg
  exact⟨t,g,n,ys,O,ds,R,rfl,xU,gt,ho,h1,h2,hr,hS,hR⟩
 have small:∀(W:Wd),DR C Z H Y W->W t=some (.aI g n)->∀ H1:Hp,aQ (hide (fun a=>C.O a\/fj (W a)) H1) (hide (fun a=>C.O a\/a=t\/a=g) H1):=fun W D et H1 a o e=>by
  obtain⟨_,eg,_⟩:=(D.ce t _ et).2.2;obtain⟨h1,h2⟩:=aD.mp e;refine aD.mpr ⟨fun z=>h1 ?_,h2⟩;rcases z with z | z | z
  .exact .inl z
  .exact .inr (by rw[z,et];trivial)
  .exact .inr (by rw[z,eg];trivial)
 rcases hd with⟨ds,e,hS⟩ | ⟨ds,W1,e,KQ,hS⟩
 .obtain⟨_,nO,aac,eg0,_⟩:=D.ce t _ et;refine main W C.O ds _ D et D.ho nO (D.ce g _ eg0).2.1 (ay.same (small W D et H) (hU (fun dv x d h e=>D.dat 4 h e) Zp e)) hS fun r n' v H' hr kp xU hv=>?_;obtain⟨D1,s1⟩:=D.kp et kp xU;cases r with
  | im d=>exact k _ (.im d) _ _ D1 s1 (Rep.tp (D1.tp fun a ha=>.inl ha) hr.1 hv) hr.2
  | nw es =>
   obtain⟨p,zs,rfl,hp,uT,rr⟩:=hv;have base:ay (Fz C (aG W t (.aI g n')) H') es zs:=ay.tp (D1.tp fun a ha=>.inl (.inl ha)) hr.1 rr;have Ef:Tp (Fz C (aG W t (.aI g n')) H') (Fz C (aG (aG W t (.aI g n')) p (.lst (es.map .im))) H'):=fun b zs e=>by
    obtain⟨h1,h2⟩:=aD.mp e;have nb:b≠p:=fun z=>by rw[z,uT]at h2;cases h2
    refine aD.mpr ⟨fun z=>h1 (z.elim .inl fun z=>.inr ?_),h2⟩;rw[aB nb]at z;exact z
   have R0:aG W t (.aI g n') p=none:=by rw[aB (fun z=>D.there et (by rw[<- z];exact hp))];exact D.fresh hp
   rcases hr.2 with h2 | h2
   .obtain⟨D2,s2⟩:=D.KN et kp xU hp uT (.gZ (ay.tp Ef hr.1 base));exact k _ (.pt p) _ _ D2 s2 rfl (h2 p R0)
   .exact k _ (.im (.list es)) _ _ D1 s1 ⟨p,zs,rfl,aD.mpr ⟨(fun z=>z.elim (D.nO hp) (fun z=>by rw[R0]at z;cases z)),uT⟩,base⟩ h2
 .obtain⟨D1,s1,r1,k1⟩:=iH (kq 4) D Zp e;obtain⟨_,_,_,eg,_⟩:=D1.ce t _ KQ;have sub:∀ H1:Hp,aQ (Fz C W1 H1) (hide (fun a=>(C.O a\/((W1 a).isSome=true/\a≠t/\a≠g))\/a=t\/a=g) H1):=fun H1 a o e=>by
   obtain⟨h1,h2⟩:=aD.mp e;refine aD.mpr ⟨fun z=>h1 ?_,h2⟩;rcases z with(z | z) | z | z
   .exact .inl z
   .exact .inr z.1
   .exact .inr (by rw[z,KQ];rfl)
   .exact .inr (by rw[z,eg];rfl)
  refine main W1 (fun a=>C.O a\/((W1 a).isSome=true/\a≠t/\a≠g)) ds _ D1 KQ (fun a ha=>?_) (fun z=>?_) (fun z=>?_) (ay.same (sub H) r1) hS fun r n' v H' hr kp xU hv=>?_
  .rcases ha with ha | ⟨ha,_⟩
   .exact D1.ho a ha
   .cases q:W1 a with
    | none=>rw[q]at ha;cases ha
    | some c=>exact D1.there q
  .rcases z with z | z
   .exact(D1.ce t _ KQ).2.1 z
   .exact z.2.1 rfl
  .rcases z with z | z
   .exact(D1.ce g _ eg).2.1 z
   .exact z.2.2 rfl
  .obtain⟨D2,s2⟩:=D1.kp KQ kp xU;have sup:∀ W2:Wd,(∀ a,(W2 a).isSome=true->(W1 a).isSome=true)->aQ (hide (fun a=>(C.O a\/((W1 a).isSome=true/\a≠t/\a≠g))\/a=t\/a=g) H') (Fz C W2 H'):=fun W2 hw a o e=>by
    obtain⟨h1,h2⟩:=aD.mp e;refine aD.mpr ⟨fun z=>h1 ?_,h2⟩;rcases z with z | z
    .exact .inl (.inl z)
    .by_cases ht:a=t
     .exact .inr (.inl ht)
     by_cases hg:a=g
     .exact .inr (.inr hg)
     exact .inl (.inr ⟨hw a z,ht,hg⟩)
   have hw:∀ a,(aG W1 t (.aI g n') a).isSome=true->(W1 a).isSome=true:=fun a z=>by
    by_cases ht:a=t
    .rw[ht,KQ];rfl
    .rw[aB ht]at z;exact z
   cases r with
   | im d=>exact k _ (.im d) _ _ D2 (s1.trans s2) (Rep.same (sup _ hw) hv) hr
   | nw es =>
    obtain⟨p,zs,rfl,hp,uT,rr⟩:=hv;have WB:aQ (hide (fun a=>((C.O a\/((W1 a).isSome=true/\a≠t/\a≠g))\/a=t\/a=g)\/a=p) H') (Fz C (aG (aG W1 t (.aI g n')) p (.lst (es.map .im))) H'):=fun a o e=>by
     obtain⟨h1,h2⟩:=aD.mp e;refine aD.mpr ⟨fun z=>h1 ?_,h2⟩;rcases z with z | z
     .exact .inl (.inl (.inl z))
     .by_cases ha:a=p
      .exact .inr ha
      .rw[aB ha]at z
       by_cases ht:a=t
       .exact .inl (.inr (.inl ht))
       by_cases hg:a=g
       .exact .inl (.inr (.inr hg))
       exact .inl (.inl (.inr ⟨hw a z,ht,hg⟩))
    have R0:aG W1 t (.aI g n') p=none:=by rw[aB (fun z=>D1.there KQ (by rw[<- z];exact hp))];exact D1.fresh hp
    rcases hr with h2 | h2
    .obtain⟨D3,s3⟩:=D1.KN KQ kp xU hp uT (.gZ (ay.same WB rr));exact k _ (.pt p) _ _ D3 (s1.trans s3) rfl (h2 p R0)
    .refine k _ (.im (.list es)) _ _ D2 (s1.trans s2) ⟨p,zs,rfl,aD.mpr ⟨(fun z=>z.elim (D1.nO hp) (fun z=>by rw[R0]at z;cases z)),uT⟩,ay.same (fun a o e=>?_) rr⟩ h2;obtain⟨g1,g2⟩:=aD.mp e;exact sup _ hw a o (aD.mpr ⟨fun z=>g1 (.inl z),g2⟩)
noncomputable instance {Rs:Hp->Addr->Addr->Nat->Prop}[hs:HU C Rs]{S:uU}{E:XK}:Ig C (spT Rs S) E (uV S):=by
 obtain⟨rfl⟩:=hs;exact⟨fun D h hd k=>Ii D h hd k⟩
noncomputable def WT(t g:Addr)(n:Nat):Wd:=aG (aG W0 g .part) t (.aI g n)
noncomputable def R3(t g:Addr)(R:Res->Nat->Prop):hZ:=⟨fun _ W=>∃ n,W t=some (.aI g n)/\R (.im .none) n,fun dv W=>∃ n,W t=some (.aI g n)/\Ih W (fun r=>R r n) dv,fun _ _=>False,fun _ _=>False⟩
end
structure xV(Rs:Hp->Addr->Addr->Nat->Prop):Prop where
 rs:∀{H H':Hp} {t g:Addr} {n:Nat},Rs H t g n->H' t=H t->H' g=H g->Rs H' t g n
 rn:∀{H:Hp} {t g:Addr} {n:Nat},Rs H t g n->Mu (H t)/\Mu (H g)
section
variable {K:zn}{k:Nat}{Sd:uU}{Rs:Hp->Addr->Addr->Nat->Prop}
theorem Eg{vs:List V}{Q:VK}{t:TS}(ok:xV Rs)(h:spT Rs Sd vs H Q E)(hb:∀ a g O,∃ d,LS ⟨K,Rs,H,fun z=>z=a\/z=g,O,E,fun _=>False⟩ t d/\∀ n ds R,Sd n ds R->d (R3 a g R) (cC N (.pt a::ds.map .im)) (WT a g n)):t { nx:=fun _ H'=>Q .dH H',rt:=Q } (start N vs) H:=by
 obtain⟨a,g,n,Bv,O,ds,R,rfl,xU,gt,hO,nt,ng,hr,hS,hR⟩:=h;obtain⟨d,hd,hb⟩:=hb a g O;have Wg:WT a g n g=some .part:=by unfold WT;rw[aB gt];exact av
 have Wa:WT a g n a=some (.aI g n):=av;have Wz:∀ z c,WT a g n z=some c->z=a\/z=g:=fun z c e=>by
  unfold WT at e
  by_cases h1:z=a
  .exact .inl h1
  .rw[aB h1]at e
   by_cases h2:z=g
   .exact .inr h2
   .rw[aB h2]at e;cases e
 have fz:∀ H1,aQ (hide (fun z=>O z\/z=a\/z=g) H1) (Fz ⟨K,Rs,H,fun z=>z=a\/z=g,O,E,fun _=>False⟩ (WT a g n) H1):=fun H1 b o e=>by
  obtain⟨h1,h2⟩:=aD.mp e;refine aD.mpr ⟨fun z=>h1 ?_,h2⟩;rcases z with z | z
  .exact .inl z
  .cases q:WT a g n b with
   | none=>rw[q]at z;cases z
   | some c=>exact .inr (Wz b c q)
 have D:DR ⟨K,Rs,H,fun z=>z=a\/z=g,O,E,fun _=>False⟩ (start N (.ref a::Bv)) H (cC N (.pt a::ds.map .im)) (WT a g n):=by
  refine⟨⟨ok.rs,ok.rn,fun c hc=>hc.elim⟩,fun b o e _=>e,hO,fun b z=>?_,?_,fun p c e=>?_⟩
  .rcases z with z | z
   .rw[z];exact(ok.rn xU).1.ne
   .rw[z];exact(ok.rn xU).2.ne
  .have va:aO ⟨K,Rs,H,fun z=>z=a\/z=g,O,E,fun _=>False⟩ (Fz ⟨K,Rs,H,fun z=>z=a\/z=g,O,E,fun _=>False⟩ (WT a g n) H) (.pt a::ds.map .im) (.ref a::Bv):=⟨_,_,rfl,rfl,(aO.gZ hr).mono (fz H)⟩;unfold start cC;rw[va.length];exact Slots.start _ va
  .rcases Wz p c e with z | z
   .subst z;rw[Wa]at e;cases e;refine⟨.inr (.inl rfl),nt,xU,Wg,fun t' g' n' z=>?_⟩;rcases Wz t' _ z with q | q
    .exact q
    .rw[q,Wg]at z;cases z
   .subst z;rw[Wg]at e;cases e;exact⟨.inr (.inr rfl),ng,(ok.rn xU).2⟩
 have fin:∀ bH H' cG W' n',DR ⟨K,Rs,H,fun z=>z=a\/z=g,O,E,fun _=>False⟩ bH H' cG W'->W' a=some (.aI g n')->Kp a g H H'/\Rs H' a g n':=fun bH H' cG W' n' D' e =>
  ⟨fun b o q h1 h2=>D'.fr b o q (fun z=>z.elim h1 h2),(D'.ce a _ e).2.2.1⟩
 refine hd.go D (hb n ds R hS) ⟨fun bH H' cG W' D' s q=>?_,fun bH H' cG W' D' s q=>q.elim,fun bH H' cG W' D' s q=>q.elim,fun x dv bH H' cG W' D' s v q=>?_⟩
 .obtain⟨n',e,q⟩:=q;obtain⟨h1,h2⟩:=fin bH H' cG W' n' D' e;exact hR (.im .none) n' .dH H' q h1 h2 rfl
 .obtain⟨n',e,q⟩:=q;obtain⟨h1,h2⟩:=fin bH H' cG W' n' D' e;have UK:W' g=some .part:=(D'.ce a _ e).2.2.2.1;cases dv with
  | im d =>
   refine hR (.im d) n' x H' q h1 h2 (Rep.same (fun b o e2=>?_) v);obtain⟨g1,g2⟩:=aD.mp e2;refine aD.mpr ⟨fun z=>g1 ?_,g2⟩;rcases z with z | z | z
   .exact .inl z
   .exact .inr (by rw[z,e];rfl)
   .exact .inr (by rw[z,UK];rfl)
  | pt p =>
   obtain⟨us,es,W2,e1,ef,hs,NV⟩:=q;obtain⟨h0,hO2,xs,hx,rx⟩:=D'.ce p _ e1;have pa:p≠a:=fun z=>by rw[z,e]at e1;cases e1
   have pg:p≠g:=fun z=>by rw[z,UK]at e1;cases e1
   obtain⟨D2,s2,r2,_⟩:=iH (kq 3) D' rx ef;have Zq:(W2 a).isSome=true/\(W2 g).isSome=true:=by
    have q1:=jU (oM 3) ef a (by rw[e];trivial);have q2:=jU (oM 3) ef g (by rw[UK];trivial);rw[q1,q2,e,UK];exact⟨rfl,rfl⟩
   refine hR (.nw es) n' x H' NV h1 h2 ⟨p,xs,v,h0.elim id fun z=>z.elim (fun z=>absurd z pa) fun z=>absurd z pg,hx,ay.same (fun b o q=>?_) r2⟩;obtain⟨g1,g2⟩:=aD.mp q;refine aD.mpr ⟨fun z=>g1 ?_,g2⟩;rcases z with(z | z | z) | z
   .exact .inl z
   .exact .inr (by rw[z];exact Zq.1)
   .exact .inr (by rw[z];exact Zq.2)
   .exact .inr (by rw[z];exact hs)
  | _=>exact q.elim
theorem zZ{m:Nat}(hm:ps.length=m+1)(hlen:∀ n ds R,Sd n ds R->ds.length=m):∀ vs H Q E,spT Rs Sd vs H Q E->vs.length=ps.length:=fun vs H Q E zz=>by obtain⟨t,g,n,Bv,O,ds,R,e,_,_,_,_,_,hr,hS,_⟩:=zz; rw[e,aaX,<- hr.length,hlen n ds R hS,hm]
theorem cR.KR(F:cR K x qual st f fd)(S:az N ps (defScope st))(ok:xV Rs){m:Nat}(hm:ps.length=m+1)(hlen:∀ n ds R,Sd n ds R->ds.length=m)(eG:∀(bB:Value) (A:tx) (outer:List Env) (s:Shared) (H:Hp) (E:XK),de k (A.deeper (envOfC qual (defScope st) s.heap.objs.size f bB)) ->
   ∃ t,ua (gC df P w K mg base N qual (defScope st) f bB A outer s H E).AU (defBody st) t/\∀ a g O,∃ d,LS ⟨K,Rs,H,fun z=>z=a\/z=g,O,E,fun _=>False⟩ t d/\∀ n ds R,Sd n ds R->d (R3 a g R) (cC N (.pt a::ds.map .im)) (WT a g n)):ba P w K mg base df (k+1) f fd ps (spT Rs Sd) :=
 F.Ni S (zZ hm hlen) fun bB A outer s H vs Q E hr h=>by
  obtain⟨t,h1,h2⟩:=eG bB A outer s H E hr;exact⟨t,h1,Eg ok h h2⟩
end
noncomputable def Eh(K:zn):Sp:=fun vs H Q _=>∃(a:Addr) (ns:wn),vs=[.ref a]/\gk K H a (ns.map V.int)/\ns.length<=63/\∀ H',Q (.bl true) H'
def WC:hZ:=⟨fun _ _=>False,fun dv _=>dv=.im (.bool true),fun _ _=>False,fun _ _=>False⟩
section
variable {K:zn}{p:Str}{k:Nat}{Rs:Hp->Addr->Addr->Nat->Prop}
theorem WD{X:Addr->Prop}{H1:Hp}{T:Addr->Prop}:Fz ⟨K,Rs,H,T,xT,E,X⟩ W0 H1=H1:=by
 funext a;unfold Fz hide;rw[aaD (by rintro(z | z);exact z;cases z)]
theorem qG(ok:xV Rs)(h:gk K H a (ns.map V.int)):DR ⟨K,Rs,H,xT,xT,E,fun _=>False⟩ (start N [.ref a]) H (cC N [.lH ns]) W0:=by
 refine⟨⟨ok.rs,ok.rn,fun c hc=>hc.elim⟩,fun a o e _=>e,fun a z=>z.elim,fun a z=>z.elim,?_,fun p c e=>by cases e⟩;rw[WD];have va:aO ⟨K,Rs,H,xT,xT,E,fun _=>False⟩ H [.lH ns] [.ref a]:=⟨_,_,rfl,⟨a,rfl,h⟩,rfl⟩;unfold start cC;exact Slots.start _ va
theorem cR.R4(F:cR K x qual st f fd)(S:az N [p] (defScope st))(ok:xV Rs)(eG:∀(bB:Value) (A:tx) (outer:List Env) (s:Shared) (H:Hp) (E:XK),de k (A.deeper (envOfC qual (defScope st) s.heap.objs.size f bB)) ->
   ∃ t,ua (gC df P w K mg base N qual (defScope st) f bB A outer s H E).AU (defBody st) t/\∃ d,LS ⟨K,Rs,H,xT,xT,E,fun _=>False⟩ t d/\∀ ns,ns.length<=63->d WC (cC N [.lH ns]) W0):ba P w K mg base df (k+1) f fd [p] (Eh K) :=
 F.Ni S (fun vs H Q E zz=>by obtain⟨a,ns,e,_⟩:=zz; rw[e];rfl) fun bB A outer s H vs Q E hr h=>by
  obtain⟨a,ns,rfl,hS,KS,q⟩:=h;obtain⟨t,h1,d,hd,hb⟩:=eG bB A outer s H E hr;refine⟨t,h1,hd.go (qG ok hS) (hb ns KS) ⟨fun bH H' cG W' D' s q=>q.elim,fun bH H' cG W' D' s q=>q.elim,fun bH H' cG W' D' s q=>q.elim,fun x dv bH H' cG W' D' s v e=>?_⟩⟩;rw[show dv=.im (.bool true) from e]at v;rw[show x=.bl true from v];exact q H'
end
noncomputable def Ij:DV->Option V
 | .im (.int i)=>some (.int i)
 | .pt p=>some (.ref p)
 | _=>none
noncomputable def jF:List DV->Option (List V)
 | []=>some []
 | x::r=>(Ij x).bind fun v=>(jF r).map (v::·)
noncomputable def Aa(H:Hp)(t:Addr):Cell->Prop
 | .lst aK=>∃ xs,jF aK=some xs/\H t=some (.lst xs)
 | .dk kvs=>∃ xs,jF (kvs.map (·.2))=some xs/\H t=some (.dK ((kvs.map (·.1)).zip xs))
 | _=>False
noncomputable def bN(Iv:Addr->Nat->Cell->wn->Prop):Hp->Addr->Addr->Nat->Prop:=fun H t g n=>∃ c gs,Iv g n c gs/\Aa H t c/\H g=some (.lst (gs.map V.int))
theorem cn{Iv:Addr->Nat->Cell->wn->Prop}:xV (bN Iv) where
 rs:=fun⟨c,gs,h1,h2,h3⟩ e1 e2=>by
  refine⟨c,gs,h1,?_,by rw[e2];exact h3⟩;cases c with
  | lst aK=>obtain⟨xs,a,b⟩:=h2;exact⟨xs,a,by rw[e1];exact b⟩
  | dk kvs=>obtain⟨xs,a,b⟩:=h2;exact⟨xs,a,by rw[e1];exact b⟩
  | _=>exact h2.elim
 rn:=fun⟨c,gs,h1,h2,h3⟩=>by
  refine⟨?_,_,h3,fun _ z=>nomatch z⟩;cases c with
  | lst aK=>obtain⟨xs,a,b⟩:=h2;exact⟨_,b,fun _ z=>nomatch z⟩
  | dk kvs=>obtain⟨xs,a,b⟩:=h2;exact⟨_,b,fun _ z=>nomatch z⟩
  | _=>exact h2.elim
theorem Ik{v:V}:∀{dv:DV},Ij dv=some v->eF C F dv v
 | .im (.int i),e=>by cases e;exact rfl
 | .pt p,e=>by cases e;exact rfl
 | .im .none,e=>by cases e
 | .im (.bool _),e=>by cases e
 | .im (.str _),e=>by cases e
 | .im (.list _),e=>by cases e
 | .im (.tuple _),e=>by cases e
 | .im (.dict _),e=>by cases e
 | .cst _,e=>by cases e
 | .rf _,e=>by cases e
 | .ty _,e=>by cases e
 | .wJ _,e=>by cases e
 | .raw _,e=>by cases e
 | .lH _,e=>by cases e
 | .tp _,e=>by cases e
theorem oN:∀{aK:List DV} {xs:List V},jF aK=some xs->aO C F aK xs
 | [],_,e=>by cases e;exact rfl
 | d::r,xs,e=>by
  unfold jF at e;cases q:Ij d with
  | none=>rw[q]at e;cases e
  | some v =>
   rw[q]at e;cases q2:jF r with
   | none=>simp[q2]at e
   | some vs=>simp[q2]at e;subst e;exact⟨v,vs,rfl,Ik q,oN q2⟩
theorem lZ:∀{aK:List DV} {xs ys:List V},jF aK=some xs->aO C F aK ys->ys=xs
 | [],_,_,e,h=>by cases e;exact h
 | d::r,xs,ys,e,⟨y,zs,e1,h,hr⟩=>by
  unfold jF at e;cases q:Ij d with
  | none=>rw[q]at e;cases e
  | some v =>
   rw[q]at e;cases q2:jF r with
   | none=>simp[q2]at e
   | some vs =>
    simp[q2]at e;subst e;rw[e1,lZ q2 hr];have:y=v:=by
     cases d with
     | im dd=>cases dd with
      | int i=>cases q;exact h
      | _=>cases q
     | pt p=>cases q;exact h
     | _=>cases q
    rw[this]
noncomputable def Ei:Cell->Bool
 | .lst aK=>(jF aK).isSome
 | .dk kvs=>(jF (kvs.map (·.2))).isSome
 | _=>false
abbrev gM(gs:wn):List DV:=gs.map fun z=>.im (.int z)
theorem Ej{κ:Type}:∀{l:List (κ×V)} {ks:List κ} {xs:List V},l.map (·.1)=ks->l.map (·.2)=xs->l=ks.zip xs
 | [],_,_,e1,e2=>by subst e1 e2;rfl
 | (k,v)::r,_,_,e1,e2=>by subst e1 e2;rw[aaM,aaM,List.zip_cons_cons,<- Ej rfl rfl]
section
variable {Q:VK}
theorem bX.raw{t:Addr}(h:bX C W H t c)(hr:Ei c=true):Aa H t c:=by
 cases c with
 | lst aK =>
  obtain⟨xs,e,v⟩:=h;obtain⟨ys,hy⟩:=abJ.mp hr;rw[lZ hy v]at e;exact⟨ys,hy,e⟩
 | dk kvs =>
  obtain⟨ks,e,hk,v⟩:=h;obtain⟨ys,hy⟩:=abJ.mp hr;refine⟨ys,hy,?_⟩;rw[e,Ej hk (lZ hy v)]
 | _=>cases hr
theorem Aa.cell{t:Addr}(h:Aa H t c):bX C W H t c:=by
 cases c with
 | lst aK=>obtain⟨xs,e1,e2⟩:=h;exact⟨xs,e2,oN e1⟩
 | dk kvs =>
  obtain⟨xs,e1,e2⟩:=h;have v:aO C (Fz C W H) (kvs.map (·.2)) xs:=oN e1;have hl:(kvs.map (·.1)).length=xs.length:=by rw[<- v.length,aav,aav]
  refine⟨_,e2,?_,?_⟩
  .rw[List.map_fst_zip];omega
  .rw[List.map_snd_zip];exact v;omega
 | _=>exact h.elim
theorem qH{gs:wn}(h:aO C F (gM gs) xs):xs=gs.map V.int:=by
 induction gs generalizing xs with
 | nil=>cases h;rfl
 | cons g r ih =>
  obtain⟨y,ys,e,h1,h2⟩:=h;rw[e,show y=.int g from h1,ih h2];rfl
theorem DR.NW{t:Addr}(D:DR C Z H Y W)(s:aQ H H')(ht:H t=none)(hg:H g=none)(gt:g≠t)(r:C.Rs H' t g 0)(nt:∀ a,¬ fj (W a)):DR C Z H' Y (aG (aG W g .part) t (.aI g 0))/\aQ (Fz C W H) (Fz C (aG (aG W g .part) t (.aI g 0)) H'):=by
 refine D.step (fun a z=>?_) (fun a u e _=>s a u e) (sg s) fun s' q c' e=>?_
 .by_cases h1:a=t
  .exact .inr (by rw[h1];exact ht)
  by_cases h2:a=g
  .exact .inr (by rw[h2];exact hg)
  rw[aB h1,aB h2]at z;exact .inl z
 .have uq:∀ t' g' n',aG (aG W g .part) t (.aI g 0) t'=some (.aI g' n')->t'=t:=fun t' g' n' z=>by
   by_cases h1:t'=t
   .exact h1
   rw[aB h1]at z
   by_cases h2:t'=g
   .rw[h2,av]at z;cases z
   .rw[aB h2]at z;exact absurd (by rw[z];trivial) (nt t')
  by_cases h1:q=t
  .subst h1;rw[av]at e;cases e;exact⟨.inl (D.Ku ht),D.nO ht,r,by rw[aB gt];exact av,uq⟩
  rw[aB h1]at e
  by_cases h2:q=g
  .subst h2;rw[av]at e;cases e;exact⟨.inl (D.Ku hg),D.nO hg,(D.ok.rn r).2⟩
  rw[aB h2]at e;obtain⟨g1,g2,g3⟩:=D.ce q c' e;refine⟨g1,g2,?_⟩;have hq:=iG s (D.there e);cases c' with
  | aI a b=>exact absurd (by rw[e];trivial) (nt q)
  | part=>exact absurd (by rw[e];trivial) (nt q)
  | lst ds=>obtain⟨xs,z,rr⟩:=g3;exact⟨xs,by rw[hq];exact z,rr.mono s'⟩
  | dk ds=>obtain⟨xs,z,kk,rr⟩:=g3;exact⟨xs,by rw[hq];exact z,kk,rr.mono s'⟩
  | dt ds=>obtain⟨xs,z,kk,rr⟩:=g3;exact⟨xs,by rw[hq];exact z,kk,rr.mono s'⟩
  | ob _ _ ds=>obtain⟨xs,z,kk,rr⟩:=g3;exact⟨xs,by rw[hq];exact z,kk,rr.mono s'⟩
noncomputable def Il(K:zn)(Rs:Hp->Addr->Addr->Nat->Prop):Sp:=fun vs H Q _=>∃(a:Addr) (ns:wn),vs=[.ref a]/\gk K H a (ns.map V.int)/\ns.length<=63/\∀(t g:Addr) (H':Hp),aQ H H'->H t=none->H g=none->g≠t->Rs H' t g 0->Q (.ref t) H'
def dMk:List DV->Wd->DK->Prop:=fun as W Q=>∃ ns,as=[.lH ns]/\ns.length<=63/\(∀ a,¬ fj (W a))/\∀ t g,W t=none->W g=none->g≠t->Q (.pt t) (aG (aG W g .part) t (.aI g 0))
noncomputable instance {K:zn}[hk:lV C K]{Rs:Hp->Addr->Addr->Nat->Prop}[hs:HU C Rs]{E:XK}:Ig C (Il K Rs) E dMk:=by
 obtain⟨rfl⟩:=hk;obtain⟨rfl⟩:=hs;exact⟨fun D h hd k=>by
 obtain⟨ns,rfl,KS,nt,q⟩:=hd;obtain⟨x,rfl,hx⟩:=h.dY;obtain⟨a,rfl,ha⟩:=hx;exact⟨a,ns,rfl,Fz.sm.seq ha,KS,fun t g H' s ht hg gt r=>k.to (dv:=.pt t) (D.NW s ht hg gt r nt) rfl (q t g (D.fresh ht) (D.fresh hg) gt)⟩⟩
end
noncomputable def mkE(Iv:Addr->Nat->Cell->wn->Prop):hZ:=⟨fun _ _=>False,fun dv W=>∃ t g c gs,dv=.pt t/\W t=some c/\W g=some (.lst (gM gs))/\g≠t/\Iv g 0 c gs/\Ei c=true,fun _ _=>False,fun _ _=>False⟩
noncomputable def opE(Iv:Addr->Nat->Cell->wn->Prop)(a g:Addr)(R:Res->Nat->Prop):hZ:=⟨fun _ _=>False,fun dv W=>∃ n c gs i,dv=.im (.int i)/\W a=some c/\W g=some (.lst (gM gs))/\Iv g n c gs/\Ei c=true/\R (.im (.int i)) n,fun _ _=>False,fun _ _=>False⟩
def WO(a g:Addr)(c:Cell)(gs:wn):Wd:=aG (aG W0 g (.lst (gM gs))) a c
section
variable {K:zn}{p:Str}{k:Nat}{Iv:Addr->Nat->Cell->wn->Prop}{Sd:uU}
theorem cR.WE(F:cR K x qual st f fd)(S:az N [p] (defScope st))(eG:∀(bB:Value) (A:tx) (outer:List Env) (s:Shared) (H:Hp) (E:XK),de k (A.deeper (envOfC qual (defScope st) s.heap.objs.size f bB)) ->
   ∃ t,ua (gC df P w K mg base N qual (defScope st) f bB A outer s H E).AU (defBody st) t/\∃ d,LS ⟨K,lX,H,xT,xT,E,fun _=>False⟩ t d/\∀ ns,ns.length<=63->d (mkE Iv) (cC N [.lH ns]) W0):ba P w K mg base df (k+1) f fd [p] (Il K (bN Iv)) :=
 F.Ni S (fun vs H Q E zz=>by obtain⟨a,ns,e,_⟩:=zz; rw[e];rfl) fun bB A outer s H vs Q E hr h=>by
  obtain⟨a,ns,rfl,hS,KS,q⟩:=h;obtain⟨t,h1,d,hd,hb⟩:=eG bB A outer s H E hr;refine⟨t,h1,hd.go (qG ⟨fun z=>z.elim,fun z=>z.elim⟩ hS) (hb ns KS) ⟨fun bH H' cG W' D' s q=>q.elim,fun bH H' cG W' D' s q=>q.elim,fun bH H' cG W' D' s q=>q.elim,fun x dv bH H' cG W' D' s v e=>?_⟩⟩;obtain⟨t,g,c,gs,rfl,e1,e2,gt,hI,hr⟩:=e;cases (show x=.ref t from v);obtain⟨z1,_,c1⟩:=D'.ce t c e1;obtain⟨z2,_,xs,c2,c3⟩:=D'.ce g _ e2;rw[qH c3]at c2;exact q t g H' (fun a o e=>D'.fr a o e (fun z=>z)) (z1.elim id fun z=>z.elim) (z2.elim id fun z=>z.elim) gt ⟨c,gs,hI,c1.raw hr,c2⟩
theorem cR.okO(F:cR K x qual st f fd)(S:az N ps (defScope st)){m:Nat}(hm:ps.length=m+1)(hlen:∀ n ds R,Sd n ds R->ds.length=m)(eG:∀(bB:Value) (A:tx) (outer:List Env) (s:Shared) (H:Hp) (E:XK),de k (A.deeper (envOfC qual (defScope st) s.heap.objs.size f bB)) ->
   ∃ t,ua (gC df P w K mg base N qual (defScope st) f bB A outer s H E).AU (defBody st) t/\∀ a g O,∃ d,LS ⟨K,lX,H,fun z=>z=a\/z=g,O,E,fun _=>False⟩ t d/\∀ n ds R c gs,g≠a->Iv g n c gs->Sd n ds R->d (opE Iv a g R) (cC N (.pt a::ds.map .im)) (WO a g c gs)):ba P w K mg base df (k+1) f fd ps (spT (bN Iv) Sd) :=
 F.Ni S (zZ hm hlen) fun bB A outer s H vs Q E hr h=>by
  obtain⟨t,h1,hb⟩:=eG bB A outer s H E hr;refine⟨t,h1,?_⟩;obtain⟨a,g,n,Bv,O,ds,R,rfl,⟨c,gs,hI,hc,hg⟩,gt,hO,nt,ng,hr,hS,hR⟩:=h;obtain⟨d,hd,hb⟩:=hb a g O;have Wg:WO a g c gs g=some (.lst (gM gs)):=by unfold WO;rw[aB gt];exact av
  have Wa:WO a g c gs a=some c:=av;have Wz:∀ z c',WO a g c gs z=some c'->z=a\/z=g:=fun z c' e=>by
   unfold WO at e
   by_cases h1:z=a
   .exact .inl h1
   .rw[aB h1]at e
    by_cases h2:z=g
    .exact .inr h2
    .rw[aB h2]at e;cases e
  have ok:=cn (Iv:=Iv);have xU:bN Iv H a g n:=⟨c,gs,hI,hc,hg⟩;have fz:∀ H1,aQ (hide (fun z=>O z\/z=a\/z=g) H1) (Fz ⟨K,lX,H,fun z=>z=a\/z=g,O,E,fun _=>False⟩ (WO a g c gs) H1):=fun H1 b o e=>by
   obtain⟨h1,h2⟩:=aD.mp e;refine aD.mpr ⟨fun z=>h1 ?_,h2⟩;rcases z with z | z
   .exact .inl z
   .cases q:WO a g c gs b with
    | none=>rw[q]at z;cases z
    | some c'=>exact .inr (Wz b c' q)
  have D:DR ⟨K,lX,H,fun z=>z=a\/z=g,O,E,fun _=>False⟩ (start N (.ref a::Bv)) H (cC N (.pt a::ds.map .im)) (WO a g c gs):=by
   refine⟨⟨fun z=>z.elim,fun z=>z.elim,fun c hc=>hc.elim⟩,fun b o e _=>e,hO,fun b z=>?_,?_,fun p c' e=>?_⟩
   .rcases z with z | z
    .rw[z];exact(ok.rn xU).1.ne
    .rw[z];exact(ok.rn xU).2.ne
   .have va:aO ⟨K,lX,H,fun z=>z=a\/z=g,O,E,fun _=>False⟩ (Fz ⟨K,lX,H,fun z=>z=a\/z=g,O,E,fun _=>False⟩ (WO a g c gs) H) (.pt a::ds.map .im) (.ref a::Bv):=⟨_,_,rfl,rfl,(aO.gZ hr).mono (fz H)⟩;unfold start cC;rw[va.length];exact Slots.start _ va
   .rcases Wz p c' e with z | z
    .subst z;rw[Wa]at e;cases e;exact⟨.inr (.inl rfl),nt,hc.cell⟩
    .subst z;rw[Wg]at e;cases e;exact⟨.inr (.inr rfl),ng,_,hg,jC gs⟩
  refine hd.go D (hb n ds R c gs gt hI hS) ⟨fun bH H' cG W' D' s q=>q.elim,fun bH H' cG W' D' s q=>q.elim,fun bH H' cG W' D' s q=>q.elim,fun x dv bH H' cG W' D' s v q=>?_⟩;obtain⟨n',c',GU,i,rfl,e1,e2,NY,hr',q⟩:=q;obtain⟨_,_,c1⟩:=D'.ce a c' e1;obtain⟨_,_,xs,c2,c3⟩:=D'.ce g _ e2;rw[qH c3]at c2;cases (show x=.int i from v);exact hR (.im (.int i)) n' _ H' q (fun b o e h1 h2=>D'.fr b o e (fun z=>z.elim h1 h2)) ⟨c',GU,NY,c1.raw hr',c2⟩ rfl
end
def Fr(t:Addr)(W W':Wd):Prop:=∀ a,a≠t->W' a=W a
theorem Fr.at{t:Addr}(h:Fr t W W')(hp:p≠t)(e:W p=some c):W' p=some c:=by rw[h p hp];exact e
theorem sv{q:Addr}(h:W p=some c)(h':W q=none):p≠q:=fun z=>by rw[z,h']at h;cases h
section
variable {bk:bW->Wd->Prop}{rt:DK}{a:j3}{De:hZ}{db dc:cZ}{g:sq}{c d:nF}{i j:Nat}{u:DV}{f:qy}{B:Bool->Wd->Prop}{as:mF}{R:List DV->Wd->Prop}{gs:sr}{n:Int}{D:PyData}
theorem ao(h:a ⟨b ⟨nx,rt,bk,ct⟩,rt,bk,ct⟩ Y W):j4 a b ⟨nx,rt,bk,ct⟩ Y W:=h
theorem xW(h:nx Y W):KH ⟨nx,rt,bk,ct⟩ Y W:=h
theorem R5(h:da Y W rt):RV da ⟨nx,rt,bk,ct⟩ Y W:=h
theorem NZ(h:da Y W fun _ W1=>nx Y W1):zT da ⟨nx,rt,bk,ct⟩ Y W:=h
theorem R6(h:da Y W fun v W1=>g v Y W1 nx):Ie da g ⟨nx,rt,bk,ct⟩ Y W:=h
theorem R7(h:c Y W fun k W1=>if k=true then a De Y W1 else b De Y W1):NL c a b De Y W:=h
theorem N0{r:j3}(h:Ie da g ⟨r ⟨nx,rt,bk,ct⟩,rt,bk,ct⟩ Y W):j4 (Ie da g) r ⟨nx,rt,bk,ct⟩ Y W:=h
theorem Oa{r:j3}(h:zT da ⟨r ⟨nx,rt,bk,ct⟩,rt,bk,ct⟩ Y W):j4 (zT da) r ⟨nx,rt,bk,ct⟩ Y W:=h
theorem x_raise{P:Prop}(h:as Y W fun vs _=>vs.length<=sizeLine/\P):DZ P as De Y W:=h
theorem gf(N:bW->Wd->Prop)(h1:∀ k:bW->Wd->Prop,(∀ Y W,N Y W->k Y W)->a ⟨k,rt,bk,ct⟩ Y W)(h2:∀ Y W,N Y W->b ⟨nx,rt,bk,ct⟩ Y W):j4 a b ⟨nx,rt,bk,ct⟩ Y W:=h1 _ h2
theorem R8{w:Ea}(h:w Y W fun it W1=>qB it g b ⟨nx,rt,bk,ct⟩ Y W1):RW w g b ⟨nx,rt,bk,ct⟩ Y W:=h
theorem Io(Pv:Nat->bW->Wd->Prop)(m:Nat)(h0:Pv m Y W)(hs:∀ m Y W,Pv m Y W->c Y W fun k W1=>if k=true then b ⟨fun cG W'=>∃ m',m' < m/\Pv m' cG W',rt,nx,fun cG W'=>∃ m',m' < m/\Pv m' cG W'⟩ Y W1 else nx Y W1):D0 c b ⟨nx,rt,bk,ct⟩ Y W:=⟨Pv,⟨m,h0⟩,hs⟩
theorem WG(h:Qs (Y.set i (some v)) W):Zk i v Y W Qs:=h
theorem WH{o e:cZ}(h:o Y W fun a W1=>e Y W1 fun b W2=>zS a b v W2 (Qs Y)):Zn o e v Y W Qs:=h
theorem R9(e:Y[i]?=some (some v))(h:Q v W):RI i Y W Q:=⟨v,e,h⟩
theorem x_c(h:Q v W):dC v Y W Q:=h
theorem WI(h:da Y W fun v W1=>db Y W1 fun u W2=>f v u W2 Q):Za f da db Y W Q:=h
theorem WJ{k:DV->Wd->DK->Prop}(h:da Y W fun v W1=>k v W1 Q):Zb k da Y W Q:=h
theorem WK(h:da Y W fun v W1=>∃ b,v=.im (.bool b)/\B b W1):Wt da Y W B:=h
theorem WL{k:Bool}{P:Bool->Prop}(h:P k):∃ k',DV.im (.bool k)=.im (.bool k')/\P k':=⟨k,rfl,h⟩
theorem Sa(h:c Y W fun k W1=>if k=true then d Y W1 B else B false W1):RJ c d Y W B:=h
theorem WM(h:c Y W fun k W1=>if k=true then B true W1 else d Y W1 B):Zc c d Y W B:=h
theorem Sb(h:c Y W fun k W1=>B (!k) W1):RK c Y W B:=h
theorem Ob(h:da Y W fun v W1=>∃ c,v=.im (.bool c)/\if c=true then db Y W1 Q else Q (.im (.bool false)) W1):Kw da db Y W Q:=h
theorem Se(h:da Y W fun v W1=>∃ c,v=.im (.bool c)/\if c=true then Q (.im (.bool true)) W1 else db Y W1 Q):RL da db Y W Q:=h
theorem Oc(h:da Y W fun v W1=>∃ c,v=.im (.bool c)/\Q (.im (.bool (!c))) W1):Kx da Y W Q:=h
theorem WN(h:c Y W fun k W1=>if k=true then da Y W1 Q else db Y W1 Q):Zd c da db Y W Q:=h
theorem Sf(h:da Y W fun v W1=>Q (.im (.bool (isNone v))) W1):RM da Y W Q:=h
theorem Od(h:da Y W fun v W1=>Q (.im (.bool (!isNone v))) W1):Ky da Y W Q:=h
theorem Ip{f':qy}(h:da Y W fun x W1=>db Y W1 fun y W2=>f x y W2 fun z W3=>∃ k,z=.im (.bool k)/\if k=true then dc Y W3 fun w W4=>f' y w W4 Q else Q (.im (.bool false)) W3):DS f f' da db dc Y W Q:=h
theorem Sg(h:R [] W):RN Y W R:=h
theorem Oe(h:da Y W fun v W1=>as Y W1 fun vs W2=>R (v::vs) W2):Kz da as Y W R:=h
theorem WQ{ks:List V}(h:ks.all eW=true/\R (ks.map GS) W):Ze ks Y W R:=h
theorem Si(h:as Y W fun vs W1=>oK vs W1 Q):RO as Y W Q:=h
theorem Sj(h:as Y W fun vs W1=>zM vs W1 Q):RP as Y W Q:=h
theorem WR{k:List DV->Wd->DK->Prop}(h:as Y W fun vs W1=>k vs W1 Q):Ww k as Y W Q:=h
theorem WS{k:DV->List DV->Wd->DK->Prop}(h:da Y W fun v W1=>xQ T v W1/\as Y W1 fun vs W2=>k v vs W2 Q):Zh T k da as Y W Q:=h
theorem WU{k:DV->v0->v0->Wd->DK->Prop}{l t:Nv}(h:da Y W fun v W1=>l Y W1 fun lo W2=>t Y W2 fun hi W3=>k v lo hi W3 Q):Zi k da l t Y W Q:=h
theorem Ek{Qo:v0->Wd->Prop}(h:Qo none W):zR Y W Qo:=h
theorem Of{Qo:v0->Wd->Prop}(h:da Y W fun v W1=>∃ i,v=.im (.int i)/\Qo (some i) W1):KD da Y W Qo:=h
theorem WV{P:Int->Prop}(h:P n):∃ i,DV.im (.int n)=.im (.int i)/\P i:=⟨n,rfl,h⟩
theorem Og{w:Ea}{e:cZ}{ix:List (Option Nat)}(h:w Y W fun it W1=>uS it g c e (Br ix Y) W1 Q):KI w g c e ix Y W Q:=h
theorem Sk(h:B true W):RX Y W B:=h
theorem WW{h':Int->Int->PyData}(h:Q (.im (h' m n)) W):Zf h' (.im (.int m)) (.im (.int n)) W Q:=⟨m,n,rfl,rfl,h⟩
theorem Zr{P:Int->Int->Prop}{h':Int->Int->PyData}(hp:P m n)(h:Q (.im (h' m n)) W):dI P h' (.im (.int m)) (.im (.int n)) W Q:=⟨m,n,rfl,rfl,hp,h⟩
theorem x_U{h':Int->PyData}(h:Q (.im (h' m)) W):dU h' (.im (.int m)) W Q:=⟨m,rfl,h⟩
theorem sx{i j:Int}:PyData.eqv (.int i) (.int j)=decide (i=j):=by show(i == j)=_;by_cases e:i=j<;>simp[e]
theorem kW{i j:Str}:PyData.eqv (.str i) (.str j)=decide (i=j):=by show(i == j)=_;by_cases e:i=j<;>simp[e]
theorem El{i j:Bool}:PyData.eqv (.bool i) (.bool j)=decide (i=j):=by cases i<;>cases j<;>rfl
theorem Sl(h:Q (.im (.bool (decide (m=n)))) W):DW (.im (.int m)) (.im (.int n)) W Q:=⟨_,_,rfl,rfl,.inr ⟨rfl,rfl,by show min 0 0<=64;decide⟩,by rw[sx];exact h⟩
theorem Sn(h:Q (.im (.bool (!decide (m=n)))) W):Bw (.im (.int m)) (.im (.int n)) W Q:=⟨_,_,rfl,rfl,.inr ⟨rfl,rfl,by show min 0 0<=64;decide⟩,by rw[sx];exact h⟩
theorem So{s t:Str}(h:Q (.im (.bool (decide (s=t)))) W):DW (.im (.str s)) (.im (.str t)) W Q:=⟨_,_,rfl,rfl,.inl ⟨s,t,rfl,rfl⟩,by rw[kW];exact h⟩
theorem Sq{s t:Str}(h:Q (.im (.bool (!decide (s=t)))) W):Bw (.im (.str s)) (.im (.str t)) W Q:=⟨_,_,rfl,rfl,.inl ⟨s,t,rfl,rfl⟩,by rw[kW];exact h⟩
theorem Sr{s t:Bool}(h:Q (.im (.bool (!decide (s=t)))) W):Bw (.im (.bool s)) (.im (.bool t)) W Q:=⟨_,_,rfl,rfl,.inr ⟨rfl,rfl,by show min 0 0<=64;decide⟩,by rw[El];exact h⟩
theorem KU{d1 d2:PyData}(e1:dat 4 W v=some d1)(e2:dat 4 W u=some d2)(ok:NF d1 d2)(h:Q (.im (.bool (!PyData.eqv d1 d2))) W):Bw v u W Q:=⟨d1,d2,e1,e2,ok,h⟩
theorem KW{d1:PyData}(e1:dat 4 W v=some d1)(e2:dat 4 W u=some d1)(c:d1.canLay0=true)(hd:d1.depth<=64)(h:Q (.im (.bool true)) W):DW v u W Q:=⟨d1,d1,e1,e2,.inr ⟨c,c,by rw[Nat.min_self];exact hd⟩,by rw[PySem.SeqAt.eqv_refl d1 c];exact h⟩
theorem sy{J β:Type}{xs:List J}{f:J->β}{i:Int}{x:J}(h:jb xs i=some x):jb (xs.map f) i=some (f x):=by
 unfold jb at h ⊢;rw[aav];cases q:Bb xs.length i with
 | none=>rw[q]at h;cases h
 | some j=>rw[q]at h;show(xs.map f)[j]?=_;rw[aaz,show xs[j]?=some x from h];rfl
theorem bO(e:jb ds n=some D)(h:Q (.im D) W):NH (.im (.tuple ds)) (.im (.int n)) W Q:=⟨n,.im D,rfl,sy e,h⟩
theorem gN(e:jb ds n=some D)(h:Q (.im D) W):NH (.im (.list ds)) (.im (.int n)) W Q:=⟨n,.im D,rfl,sy e,h⟩
theorem nJ(e:W p=some (.lst vs)):dX W (.pt p)=some vs:=by simp[dX,e]
theorem Ab(e:W p=some (.lst vs)):iX W (.pt p)=some vs:=by unfold iX;rw[nJ e]
theorem eQ(e:W p=some (.lst vs))(e2:jb vs n=some v)(h:Q v W):NH (.pt p) (.im (.int n)) W Q:=⟨n,v,rfl,by
 show(iX W (.pt p)).bind _=_
 rw[Ab e]
 exact e2,h⟩
theorem Oh(h:Q (.im (.int ds.length)) W):Ia [.im (.list ds)] W Q:=⟨_,_,rfl,rfl,by rw[aav];exact h⟩
theorem Oi(h:Q (.im (.int ds.length)) W):Ia [.im (.tuple ds)] W Q:=⟨_,_,rfl,rfl,by rw[aav];exact h⟩
theorem Oj(e:W p=some (.lst vs))(h:Q (.im (.int vs.length)) W):Ia [.pt p] W Q:=⟨_,vs,rfl,Ab e,h⟩
theorem Ss(e:W p=some (.lst vs)):xQ "list" (.pt p) W:=.inl ⟨rfl,vs,nJ e⟩
theorem uW(e:W p=some (.lst vs))(hl:vs.length < sizeLine)(h:Q (.im .none) (aG W p (.lst (vs++[v])))):sk (.pt p) [v] W Q:=⟨p,vs,v,rfl,rfl,e,hl,h⟩
theorem aH(hl:ds.length<=sizeLine)(h:Q (.im (.tuple ds)) W):oK (ds.map .im) W Q:=⟨by rw[aav];exact hl,.inl ⟨ds,W,fL (fun _ _=>rfl) ds,h⟩⟩
theorem jG(h:∀ p W',W p=none->W' p=some (.lst vs)->Fr p W W'->Q (.pt p) W'):iW vs W Q:=.inl fun p hp=>h p _ hp av fun a ha=>aB ha
theorem cj(h:Q (.im (.list ds)) W):iW (ds.map .im) W Q:=.inr ⟨ds,rfl,h⟩
theorem gF(hl:vs.length<=sizeLine)(h:∀ p W',W p=none->W' p=some (.lst vs)->Fr p W W'->Q (.pt p) W'):zM vs W Q:=⟨hl,jG h⟩
theorem cO(hl:ds.length<=sizeLine)(h:Q (.im (.list ds)) W):zM (ds.map .im) W Q:=⟨by rw[aav];exact hl,cj h⟩
theorem Ol(h:as Y W fun vs W1=>NP vs W1 B'):KL as Y W B':=h
theorem WX(h1:-(2 ^ 62)<=m)(h2:m < 2 ^ 62)(h:B' ⟨(List.range m.toNat).map fun i=>.im (.int (0+(i:Nat))),fun _=>True⟩ W):NP [.im (.int m)] W B':=⟨m,rfl,h1,h2,h⟩
theorem Iq(h:da Y W fun v W1=>Ec v W1 B'):Ed da Y W B':=h
theorem Su(h:B' ⟨ds.map .im,fun _=>True⟩ W):Ec (.im (.list ds)) W B':=.inl ⟨ds,rfl,h⟩
theorem uX(e:W p=some (.lst vs))(h:B' ⟨vs,fun W'=>W' p=some (.lst vs)⟩ W):Ec (.pt p) W B':=.inr (.inl ⟨p,vs,rfl,e,h⟩)
theorem Sv(h:B' ⟨ns.map fun n=>.im (.int n),fun _=>True⟩ W):Ec (.lH ns) W B':=.inr (.inr ⟨ns,rfl,h⟩)
theorem Om(h:da Y W fun v W1=>NN v W1 B'):KJ da Y W B':=h
theorem Sw(h:B' ⟨ds.map .im,fun _=>True⟩ W):NN (.im (.tuple ds)) W B':=⟨_,rfl,h⟩
theorem ji{lo:Int}{k:Nat}(Pv:Nat->bW->Wd->Prop)(h0:Pv 0 Y W)(hs:∀ i Y W,i < k->Pv i Y W->g (.im (.int (lo+(i:Nat)))) Y W fun jE W2=>b ⟨Pv (i+1),rt,nx,Pv (i+1)⟩ jE W2)(hd:∀ Y W,Pv k Y W->nx Y W) :
  qB ⟨(List.range k).map fun i=>.im (.int (lo+(i:Nat))),fun _=>True⟩ g b ⟨nx,rt,bk,ct⟩ Y W:=by
 refine⟨Pv,h0,fun _ _ _ _=>trivial,fun i v Y W e p=>?_,fun Y W p=>hd Y W (by simpa using p)⟩
 by_cases hi:i < k
 .have e:((List.range k).map fun i=>DV.im (.int (lo+(i:Nat))))[i]?=some v:=e;simp[hi]at e;subst e;exact hs i Y W hi p
 .have e:((List.range k).map fun i=>DV.im (.int (lo+(i:Nat))))[i]?=some v:=e;simp[hi]at e
theorem Ir(Pv:Nat->bW->Wd->Prop)(h0:Pv 0 Y W)(hs:∀ i d Y W,ds[i]?=some d->Pv i Y W->g (.im d) Y W fun jE W2=>b ⟨Pv (i+1),rt,nx,Pv (i+1)⟩ jE W2)(hd:∀ Y W,Pv ds.length Y W->nx Y W) :
  qB ⟨ds.map .im,fun _=>True⟩ g b ⟨nx,rt,bk,ct⟩ Y W:=by
 refine⟨Pv,h0,fun _ _ _ _=>trivial,fun i v Y W e p=>?_,fun Y W p=>hd Y W (by simpa using p)⟩;rw[aaz]at e;cases q:ds[i]? with
 | none=>rw[q]at e;cases e
 | some d=>rw[q]at e;cases e;exact hs i d Y W q p
theorem kX{lo:Int}{k:Nat}{e:cZ}(Pv:Nat->List DV->Wd->Prop)(hk:k<=sizeLine)(h0:Pv 0 [] W)(hs:∀ i ys W,i < k->ys.length<=i->Pv i ys W->g (.im (.int (lo+(i:Nat)))) Y W fun jE W2=>c jE W2 fun b W3=>if b=true then e jE W3 fun y W4=>Pv (i+1) (ys++[y]) W4 else Pv (i+1) ys W3)(hd:∀ ys W,Pv k ys W->iW ys W Q) :
  uS ⟨(List.range k).map fun i=>.im (.int (lo+(i:Nat))),fun _=>True⟩ g c e Y W Q:=by
 refine⟨by simpa using hk,Pv,h0,fun _ _ _ _=>trivial,fun i v ys W e hl p=>?_,fun ys W q=>hd ys W (by simpa using q)⟩
 by_cases hi:i < k
 .simp[hi]at e;subst e;exact hs i ys W hi hl p
 .simp[hi]at e
theorem gm{e:cZ}(Pv:Nat->List DV->Wd->Prop)(hk:ds.length<=sizeLine)(h0:Pv 0 [] W)(hs:∀ i d ys W,ds[i]?=some d->ys.length<=i->Pv i ys W->g (.im d) Y W fun jE W2=>c jE W2 fun b W3=>if b=true then e jE W3 fun y W4=>Pv (i+1) (ys++[y]) W4 else Pv (i+1) ys W3)(hd:∀ ys W,Pv ds.length ys W->iW ys W Q) :
  uS ⟨ds.map .im,fun _=>True⟩ g c e Y W Q:=by
 refine⟨by simpa using hk,Pv,h0,fun _ _ _ _=>trivial,fun i v ys W e hl p=>?_,fun ys W q=>hd ys W (by simpa using q)⟩;rw[aaz]at e;cases q:ds[i]? with
 | none=>rw[q]at e;cases e
 | some d=>rw[q]at e;cases e;exact hs i d ys W q hl p
theorem nK{S:ku}{X:Addr->Prop}(e:gx (dat 4 W) vs=some ds)(h:S ds (fun r=>UI r=true/\j5 W Q r) X):qE S X vs W Q:=.inl ⟨ds,e,h⟩
theorem bc{S:ku}{X:Addr->Prop}(h:S ds (j5 W Q) X):qE S X (ds.map .im) W Q:=.inr ⟨ds,W,fL (fun _ _=>rfl) ds,h⟩
end
noncomputable def Zs(K:zn)(a:Addr)(xs:List V)(_:∀ H,fX K H a xs):TE:=tC (.ref a)
theorem Sx{K:zn}(hm:X.mg x=some (.ref a))(hx:∀ H,fX K H a xs)(hg:autoParam (Gl X x) ra0)(hd:autoParam ((x == ("__debug__":Str))=false) ra1):SE X (.Name x pos) (Zs K a xs hx):=Rr hm hg hd
def Zt(xs:List V):cZ:=fun _ W Q=>Q (.cst xs) W
noncomputable instance {C:DC}{K:zn}[hk:lV C K]{a:Addr}{xs:List V}{hx:∀ H,fX K H a xs}:LE C (Zs K a xs hx) (Zt xs):=by
 obtain⟨rfl⟩:=hk;exact⟨fun D h k=>k.now (dv:=.cst xs) D ⟨a,rfl,hx⟩ h⟩
theorem WY(h:Q (.cst xs) W):Zt xs Y W Q:=h
noncomputable def Sy(a:cZ):cZ:=fun Y W Q=>a Y W fun v W1=>∃ d,dat 4 W1 v=some d/\d.canLay0=true/\Q (.im (.bool (!PyData.eqv d (.list [])))) W1
noncomputable def Sz(a:cZ):cZ:=fun Y W Q=>a Y W fun v W1=>∃ d,dat 4 W1 v=some d/\d.canLay0=true/\Q (.im (.bool (PyData.eqv d (.list [])))) W1
theorem min1(n:Nat):min n (PyData.depth (.list []))<=64:=aaE (ac7 _ _) @1
noncomputable instance (priority:=2000){C:DC}{ta:TE}{da:cZ}[ia:LE C ta da]:LE C (AX NC ta (CZ rK)) (Sy da):=⟨fun D h k=>ia.go D h fun x dv H1 W1 D1 s1 v1 ⟨d,e,c,q⟩=>⟨aaY _,fun p hp=>by
 obtain⟨D2,s2,e2⟩:=D1.Cm hp (.lst []);exact .inr ⟨d,.list [],(D1.si v1 e).same (aQ.new hp _),⟨p,[],rfl,cv,rfl⟩,c,rfl,min1 _,k _ (.im (.bool _)) _ _ D2 (s1.trans s2) rfl q⟩⟩⟩
noncomputable instance (priority:=2000){C:DC}{ta:TE}{da:cZ}[ia:LE C ta da]:LE C (AX NB ta (CZ rK)) (Sz da):=⟨fun D h k=>ia.go D h fun x dv H1 W1 D1 s1 v1 ⟨d,e,c,q⟩=>⟨aaY _,fun p hp=>by
 obtain⟨D2,s2,e2⟩:=D1.Cm hp (.lst []);exact .inr ⟨d,.list [],(D1.si v1 e).same (aQ.new hp _),⟨p,[],rfl,cv,rfl⟩,c,rfl,min1 _,k _ (.im (.bool _)) _ _ D2 (s1.trans s2) rfl q⟩⟩⟩
theorem SD{a:cZ}(h:a Y W fun v W1=>∃ d,dat 4 W1 v=some d/\d.canLay0=true/\Q (.im (.bool (!PyData.eqv d (.list [])))) W1):Sy a Y W Q:=h
theorem SF{a:cZ}(h:a Y W fun v W1=>∃ d,dat 4 W1 v=some d/\d.canLay0=true/\Q (.im (.bool (PyData.eqv d (.list [])))) W1):Sz a Y W Q:=h
section
variable {bk:bW->Wd->Prop}{rt:DK}{g:sq}{c:nF}{es:wE}{as:mF}{u:DV}
theorem Iu(Pv:Nat->bW->Wd->Prop)(h0:Pv 0 Y W)(hs:∀ i z Y W,ns[i]?=some z->Pv i Y W->g (.im (.int z)) Y W fun jE W2=>b ⟨Pv (i+1),rt,nx,Pv (i+1)⟩ jE W2)(hd:∀ Y W,Pv ns.length Y W->nx Y W) :
  qB ⟨ns.map fun n=>.im (.int n),fun _=>True⟩ g b ⟨nx,rt,bk,ct⟩ Y W:=by
 refine⟨Pv,h0,fun _ _ _ _=>trivial,fun i v Y W e p=>?_,fun Y W p=>hd Y W (by simpa using p)⟩;rw[aaz]at e;cases q:ns[i]? with
 | none=>rw[q]at e;cases e
 | some d=>rw[q]at e;cases e;exact hs i d Y W q p
theorem Ac:gx NQ (ds.map .im)=some ds:=jT (fun _=>rfl) ds
theorem KY{k1 k2:SK}(e1:Bx k1 W v=some (ds.map .im))(e2:Bx k2 W u=some (es.map .im))(h:B' ⟨(ds.zip es).map fun p=>.im (.tuple [p.1,p.2]),fun W'=>xS v (ds.map .im) W'/\xS u (es.map .im) W'⟩ W) :
  WA k1 k2 [v,u] W B' :=
 ⟨v,u,_,_,ds,es,rfl,e1,e2,Ac,Ac,h⟩
theorem Oo{k1 k2:SK}(h:as Y W fun vs W1=>WA k1 k2 vs W1 B'):RY k1 k2 as Y W B':=h
theorem Ad{kp:Wd->Prop}(Pv:Nat->bW->Wd->Prop)(h0:Pv 0 Y W)(hk:∀ i Y W,Pv i Y W->kp W)(hs:∀ i a d Y W,ds[i]?=some a->es[i]?=some d->Pv i Y W->g (.im (.tuple [a,d])) Y W fun jE W2=>b ⟨Pv (i+1),rt,nx,Pv (i+1)⟩ jE W2)(hd:∀ Y W,Pv (min ds.length es.length) Y W->nx Y W) :
  qB ⟨(ds.zip es).map fun p=>.im (.tuple [p.1,p.2]),kp⟩ g b ⟨nx,rt,bk,ct⟩ Y W:=by
 refine⟨Pv,h0,hk,fun i v Y W e p=>?_,fun Y W p=>hd Y W (by rw[aav,ad0]at p;exact p)⟩;rw[aaz]at e;cases q:(ds.zip es)[i]? with
 | none=>rw[q]at e;cases e
 | some ab =>
  rw[q]at e;cases e;obtain⟨h1,h2⟩:=abD.mp q;exact hs i ab.1 ab.2 Y W h1 h2 p
theorem SH{n:Int}(h:Q (.im (.int (if n > m then n else m))) W):KC [.im (.int m),.im (.int n)] W Q:=⟨m,n,rfl,h⟩
theorem Oq{k:Bool}(h:Q (.im (.int (if k then 1 else 0))) W):DY [.im (.bool k)] W Q:=.inr ⟨k,rfl,h⟩
theorem SJ(h:Q (.im (.bool (Ro d T))) W):RT T [.im d,.ty T] W Q:=⟨.im d,d,rfl,rfl,h⟩
theorem fv(e:W p=some (.lst (ds.map .im))):dat (n+1) W (.pt p)=some (.list ds):=by
 unfold dat;rw[e];show(gx (dat n W) (ds.map .im)).map _=_;rw[jT (fun d=>by cases n<;>rfl) ds];rfl
theorem WZ{Pr:Prop}(e:W p=some (.lst vs))(h:Pr):xQ "list" (.pt p) W/\Pr:=⟨Ss e,h⟩
theorem oO{gs:wn}(e:W p=some (.lst (gM gs))):dat (n+1) W (.pt p)=some (.list (gs.map .int)):=fv (ds:=gs.map .int) (by rw[e];simp)
theorem kx{R:Res->Prop}(e:W p=some (.lst (ds.map .im)))(h:R (.nw ds)):Ih W R (.pt p):=⟨_,ds,W,e,fL (fun _ _=>rfl) ds,by rw[e];rfl,h⟩
theorem sA(h:iW (ds.map .im) W Q):sj [.im (.list ds)] W Q:=⟨_,_,rfl,rfl,h⟩
theorem sC(h:iW (ds.map .im) W Q):sj [.im (.tuple ds)] W Q:=⟨_,_,rfl,rfl,h⟩
theorem KZ{lo:v0}(h:iW ((cutD ds lo hi).map .im) W Q):NK (.im (.list ds)) lo hi W Q:=⟨_,.inl rfl,by rw[show cutD (ds.map DV.im) lo hi=(cutD ds lo hi).map DV.im by unfold cutD;rw[aav,acW,acX]];exact h⟩
theorem uY{q:Addr}{lo:v0}(e:W q=some (.lst vs))(h:iW (cutD vs lo hi) W Q):NK (.pt q) lo hi W Q:=⟨_,.inl (nJ e),h⟩
theorem K0(e1:dX W v=some vs)(e2:dX W u=some us)(hl:vs.length+us.length<=sizeLine)(h:iW (vs++us) W Q):HZ v u W Q:=⟨vs,us,e1,e2,hl,h⟩
theorem SM{n:Int}(e1:dX W v=some vs)(h1:-(2 ^ 63)<=n)(h2:n < 2 ^ 63)(hl:vs.length * n.toNat<=sizeLine)(h:iW (List.replicate n.toNat vs).flatten W Q):RQ v (.im (.int n)) W Q:=⟨vs,n,e1,rfl,h1,h2,hl,h⟩
theorem Em{S:uU}{t g:Addr}(e:W t=some (.aI g n))(e2:gx (dat 4 W) vs=some ds)(h:S n ds fun r n'=>UI r=true/\j5 (aG W t (.aI g n')) Q r):uV S (.pt t::vs) W Q:=⟨t,g,n,vs,rfl,e,.inl ⟨ds,e2,h⟩⟩
end
section
variable {prog:u8}{A:tx}{E:xz}{s:Shared}
theorem qI{it t:Addr}{items:Array Value}(jx:t≠it):∀(n i:Nat) (s:Shared) (Q:wf->Shared->Prop),s.heap.IsListIter it t i->s.heap.IsList t items->i+n<=items.size ->
  (∀ h',h'.IsListIter it t (i+n)->Heap.SameBut it s.heap h'->Q ((items.toList.drop i).take n) { s with heap:=h' })->wpAny (model prog w) A (draw (.ref it) n) Q E s
 | 0,i,s,Q,hit,_,_,hQ=>by
  show wpAny _ _ (pure []) Q E s;exact aay (by simpa using hQ s.heap hit (Heap.SameBut.refl ..))
 | n+1,i,s,Q,hit,ht,hle,hQ=>by
  have iM:i < items.size:=by omega
  show wpAny _ _ (pyNext (.ref it) >>= _) Q E s;refine aaw (wpAny_pyNext_list_item hit ht (x:=items[i]) (by simp[iM]) fun gr xX eI=>?_);refine aaw (abw (qI jx n (i+1) _ _ xX (ht.extBut eI.extBut jx) @0 fun i9 Ot gu=>aay ?_));have hd:items.toList.drop i=items[i]::items.toList.drop (i+1):=by simp[adz,iM]
  have:=hQ i9 (by rw[show i+(n+1)=i+1+n by omega];exact Ot) (eI.trans gu);rw[hd,adm]at this;exact this
theorem l0{t:Addr}{Q:wf->Shared->Prop}(hh:A.handled=none)(ht:s.heap.IsList t items)(hQ:∀ h',Heap.ExtBut s.heap.objs.size s.heap h'->Q items.toList { s with heap:=h' }):wpAny (model prog w) A (unpackItems (.ref t) items.size none) Q E s:=by
 have iM:t≠s.heap.objs.size:=by obtain⟨o,ho,_⟩:=ht;exact aa6 (aaF ho)
 unfold unpackItems;refine aaw ?_
 .unfold notIterableAtAll;refine aaw (wpAny_specialOf ht.typeIs F.slot_list_iter.lookup ?_);refine aay ?_;simp only[acV,adN];refine aaw (abw (abT ht ?_));refine aaw (abw (qI iM items.size 0 _ _ ⟨_,aaG _ rfl,rfl,rfl⟩ (ht.push _) @0 fun gr xX eI=>?_));have kN:List.take items.size (List.drop 0 items.toList)=items.toList:=by
   rw[List.drop_zero];exact abA @2
  rw[kN];rw[aaD @2];have SN:gr.IsList t items:=(ht.push _).extBut eI.extBut iM;refine aaw (abw (wpAny_pyNext_list_end hh xX SN @2 fun i9 SQ=>?_));simp only[Option.isSome_none,acV,adN];refine aay (hQ i9 fun b o hb e=>SQ b o hb (eI.extBut b o hb (aax _ e)))
theorem uZ{t:Addr}{targets:List (Bool×(Value->Sem Unit))}{Q:Unit->Shared->Prop}(hh:A.handled=none)(ht:s.heap.IsList t items)(hn:targets.length=items.size)(En:targets.findIdx? (·.1)=none)(h:∀ h',Heap.ExtBut s.heap.objs.size s.heap h'->wpAny (model prog w) A (assignInOrder (targets.map (·.2)) items.toList) Q E { s with heap:=h' }) :
  wpAny (model prog w) A (unpack (.ref t) targets) Q E s:=by
 unfold unpack;rw[hn,En];exact aaw (abw (l0 hh ht h))
theorem kY{env:Env}{elts:v6}{x1}{t:Addr}{Q:Unit->Shared->Prop}(hh:A.handled=none)(ht:s.heap.IsList t items)(hn:(assignEach elts env).length=items.size)(En:(assignEach elts env).findIdx? (·.1)=none)(h:∀ h',Heap.ExtBut s.heap.objs.size s.heap h'->wpAny (model prog w) A (assignInOrder ((assignEach elts env).map (·.2)) items.toList) Q E { s with heap:=h' }) :
  wpAny (model prog w) A (assign (.Tuple elts x1 pos) env (.ref t)) Q E s:=by
 rw[assign_Tuple];exact aaw (adM (uZ hh ht hn En h))
end
noncomputable def K1(K:zn)(n:Nat)(t:wF):TG:=fun v Z H Q=>∃ a xs,v=.ref a/\gk K H a xs/\xs.length=n/\t xs Z H Q
theorem Iw{k:Nat}{t:wF}(hc:X.calm=true)(h:PY X es t)(hn:autoParam ((assignEach es X.env).length=n) ra0)(wG:autoParam ((assignEach es X.env).findIdx? (·.1)=none) ra0):PG X (.Tuple es k pos) (K1 X.K n t):=by
 intro pins s Z H v u Q I r hw;obtain⟨a,xs,e1,hq,hl,hw⟩:=hw;subst e1;cases r;obtain⟨aV,rv,pl,hz⟩:=I.list hq;refine kY (I.ok.hd hc) pl.isList (by simp[hn,<- hl,rv.length]) wG fun h' hx=>?_;have I1:Inv X pins Z H { s with heap:=h' }:=I.kept (t':=s.toks) fun b o e=>hx b o (aa6 (aaF e)) e;exact h pins _ Z H xs _ Q I1 (by simpa using rv) hw
noncomputable def K2(K:zn)(n:Nat)(t:wF):TG:=fun v Z H Q=>Qy K n t v Z H Q\/K1 K n t v Z H Q
theorem jj{k:Nat}{Rp:wF}(h:Ux X es Rp)(hc:autoParam (X.calm=true) ra0)(hn:autoParam ((assignEach es X.env).length=n) ra0)(wG:autoParam ((assignEach es X.env).findIdx? (·.1)=none) ra0):SG X (.Tuple es k pos) (K2 X.K n Rp) :=
 ⟨fun pins s Z H v u Q I r hw=>hw.elim (Mh hc h.run hn wG pins s Z H v u Q I r) (Iw hc h.run hn wG pins s Z H v u Q I r)⟩
noncomputable def Zu(n:Nat)(b:sr):sq:=fun dv Y W Q=>∃ vs,iX W dv=some vs/\vs.length=n/\b vs Y W Q
noncomputable instance {C:DC}{K:zn}[hk:lV C K]{gs:wF}{RU:sr}{n:Nat}[ib:UH C gs RU]:LG C (K2 K n gs) (Zu n RU):=by
 obtain⟨rfl⟩:=hk;exact⟨fun D v h k=>by
  obtain⟨vs,e,hl,q⟩:=h;obtain⟨p,xs,e1,hq,r⟩:=D.iX v e;rcases hq with hq | hq
  .exact .inr ⟨p,xs,e1,hq,by rw[<- r.length];exact hl,ib.go D r q k⟩
  .exact .inl ⟨p,xs,e1,hq,by rw[<- r.length];exact hl,ib.go D r q k⟩⟩
section
variable {gs:sr}{k:Nat}
theorem SR(hl:ds.length=k)(h:gs (ds.map .im) Y W Qs):Zu k gs (.im (.tuple ds)) Y W Qs:=⟨_,rfl,by rw[aav];exact hl,h⟩
theorem SU{a:sq}{r:wE}(h:a (.im d) Y W fun cG W'=>gs (r.map .im) cG W' Qs):Zm a gs ((d::r).map .im) Y W Qs:=⟨_,_,rfl,h⟩
theorem SV(h:Qs Y W):Zl (([]:wE).map .im) Y W Qs:=⟨rfl,h⟩
end
def iY:uU:=fun n ds R=>∃ m:Int,ds=[.int m]/\n<=1000000000/\0 < m/\m < 2 ^ 64/\∀ r:Int,0<=r->r < m->R (.im (.int r)) (n+1)
section
variable {t:Addr}
theorem aY(e:W t=some (.aI g n))(hn:n<=1000000000)(m0:0 < m)(m1:m < 2 ^ 64)(h:∀(r:Int) (W':Wd),0<=r->r < m->W' t=some (.aI g (n+1))->Fr t W W'->Q (.im (.int r)) W'):uV iY [.pt t,.im (.int m)] W Q :=
 Em e rfl ⟨m,rfl,hn,m0,m1,fun r r0 r1=>⟨rfl,h r _ r0 r1 av fun a ha=>aB ha⟩⟩
theorem dS(e:W p=some (.lst vs))(hl:vs.length < sizeLine)(h:∀ W',W' p=some (.lst (vs++[v]))->Fr p W W'->Q (.im .none) W'):sk (.pt p) [v] W Q:=uW e hl (h _ av fun a ha=>aB ha)
theorem Ou{k:Int}{j:Nat}(e:W p=some (.lst vs))(hj:Bb vs.length k=some j)(h:∀ W',W' p=some (.lst (vs.set j v))->Fr p W W'->Kc W'):zS (.pt p) (.im (.int k)) v W Kc:=⟨p,vs,k,j,rfl,rfl,e,hj,h _ av fun a ha=>aB ha⟩
theorem xY{k:Int}(h0:0<=k)(h1:k < n):Bb n k=some k.toNat:=by unfold Bb;rw[aaO h0,aaO h1]
theorem Ov{J:Type}{xs:List J}{k:Int}(h0:0<=k)(h1:k < xs.length):jb xs k=some (xs[k.toNat]'(by omega)):=by unfold jb;rw[xY h0 h1];show xs[k.toNat]?=_;simp[show k.toNat < xs.length by omega]
theorem cH(h:Q (.im d) W):j5 W Q (.im d):=h
theorem SX(h:∀ p W',W p=none->W' p=some (.lst (ds.map .im))->Fr p W W'->Q (.pt p) W'):j5 W Q (.nw ds):=Or.inl fun p hp=>h p _ hp av fun a ha=>aB ha
theorem u0(h:Q (.im (.list ds)) W):j5 W Q (.nw ds):=Or.inr h
end
def ky(sp:Sp):Sp:=fun vs H Q _=>sp vs H Q E0
theorem Wk.calm{K:zn}{k:Nat}{sp:Sp}(D:Wk P w K mg base k x f fd ps sp):Dn P w K mg base k x f fd ps (ky sp) where
 ok:=⟨fun vs H Q E q=>D.ok.len vs H Q E0 q,fun A outer s H args us vs Q E hr he hb hv hs=>acv (D.ok.run A outer s H args us vs Q E0 hr he hb hv hs) fun r s' h=>by
  cases r with
  | error e=>obtain⟨a,C,H',B,a0,_,R⟩:=h;exact R.want.elim
  | ok fl=>cases fl<;>exact h⟩
 b:=D.b
 kp:=D.kp
 m:=D.m
noncomputable instance {C:DC}{S:ku}{E:XK}:Ig C (ky (eZ S)) E (qE S fun _=>False):=⟨fun D h hd k=>zV (E:=E0) (fun c H' hc _=>hc.elim) D h hd k⟩
theorem bR:dat n W (.im d)=some d:=by cases n<;>rfl
section
variable {β:Type}[DecidableEq κ]
noncomputable def iN(kvs:List (κ×β))(k:κ):Option β:=(kvs.find? fun kv=>decide (kv.1=k)).map (·.2)
noncomputable def oP(kvs:List (κ×β))(k:κ)(v:β):List (κ×β) :=
 if(kvs.any fun kv=>decide (kv.1=k))=true then kvs.map (fun kv=>if kv.1=k then(kv.1,v)else kv)else kvs++[(k,v)]
noncomputable def gG(kvs more:List (κ×β)):List (κ×β):=more.foldl (fun acc kv=>oP acc kv.1 kv.2) kvs
end
section
variable [DecidableEq κ]
noncomputable def eC(C:DC)(F:Hp){κ:Type}:List (κ×DV)->List (κ×V)->Prop
 | [],xs=>xs=[]
 | kd::r,xs=>∃ y ys,xs=(kd.1,y)::ys/\eF C F kd.2 y/\eC C F r ys
theorem jV:∀{kvs:List (κ×DV)} {xs:List (κ×V)},eC C F kvs xs->xs.map (·.1)=kvs.map (·.1)/\aO C F (kvs.map (·.2)) (xs.map (·.2))
 | [],_,h=>by cases h;exact⟨rfl,rfl⟩
 | kd::r,_,⟨y,ys,e,h,hr⟩=>by
  subst e;obtain⟨h1,h2⟩:=jV hr;exact⟨by rw[aaM,aaM,h1],y,_,rfl,h,h2⟩
theorem iI:∀{kvs:List (κ×DV)} {xs:List (κ×V)},xs.map (·.1)=kvs.map (·.1)->aO C F (kvs.map (·.2)) (xs.map (·.2))->eC C F kvs xs
 | [],xs,h,_=>by
  cases xs with
  | nil=>rfl
  | cons _ _=>cases h
 | kd::r,xs,h,hv=>by
  cases xs with
  | nil=>cases h
  | cons x xs =>
   rw[aaM,aaM]at h;injection h with h1 h2
   obtain⟨y,ys,e,g1,g2⟩:=hv;rw[aaM]at e;injection e with e1 e2
   refine⟨y,xs,?_,g1,iI h2 (by rw[e2];exact g2)⟩;rw[<- h1,<- e1]
theorem eC.length{kvs:List (κ×DV)}{xs:List (κ×V)}(h:eC C F kvs xs):kvs.length=xs.length:=by
 have:=(jV h).1;have:=ab4 List.length this;simpa using this.symm
theorem eC.get{k:κ}:∀{kvs:List (κ×DV)} {xs:List (κ×V)},eC C F kvs xs->(iN kvs k=none/\iz xs k=none)\/∃ dv v,iN kvs k=some dv/\iz xs k=some v/\eF C F dv v
 | [],_,h=>by cases h;exact .inl ⟨rfl,rfl⟩
 | kd::r,_,⟨y,ys,e,h,hr⟩=>by
  subst e;unfold iN iz;rw[abL,abL]
  by_cases hk:kd.1=k
  .rw[aa2 hk];exact .inr ⟨kd.2,y,rfl,rfl,h⟩
  .rw[aaJ hk];exact eC.get hr
theorem eC.any{k:κ}:∀{kvs:List (κ×DV)} {xs:List (κ×V)},eC C F kvs xs->(kvs.any fun kv=>decide (kv.1=k))=(xs.any fun kv=>decide (kv.1=k))
 | [],_,h=>by cases h;rfl
 | kd::r,_,⟨y,ys,e,h,hr⟩=>by subst e;rw[abF,abF,eC.any hr]
theorem eC.map{k:κ}{dv:DV}{v:V}(hv:eF C F dv v):∀{kvs:List (κ×DV)} {xs:List (κ×V)},eC C F kvs xs->eC C F (kvs.map fun kv=>if kv.1=k then(kv.1,dv)else kv) (xs.map fun kv=>if kv.1=k then(kv.1,v)else kv)
 | [],_,h=>by cases h;exact rfl
 | kd::r,_,⟨y,ys,e,h,hr⟩=>by
  subst e;rw[aaM,aaM]
  by_cases hk:kd.1=k
  .simp only[hk,acT];exact⟨v,_,rfl,hv,eC.map hv hr⟩
  .simp only[hk,adN];exact⟨y,_,rfl,h,eC.map hv hr⟩
theorem eC.snoc{k:κ}{dv:DV}{v:V}(hv:eF C F dv v):∀{kvs:List (κ×DV)} {xs:List (κ×V)},eC C F kvs xs->eC C F (kvs++[(k,dv)]) (xs++[(k,v)])
 | [],_,h=>by cases h;exact⟨v,[],rfl,hv,rfl⟩
 | kd::r,_,⟨y,ys,e,h,hr⟩=>by subst e;exact⟨y,_,rfl,h,eC.snoc hv hr⟩
theorem eC.put{k:κ}{v:V}{kvs:List (κ×DV)}{xs:List (κ×V)}(h:eC C F kvs xs)(hv:eF C F dv v):eC C F (oP kvs k dv) (putK xs k v):=by
 unfold oP putK;rw[h.any];split
 .exact h.map hv
 .exact h.snoc hv
theorem eC.mono{F':Hp}(s:aQ F F'):∀{kvs:List (κ×DV)} {xs:List (κ×V)},eC C F kvs xs->eC C F' kvs xs
 | [],_,h=>h
 | _::_,_,⟨y,ys,e,h,r⟩=>⟨y,ys,e,h.mono s,eC.mono s r⟩
end
noncomputable def oQ:DV->Option Key
 | .im (.int i)=>some (.inl i)
 | .im (.str s)=>some (.inr s)
 | _=>none
noncomputable def SY:PyData->Option Key
 | .int i=>some (.inl i)
 | .str s=>some (.inr s)
 | _=>none
noncomputable def u7:wE->Option (List Key)
 | []=>some []
 | d::r=>(SY d).bind fun k=>(u7 r).map (k::·)
noncomputable def Ox:DV->Option (List Key)
 | .im (.tuple ds)=>u7 ds
 | _=>none
section
variable {Q:VK}{x y v:V}{a b:DV}{td ty tv:TE}{db dc:cZ}
theorem nL{k:Key}:∀{a:DV},eF C F a x->oQ a=some k->x=kV k
 | .im (.int i),h,e=>by cases e;exact h
 | .im (.str s),h,e=>by cases e;exact h
 | .im .none,_,e=>by cases e
 | .im (.bool _),_,e=>by cases e
 | .im (.list _),_,e=>by cases e
 | .im (.tuple _),_,e=>by cases e
 | .im (.dict _),_,e=>by cases e
 | .pt _,_,e=>by cases e
 | .cst _,_,e=>by cases e
 | .rf _,_,e=>by cases e
 | .ty _,_,e=>by cases e
 | .wJ _,_,e=>by cases e
 | .raw _,_,e=>by cases e
 | .lH _,_,e=>by cases e
 | .tp _,_,e=>by cases e
theorem u9:∀{ds:wE} {ks:List Key} {xs:List V},ay F ds xs->u7 ds=some ks->xs=ks.map kV
 | [],_,_,h,e=>by cases h;cases e;rfl
 | d::r,ks,_,⟨y,ys,e1,h,hr⟩,e=>by
  unfold u7 at e;cases q:SY d with
  | none=>rw[q]at e;cases e
  | some k =>
   rw[q]at e;cases q2:u7 r with
   | none=>simp[q2]at e
   | some ks' =>
    simp[q2]at e;subst e;rw[e1,u9 hr q2];have:y=kV k:=by
     cases d with
     | int i=>cases q;exact h
     | str s=>cases q;exact h
     | _=>cases q
    rw[this];rfl
theorem Ae{ks:List Key}(h:eF C F a x)(e:Ox a=some ks):∃ p,x=.ref p/\F p=some (.tup (ks.map kV)):=by
 cases a with
 | im d =>
  cases d with
  | tuple ds=>obtain⟨p,xs,e1,h1,r⟩:=h;exact⟨p,e1,by rw[h1,u9 r e]⟩
  | _=>cases e
 | _=>cases e
noncomputable def Iy(W:Wd)(a y:DV)(r:Option DV):Prop:=∃ p,a=.pt p/\((∃ kvs k,W p=some (.dk kvs)/\oQ y=some k/\r=iN kvs k)\/∃ kvs k,W p=some (.dt kvs)/\Ox y=some k/\r=iN kvs k)
theorem DR.Iy(D:DR C Z H Y W){r:Option DV}(ha:eF C (Fz C W H) a x)(hy:eF C (Fz C W H) b y)(h:L2.Iy W a b r):∃ p o,x=.ref p/\pO H p y o/\((r=none/\o=none)\/∃ dv v,r=some dv/\o=some v/\eF C (Fz C W H) dv v):=by
 obtain⟨p,rfl,h⟩:=h;cases ha;rcases h with⟨kvs,k,e,ek,er⟩ | ⟨kvs,k,e,ek,er⟩
 .obtain⟨_,_,xs,hx,hk,hv⟩:=D.ce p _ e;have ka:=iI hk hv;refine⟨p,_,rfl,by rw[nL hy ek];exact pO.k hx,?_⟩;rw[er];exact ka.get
 .obtain⟨_,_,xs,hx,hk,hv⟩:=D.ce p _ e;have ka:=iI hk hv;obtain⟨q,rfl,hq⟩:=Ae hy ek;refine⟨p,_,rfl,pO.t hx (Fz.le hq),?_⟩;rw[er];exact ka.get
noncomputable def Eo(x y:DV)(W2:Wd)(Q:DK):Prop:=∃ v,Iy W2 x y (some v)/\Q v W2
noncomputable def K3(a b:cZ):cZ:=fun Y W Q=>a Y W fun x W1=>b Y W1 fun y W2=>Eo x y W2 Q
noncomputable instance [ia:LE C td da][ib:LE C ty db]:LE C (C7 td ty) (K3 da db):=⟨fun D h k=>ia.go D h fun x dx H1 W1 D1 s1 v1 h1=>ib.go D1 h1 fun y dy H2 W2 D2 s2 v2 zz=>by
 obtain⟨dv,g,q⟩:=zz
 obtain⟨p,o,e,hg,hr⟩:=D2.Iy (v1.mono s2) v2 g;rcases hr with⟨z,_⟩ | ⟨dv',v,z,eo,hv⟩
 .cases z
 .cases z;subst eo;exact⟨p,v,e,hg,(k.mono (s1.trans s2)).now D2 hv q⟩⟩
noncomputable def dput(W:Wd)(a y v:DV)(Kc:Wd->Prop):Prop:=∃ p,a=.pt p/\((∃ kvs k,W p=some (.dk kvs)/\oQ y=some k/\kvs.length < sizeLine/\Kc (aG W p (.dk (oP kvs k v))))\/∃ kvs k,W p=some (.dt kvs)/\Ox y=some k/\kvs.length < sizeLine/\Kc (aG W p (.dt (oP kvs k v))))
theorem DR.dput(D:DR C Z H Y W)(ha:eF C (Fz C W H) a x)(hy:eF C (Fz C W H) b y)(hv:eF C (Fz C W H) dv v)(h:L2.dput W a b dv Kc):∃ p H' W',x=.ref p/\rL H p y v H'/\DR C Z H' Y W'/\aQ (Fz C W H) (Fz C W' H')/\Kc W':=by
 obtain⟨p,rfl,h⟩:=h;cases ha;rcases h with⟨kvs,k,e,ek,hl,q⟩ | ⟨kvs,k,e,ek,hl,q⟩
 .obtain⟨_,_,xs,hx,hk,Oy⟩:=D.ce p _ e;have ka:=iI hk Oy;obtain⟨D2,s2⟩:=D.Qa (o:=.dK (putK xs k v)) (c:=.dk (oP kvs k dv)) e rfl rfl fun s=>by
   obtain⟨g1,g2⟩:=jV ((ka.put hv).mono s);exact⟨_,cv,g1,g2⟩
  exact⟨p,_,_,rfl,by rw[nL hy ek];exact rL.k hx (by rw[<- ka.length];exact hl),D2,s2,q⟩
 .obtain⟨_,_,xs,hx,hk,Oy⟩:=D.ce p _ e;have ka:=iI hk Oy;obtain⟨q',rfl,hq⟩:=Ae hy ek;obtain⟨D2,s2⟩:=D.Qa (o:=.dT (putK xs k v)) (c:=.dt (oP kvs k dv)) e rfl rfl fun s=>by
   obtain⟨g1,g2⟩:=jV ((ka.put hv).mono s);exact⟨_,cv,g1,g2⟩
  exact⟨p,_,_,rfl,rL.t hx (Fz.le hq) (by rw[<- ka.length];exact hl),D2,s2,q⟩
noncomputable def Af(a b c:cZ):j3:=fun De Y W=>c Y W fun v W1=>a Y W1 fun x W2=>b Y W2 fun y W3=>dput W3 x y v (De.nx Y)
noncomputable instance [ia:LE C td da][ib:LE C ty db][ic:LE C tv dc]:LS C (C8 td ty tv) (Af da db dc):=⟨fun D h m=>ic.go D h fun v dv H1 W1 D1 s1 v1 h1=>ia.go D1 h1 fun x dx H2 W2 D2 s2 v2 h2=>ib.go D2 h2 fun y dy H3 W3 D3 s3 v3 h3=>by
 obtain⟨p,H4,W4,e,hp,D4,s4,q⟩:=D3.dput (v2.mono s3) v3 ((v1.mono s2).mono s3) h3;exact⟨p,H4,e,hp,m.nx _ _ _ _ D4 (((s1.trans s2).trans s3).trans s4) q⟩⟩
abbrev K4:=bW->Wd->(List (Key×DV)->Wd->Prop)->Prop
class UL (C:DC) (t:List (TE×TE)) (d:outParam K4):Prop where
 go:∀{Z:St} {H:Hp} {Y:bW} {W:Wd} {Qd:List (Key×DV)->Wd->Prop} {Q:List (V×V)->Hp->Prop},DR C Z H Y W->d Y W Qd->(∀ kvs aK H' W',DR C Z H' Y W'->aQ (Fz C W H) (Fz C W' H')->eC C (Fz C W' H') aK kvs->Qd aK W'->Q (kvs.map fun kv=>(kV kv.1,kv.2)) H')->rM t Z H Q
def Zv:K4:=fun _ W Q=>Q [] W
noncomputable def Zw(a b:cZ)(r:K4):K4:=fun Y W Q=>a Y W fun x W1=>∃ k,oQ x=some k/\b Y W1 fun v W2=>r Y W2 fun kvs W3=>Q ((k,v)::kvs) W3
instance:UL C [] Zv:=⟨fun D h k=>k [] [] _ _ D (aQ.refl _) rfl h⟩
noncomputable instance {r:List (TE×TE)}{dr:K4}[ia:LE C td da][ib:LE C ty db][ir:UL C r dr]:UL C ((td,ty)::r) (Zw da db dr):=⟨fun D h k=>ia.go D h fun x dx H1 W1 D1 s1 v1 ⟨kk,ek,h1⟩=>ib.go D1 h1 fun y dy H2 W2 D2 s2 v2 h2=>ir.go D2 h2 fun kvs aK H3 W3 D3 s3 v3 q=>by
 have:=k ((kk,y)::kvs) ((kk,dy)::aK) H3 W3 D3 ((s1.trans s2).trans s3) ⟨y,kvs,rfl,v2.mono s3,v3⟩ q;rw[aaM,<- nL v1 ek]at this;exact this⟩
theorem eC.merge{κ:Type}[DecidableEq κ]:∀{more:List (κ×DV)} {mores:List (κ×V)} {kvs:List (κ×DV)} {xs:List (κ×V)},eC C F more mores->eC C F kvs xs->eC C F (gG kvs more) (mores.foldl (fun acc kv=>putK acc kv.1 kv.2) xs)
 | [],_,_,_,h,h'=>by cases h;exact h'
 | kd::r,_,kvs,xs,⟨y,ys,e,h,hr⟩,h'=>by
  subst e;exact eC.merge (more:=r) (mores:=ys) (kvs:=oP kvs kd.1 kd.2) (xs:=putK xs kd.1 y) hr (h'.put h)
noncomputable def S0(d:K4):cZ:=fun Y W Q=>∀ p,W p=none->d Y (aG W p (.dk [])) fun kvs W1=>W1 p=some (.dk [])/\kvs.length<=15/\Q (.pt p) (aG W1 p (.dk (gG [] kvs)))
noncomputable instance {r:List (TE×TE)}{dr:K4}[ir:UL C r dr]:LE C (Dd r) (S0 dr):=⟨fun D h k=>fun p hp=>by
 obtain⟨D2,s2⟩:=D.Nu (c:=.dk []) (o:=.dK []) hp rfl fun s=>⟨[],cv,rfl,rfl⟩;refine ir.go D2 (h p (D.fresh hp)) fun kvs aK H3 W3 D3 s3 v3 zz=>?_;obtain⟨e3,hl,q⟩:=zz;obtain⟨_,_,xs,hx,hk,hv⟩:=D3.ce p _ e3;have hx0:xs=[]:=by cases xs with | nil=>rfl | cons _ _=>cases hk
 subst hx0;obtain⟨D4,s4⟩:=D3.Qa (o:=.dK (ja [] kvs)) (c:=.dk (gG [] aK)) e3 rfl rfl fun s=>by
  obtain⟨g1,g2⟩:=jV (eC.merge (v3.mono s) (show eC C _ ([]:List (Key×DV)) [] from rfl));exact⟨_,cv,g1,g2⟩
 exact⟨hx,kvs,rfl,by rw[<- v3.length];exact hl,k _ (.pt p) _ _ D4 ((s2.trans s3).trans s4) rfl q⟩⟩
end
section
variable {o i e value:Expr}{pos' CY:Pos}{td ty tv:TE}
theorem aM{k:Nat}(hr:de k X.A)(ho:SE X o td)(hi:SE X i ty)(hs:autoParam (Ba i) ra8):SE X (.Subscript o i pos) (C7 td ty):=⟨Hl (J1 hr) ho.run hi.run hs⟩
theorem fM{k:Nat}(hr:de k X.A)(ho:SE X o td)(hi:SE X i ty)(hv:SE X value tv)(hs:autoParam (swapsWith value (some (.Subscript o i pos')) pos.line X.env=pure false) ra0):SS X (.Assign [.Subscript o i pos'] value pos) (C8 td ty tv):=⟨Hm (J1 hr) ho.run hi.run hv.run hs⟩
structure UM(X:Cx)(pos:Pos)(keys:List (Option Expr))(values:v6)(uA:List (TE×TE)):Prop where
 run:QM X pos keys values uA
theorem Ag:UM X pos [] [] []:=⟨Hn⟩
theorem dJ{k v:Expr}{ks:List (Option Expr)}{vs:v6}{tk:TE}{uA:List (TE×TE)}(hk:SE X k tk)(hv:SE X v tv)(hr:UM X pos ks vs uA):UM X pos (some k::ks) (v::vs) ((tk,tv)::uA):=⟨Dc hk.run hv.run hr.run⟩
theorem sD{keys:List (Option Expr)}{values:v6}{uA:List (TE×TE)}(h:UM X pos keys values uA)(kN:autoParam (keys.all (·.isSome)=true) ra0)(hl:autoParam (keys.length=values.length) ra0)(h0:autoParam (keys≠[]) ra9)(Vy:autoParam (keys.length<=15) ra1):SE X (.Dict keys values pos) (Dd uA):=⟨Ho h.run kN hl h0 Vy⟩
end
section
variable {bk:bW->Wd->Prop}{rt:DK}{db dc:cZ}{f:qy}{kvs:List (Key×DV)}{kvt:List (List Key×DV)}{k:Key}{kt:List Key}{a b:DV}
theorem Oz(h:da Y W fun x W1=>db Y W1 fun y W2=>Eo x y W2 Q):K3 da db Y W Q:=h
theorem Ah(e:W p=some (.dk kvs))(ek:oQ b=some k)(hv:iN kvs k=some v)(h:Q v W):Eo (.pt p) b W Q:=⟨v,⟨p,rfl,.inl ⟨kvs,k,e,ek,hv.symm⟩⟩,h⟩
theorem OA(h:dc Y W fun v W1=>da Y W1 fun x W2=>db Y W2 fun y W3=>dput W3 x y v (nx Y)):Af da db dc ⟨nx,rt,bk,ct⟩ Y W:=h
theorem Ai(e:W p=some (.dk kvs))(ek:oQ b=some k)(hl:kvs.length < sizeLine)(h:∀ W',W' p=some (.dk (oP kvs k v))->Fr p W W'->Kc W'):dput W (.pt p) b v Kc:=⟨p,rfl,.inl ⟨kvs,k,e,ek,hl,h _ av fun a ha=>aB ha⟩⟩
theorem Xa{R:List (Key×DV)->Wd->Prop}(h:R [] W):Zv Y W R:=h
theorem Xb{R:List (Key×DV)->Wd->Prop}{r:K4}(h:da Y W fun x W1=>∃ k,oQ x=some k/\db Y W1 fun v W2=>r Y W2 fun kvs W3=>R ((k,v)::kvs) W3):Zw da db r Y W R:=h
theorem Xc{P:Key->Prop}(e:oQ a=some k)(h:P k):∃ k,oQ a=some k/\P k:=⟨k,e,h⟩
theorem OB{r:j3}(h:Af da db dc ⟨r ⟨nx,rt,bk,ct⟩,rt,bk,ct⟩ Y W):j4 (Af da db dc) r ⟨nx,rt,bk,ct⟩ Y W:=h
end
theorem cT{S:uU}{t:Addr}(e:W t=some (.aI g n))(h:S n ds fun r n'=>j5 (aG W t (.aI g n')) Q r):uV S (.pt t::ds.map .im) W Q:=⟨t,g,n,_,rfl,e,.inr ⟨ds,W,fL (fun _ _=>rfl) ds,e,h⟩⟩
structure ModT(K:zn)(w:World)(a:Addr)(tab:Str->Option (List V)):Prop where
 ex:∃ kvs:List (Key×V),Bl K w a kvs/\∀ x xs,tab x=some xs->∃ b,iz kvs (Sum.inr x)=some (.ref b)/\∀ H,fX K H b xs
noncomputable def Zx(K:zn)(w:World)(a:Addr)(tab:Str->Option (List V))(_:ModT K w a tab)(ty:TE):TE:=DD K w (tC (.ref a)) ty
theorem S1{K:zn}{tab:Str->Option (List V)}{p:Pos}{r:Expr}{ty:TE}(hm:X.mg x=some (.ref a))(hM:ModT K w a tab)(hb:SE X r ty)(hK:autoParam (X.K=K) ra0)(hw:autoParam (X.w=w) ra0)(hs:autoParam (Ba r) ra8)(hg:autoParam (Gl X x) ra0)(hd:autoParam ((x == ("__debug__":Str))=false) ra1):SE X (.Subscript (.Name x p) r pos) (Zx K w a tab hM ty):=by
 subst hK hw;exact Nh (Rr hm hg hd) hb hs
def Zy(tab:Str->Option (List V))(d:cZ):cZ:=fun Y W Q=>d Y W fun v W1=>∃ x xs,v=.im (.str x)/\tab x=some xs/\Q (.cst xs) W1
noncomputable instance {C:DC}{K:zn}{w:World}[hk:lV C K]{a:Addr}{tab:Str->Option (List V)}{hM:ModT K w a tab}{ty:TE}{d:cZ}[ia:LE C ty d]:LE C (Zx K w a tab hM ty) (Zy tab d):=by
 obtain⟨rfl⟩:=hk;exact⟨fun D h k=>ia.go D h fun x dv H1 W1 D1 s1 v1 zz=>by
  obtain⟨z,xs,e1,e2,q⟩:=zz
  subst e1;obtain⟨kvs,hD,kN⟩:=hM.ex;obtain⟨b,hb,hT⟩:=kN z xs e2;exact⟨a,kvs,Sum.inr z,.ref b,rfl,hD,v1,hb,k _ (.cst xs) _ _ D1 s1 ⟨b,rfl,hT⟩ q⟩⟩
theorem Xe{tab:Str->Option (List V)}{d:cZ}(h:d Y W fun v W1=>∃ x xs,v=.im (.str x)/\tab x=some xs/\Q (.cst xs) W1):Zy tab d Y W Q:=h
theorem cA{d:j3}{De:hZ}(cG:bW)(e:Y=cG)(h:d De cG W):d De Y W:=by rw[e];exact h
end L2
namespace L2
open PySem PySem.Spec PyProof.Rows
variable {c:Cell}{a:Addr}
section
variable {W:Wd}{Q:DK}{ds:wE}
theorem K5{p:Addr}{kvs:List (Key×DV)}{Pr:Prop}(e:W p=some (.dk kvs))(h:Pr):xQ "dict" (.pt p) W/\Pr:=⟨.inr (.inr ⟨rfl,p,rfl,.inl ⟨kvs,e⟩⟩),h⟩
end
abbrev kZ:=List DV->Wd->(DV->Wd->Prop)->(Addr->Prop)->Prop
abbrev wL(K:zn)(H:Hp)(W:Wd)(O:Addr->Prop)(E:XK)(X:Addr->Prop):DC:=⟨K,lX,H,fun a=>(W a).isSome=true,O,E,X⟩
noncomputable def fY(K:zn)(S:kZ):Sp:=fun vs H Q E=>∃(O:Addr->Prop) (aK:List DV) (W:Wd) (R:DV->Wd->Prop) (X:Addr->Prop),
 (∀ a,O a->H a≠none)/\(∀ p c,W p=some c->¬ O p/\bX (wL K H W O E X) W H p c)/\aO (wL K H W O E X) (Fz (wL K H W O E X) W H) aK vs/\S aK W R X /\
 (∀ v dv H' W',R dv W'->(∀ a o,H a=some o->W a=none->H' a=some o)->(∀ a,H a≠none->H' a≠none)->(∀ p c,W' p=some c->(H p=none\/(W p).isSome=true)/\¬ O p/\bX (wL K H W O E X) W' H' p c)->eF (wL K H W O E X) (Fz (wL K H W O E X) W' H') dv v->Q v H') /\
 ∀ c H',X c->(∀ a o,H a=some o->W a=none->H' a=some o)->E (.ref c) none H'
def Iz(R:DV->Wd->Prop):hZ:=⟨fun _ W=>R (.im .none) W,fun dv W=>R dv W,fun _ _=>False,fun _ _=>False⟩
section
variable {P:u8}{w:World}{K:zn}{mg:xL}{base:Heap}{x qual:Str}{st:Stmt}{f:Addr}{fd:wT}{N ps:wv}{k:Nat}{Sd:kZ}
theorem Ep{vs:List V}{H:Hp}{Q:VK}{E:XK}{t:TS}(h:fY K Sd vs H Q E)(hb:∀ O X W,∃ d,LS (wL K H W O E X) t d/\∀ aK R,Sd aK W R X->d (Iz R) (cC N aK) W):t { nx:=fun _ H'=>Q .dH H',rt:=Q } (start N vs) H:=by
 obtain⟨O,aK,W,R,X,hO,hc,hv,hS,hR,hX⟩:=h;obtain⟨d,hd,hb⟩:=hb O X W;have th:∀ p c,W p=some c->H p≠none:=fun p c e=>by
  have h2:=(hc p c e).2;cases c with
  | lst aK=>obtain⟨xs,e,r⟩:=h2;rw[e];exact fun z=>nomatch z
  | aI g n=>exact h2.1.elim
  | part=>exact Mu.ne h2
  | dk kvs=>obtain⟨ks,e,k,r⟩:=h2;rw[e];exact fun z=>nomatch z
  | dt kvs=>obtain⟨ks,e,k,r⟩:=h2;rw[e];exact fun z=>nomatch z
  | ob _ _ kvs=>obtain⟨ks,e,k,r⟩:=h2;rw[e];exact fun z=>nomatch z
 have D:DR (wL K H W O E X) (start N vs) H (cC N aK) W:=by
  refine⟨⟨fun z=>z.elim,fun z=>z.elim,fun c Xf H' hf=>hX c H' Xf fun a o e e2=>hf a o e (by show ¬ (W a).isSome=true;rw[e2];exact fun z=>nomatch z)⟩,fun a o e _=>e,hO,fun a ha=>?_,?_,fun p c e=>⟨.inr (by show(W p).isSome=true;rw[e];rfl),hc p c e⟩⟩
  .cases q:W a with
   | none=>have pU:(W a).isSome=true:=ha;rw[q]at pU;cases pU
   | some c=>exact th a c q
  .unfold start cC;rw[hv.length];exact Slots.start _ hv
 have fr:∀ bH H' cG W',DR (wL K H W O E X) bH H' cG W'->(∀ a o,H a=some o->W a=none->H' a=some o)/\(∀ a,H a≠none->H' a≠none)/\∀ p c,W' p=some c->(H p=none\/(W p).isSome=true)/\¬ O p/\bX (wL K H W O E X) W' H' p c:=fun bH H' cG W' D' =>
  ⟨fun a o e e2=>D'.fr a o e (by show ¬ (W a).isSome=true;rw[e2];exact fun z=>nomatch z),fun a ha=>by
   cases q:W a with
   | none=>cases q2:H a with
    | none=>exact absurd q2 ha
    | some o=>rw[D'.fr a o q2 (by show ¬ (W a).isSome=true;rw[q];exact fun z=>nomatch z)];exact fun z=>nomatch z
   | some c=>exact D'.th a (by show(W a).isSome=true;rw[q];rfl),fun p c e=>D'.ce p c e⟩
 refine hd.go D (hb aK R hS) ⟨fun bH H' cG W' D' s q=>?_,fun bH H' cG W' D' s q=>q.elim,fun bH H' cG W' D' s q=>q.elim,fun x dv bH H' cG W' D' s v q=>?_⟩
 .obtain⟨f1,f2,f3⟩:=fr bH H' cG W' D';exact hR .dH (.im .none) H' W' q f1 f2 f3 rfl
 .obtain⟨f1,f2,f3⟩:=fr bH H' cG W' D';exact hR x dv H' W' q f1 f2 f3 v
theorem IA(hlen:∀ aK W R X,Sd aK W R X->aK.length=ps.length):∀ vs H Q E,fY K Sd vs H Q E->vs.length=ps.length:=fun vs H Q E zz=>by obtain⟨O,aK,W,R,X,_,_,hv,hS,_⟩:=zz; rw[<- hv.length];exact hlen aK W R X hS
theorem cR.wM(F:cR K x qual st f fd)(S:az N ps (defScope st))(hlen:∀ aK W R X,Sd aK W R X->aK.length=ps.length)(eG:∀(bB:Value) (A:tx) (outer:List Env) (s:Shared) (H:Hp) (E:XK),de k (A.deeper (envOfC qual (defScope st) s.heap.objs.size f bB)) ->
   ∃ t,ua (gC df P w K mg base N qual (defScope st) f bB A outer s H E).AU (defBody st) t/\∀ O X W,∃ d,LS (wL K H W O E X) t d/\∀ aK R,Sd aK W R X->d (Iz R) (cC N aK) W):ba P w K mg base df (k+1) f fd ps (fY K Sd) :=
 F.Ni S (IA hlen) fun bB A outer s H vs Q E hr h=>by
  obtain⟨t,h1,h2⟩:=eG bB A outer s H E hr;exact⟨t,h1,Ep h h2⟩
end
open Classical in
noncomputable def pM (W:Wd) (D:Addr->Prop):Wd:=fun a=>if D a then W a else none
open Classical in
noncomputable def Bz (W:Wd) (D:Addr->Prop) (W':Wd):Wd:=fun a=>match W' a with
 | some c=>if c.plain=true then some c else if D a then none else W a
 | none=>if D a then none else W a
def dW(S:kZ)(X:Addr->Prop):List DV->Wd->DK->Prop:=fun as W Q=>∃ D:Addr->Prop,(∀ a c,D a->W a=some c->c.plain=true)/\S as (pM W D) (fun dv W'=>(∀ a,W' a≠none->D a\/W a=none)->Q dv (Bz W D W')) X
section
variable {C C':DC}{Z:St}{H H':Hp}{Y:bW}{W W':Wd}{Qd:DK}{Q:VK}{F:Hp}{D:Addr->Prop}
theorem eF.conv(hK:C'.K=C.K):∀{dv:DV} {x:V},eF C F dv x->eF C' F dv x
 | .im _,_,h=>h
 | .pt _,_,h=>h
 | .cst _,_,⟨a,e,h⟩=>⟨a,e,fun H=>by rw[hK];exact h H⟩
 | .rf _,_,h=>h
 | .ty _,_,h=>h
 | .wJ _,_,h=>h
 | .raw _,_,h=>h
 | .lH _,_,⟨a,e,h⟩=>⟨a,e,by rw[hK];exact h⟩
 | .tp _,_,h=>h
theorem aO.conv(hK:C'.K=C.K):∀{aK:List DV} {xs:List V},aO C F aK xs->aO C' F aK xs
 | [],_,h=>h
 | _::_,_,⟨y,ys,e,h,r⟩=>⟨y,ys,e,h.conv hK,aO.conv hK r⟩
theorem bX.conv(hK:C'.K=C.K){p:Addr}(hp:c.plain=true)(s:aQ (Fz C W H) (Fz C' W' H))(h:bX C W H p c):bX C' W' H p c:=by
 cases c with
 | lst aK=>obtain⟨xs,e,r⟩:=h;exact⟨xs,e,(r.mono s).conv hK⟩
 | aI g n=>cases hp
 | part=>cases hp
 | dk kvs=>obtain⟨ks,e,k,r⟩:=h;exact⟨ks,e,k,(r.mono s).conv hK⟩
 | dt kvs=>obtain⟨ks,e,k,r⟩:=h;exact⟨ks,e,k,(r.mono s).conv hK⟩
 | ob _ _ kvs=>obtain⟨ks,e,k,r⟩:=h;exact⟨ks,e,k,(r.mono s).conv hK⟩
theorem ij(h:pM W D a=some c):D a/\W a=some c:=by
 unfold pM at h;split at h
 .exact⟨by assumption,h⟩
 .cases h
theorem OC(h:D a):pM W D a=W a:=by unfold pM;rw[aaO h]
theorem IB(h:¬ D a):pM W D a=none:=by unfold pM;rw[aaD h]
theorem lb(h:Bz W D W' a=some c):(W' a=some c/\c.plain=true)\/(¬ D a/\W a=some c/\(W' a=none\/∃ c',W' a=some c'/\c'.plain=false)):=by
 unfold Bz at h;cases q:W' a with
 | some c' =>
  rw[q]at h;dsimp only at h;split at h
  .cases h;exact .inl ⟨rfl,by assumption⟩
  .split at h
   .cases h
   .exact .inr ⟨by assumption,h,.inr ⟨c',rfl,by simpa using ‹¬ c'.plain=true›⟩⟩
 | none =>
  rw[q]at h;dsimp only at h;split at h
  .cases h
  .exact .inr ⟨by assumption,h,.inl rfl⟩
theorem OD(h:W' a=some c)(hp:c.plain=true):Bz W D W' a=some c:=by
 unfold Bz;rw[h];exact aaO hp
theorem Er(hd:¬ D a)(h:W' a=none):Bz W D W' a=W a:=by
 unfold Bz;rw[h];exact aaD hd
theorem vb(hW:∀ a,W' a≠none->D a\/W a=none)(hd:¬ D a)(h:W a=some c):Bz W D W' a=some c:=by
 cases q:W' a with
 | none=>rw[Er hd q];exact h
 | some c' =>
  rcases hW a (by rw[q];exact fun z=>nomatch z)with z | z
  .exact absurd z hd
  .rw[z]at h;cases h
theorem Es{K:zn}{S:kZ}{X:Addr->Prop}{E:XK}(hK:C.K=K)(hX:∀ c H',X c->(∀ a o,C.H0 a=some o->¬ C.T a->H' a=some o)->E (.ref c) none H'){as:List DV}{xs:List V}(R:DR C Z H Y W)(h:aO C (Fz C W H) as xs)(hd:dW S X as W Qd)(k:KE C Z Y W H Qd Q):fY K S xs H Q E:=by
 obtain⟨D,oo,hS⟩:=hd;have cs:∀ H1,aQ (Fz C W H1) (Fz (wL K H (pM W D) (fun a=>C.O a\/((W a).isSome=true/\¬ D a)) E X) (pM W D) H1):=fun H1 a o e=>by
  obtain⟨h1,h2⟩:=aD.mp e;refine aD.mpr ⟨fun z=>h1 ?_,h2⟩;rcases z with(z | z) | z
  .exact .inl z
  .exact .inr z.1
  .cases q:pM W D a with
   | none=>rw[q]at z;cases z
   | some c=>exact .inr (by rw[(ij q).2];rfl)
 refine⟨fun a=>C.O a\/((W a).isSome=true/\¬ D a),as,pM W D,_,X,fun a ha=>?_,fun p c e=>?_,(h.mono (cs H)).conv hK.symm,hS,fun v dv H' W' q f1 f2 f3 hv=>?_,fun c H' hc f1=>hX c H' hc fun a o e ht=>?_⟩
 .rcases ha with ha | ha
  .exact R.ho a ha
  .cases q:W a with
   | none=>rw[q]at ha;cases ha.1
   | some c=>exact R.there q
 .obtain⟨JR,e'⟩:=ij e;obtain⟨g1,g2,g3⟩:=R.ce p c e';exact⟨fun z=>z.elim g2 fun z=>z.2 JR,g3.conv (C':=wL K H (pM W D) (fun a=>C.O a\/((W a).isSome=true/\¬ D a)) E X) hK.symm (oo p c JR e') (cs H)⟩
 .have S2:∀ a,W' a≠none->D a\/W a=none:=fun a ha=>by
   cases q':W' a with
   | none=>exact absurd q' ha
   | some c =>
    obtain⟨g1,g2,_⟩:=f3 a c q';rcases g1 with g1 | g1
    .exact .inr (R.fresh g1)
    .cases q2:pM W D a with
     | none=>rw[q2]at g1;cases g1
     | some c'=>exact .inl (ij q2).1
  have eqv:∀ H1,aQ (Fz (wL K H (pM W D) (fun a=>C.O a\/((W a).isSome=true/\¬ D a)) E X) W' H1) (Fz C (Bz W D W') H1):=fun H1 a o e=>by
   obtain⟨h1,h2⟩:=aD.mp e;refine aD.mpr ⟨fun z=>h1 ?_,h2⟩;rcases z with z | z
   .exact .inl (.inl z)
   .cases q:Bz W D W' a with
    | none=>rw[q]at z;cases z
    | some c =>
     rcases lb q with⟨g,_⟩ | ⟨g1,g2,_⟩
     .exact .inr (by rw[g];rfl)
     .exact .inl (.inr ⟨by rw[g2];rfl,g1⟩)
  have hk:∀ p c,¬ D p->W p=some c->H' p=H p:=fun p c JR e=>by
   cases q:H p with
   | none=>exact absurd q (R.there e)
   | some o=>exact f1 p o q (IB JR)
  obtain⟨R',s'⟩:=R.step (W':=Bz W D W') (H':=H') (fun a z=>by
    cases q:Bz W D W' a with
    | none=>rw[q]at z;cases z
    | some c =>
     rcases lb q with⟨g,_⟩ | ⟨g1,g2,_⟩
     .obtain⟨e1,_,_⟩:=f3 a c g;rcases e1 with e1 | e1
      .exact .inr e1
      .cases q2:pM W D a with
       | none=>rw[q2]at e1;cases e1
       | some c'=>exact .inl (by rw[(ij q2).2];rfl)
     .exact .inl (by rw[g2];rfl)) (fun a o e w'=>f1 a o e (by
      cases q2:pM W D a with
      | none=>rfl
      | some c'=>rw[(ij q2).2]at w';cases w')) f2 fun s p c e=>by
   rcases lb e with⟨g,hp⟩ | ⟨g1,g2,g3⟩
   .obtain⟨e1,e2,e3⟩:=f3 p c g;refine⟨?_,fun z=>e2 (.inl z),e3.conv hK hp (eqv H')⟩;rcases e1 with e1 | e1
    .exact .inl (R.Ku e1)
    .cases q2:pM W D p with
     | none=>rw[q2]at e1;cases e1
     | some c'=>exact(R.ce p c' (ij q2).2).1
   .obtain⟨e1,e2,e3⟩:=R.ce p c g2;refine⟨e1,e2,?_⟩;have hp:=hk p c g1 g2;cases c with
    | lst aK=>obtain⟨xs,e,r⟩:=e3;exact⟨xs,by rw[hp];exact e,r.mono s⟩
    | part=>show Mu (H' p);rw[hp];exact e3
    | dk kvs=>obtain⟨ks,e,k,r⟩:=e3;exact⟨ks,by rw[hp];exact e,k,r.mono s⟩
    | dt kvs=>obtain⟨ks,e,k,r⟩:=e3;exact⟨ks,by rw[hp];exact e,k,r.mono s⟩
    | ob _ _ kvs=>obtain⟨ks,e,k,r⟩:=e3;exact⟨ks,by rw[hp];exact e,k,r.mono s⟩
    | aI g n =>
     obtain⟨r,eg,u⟩:=e3;have dg:¬ D g:=fun z=>by have:=oo g _ z eg;cases this
     refine⟨R.ok.rs r hp (hk g _ dg eg),vb S2 dg eg,fun t' g' n' z=>?_⟩;rcases lb z with⟨_,z2⟩ | ⟨_,z2,_⟩
     .cases z2
     .exact u t' g' n' z2
  exact k v dv H' _ R' s' ((hv.mono (eqv H')).conv hK) (q S2)
 .refine f1 a o (R.fr a o e ht) ?_;cases q2:pM W D a with
  | none=>rfl
  | some c' =>
   rcases (R.ce a c' (ij q2).2).1 with z | z
   .rw[z]at e;cases e
   .exact absurd z ht
end
end L2
namespace L2
open PySem PySem.Spec PyProof.Rows
variable {as:List DV}{X:Addr->Prop}
noncomputable def putD(f:Str)(v:DV):List (Str×DV)->List (Str×DV)
 | []=>[(f,v)]
 | (g,x)::r=>if g=f then(g,v)::r else(g,x)::putD f v r
section
variable {C:DC}{Z:St}{H H':Hp}{Y:bW}{W W':Wd}{Qd:DK}{Q:VK}{F:Hp}{K:zn}{ta tv:TE}{da dv:cZ}{ts:TA}{ds:mF}{kC:Addr}{f m:Str}
theorem sE:∀{fs:List (Str×DV)} {gK:List (Str×V)},gK.map (·.1)=fs.map (·.1)->aO C F (fs.map (·.2)) (gK.map (·.2))->∀{d:DV},fs.lookup f=some d->∃ v,gK.lookup f=some v/\eF C F d v
 | [],_,_,_,_,e=>by cases e
 | (g,x)::r,[],hk,_,_,_=>by cases hk
 | (g,x)::r,(g',x')::r',hk,⟨y,ys,ey,hy,hr⟩,d,e=>by
  have DH:g'::r'.map (·.1)=g::r.map (·.1):=hk;have Xg:x'::r'.map (·.2)=y::ys:=ey;injection DH with k1 k2
  injection Xg with y1 y2
  subst k1 y1 y2;rw[abj]at e ⊢;cases q:(f == g') with
  | true=>rw[q]at e;cases e;exact⟨x',rfl,hy⟩
  | false=>rw[q]at e;exact sE k2 hr e
theorem Aj:∀{fs:List (Str×DV)} {gK:List (Str×V)},gK.map (·.1)=fs.map (·.1)->fs.lookup f=none->gK.lookup f=none
 | [],[],_,_=>rfl
 | [],_::_,hk,_=>by cases hk
 | (g,x)::r,[],hk,_=>by cases hk
 | (g,x)::r,(g',x')::r',hk,e=>by
  have DH:g'::r'.map (·.1)=g::r.map (·.1):=hk;injection DH with k1 k2
  subst k1;rw[abj]at e ⊢;cases q:(f == g') with
  | true=>rw[q]at e;cases e
  | false=>rw[q]at e;exact Aj k2 e
theorem Et{d:DV}{v:V}(hv:eF C F d v):∀{fs:List (Str×DV)} {gK:List (Str×V)},gK.map (·.1)=fs.map (·.1)->aO C F (fs.map (·.2)) (gK.map (·.2))->(iy f v gK).map (·.1)=(putD f d fs).map (·.1)/\aO C F ((putD f d fs).map (·.2)) ((iy f v gK).map (·.2))
 | [],[],_,_=>⟨rfl,aO.one hv⟩
 | [],_::_,hk,_=>by cases hk
 | (g,x)::r,[],hk,_=>by cases hk
 | (g,x)::r,(g',x')::r',hk,⟨y,ys,ey,hy,hr⟩=>by
  have DH:g'::r'.map (·.1)=g::r.map (·.1):=hk;have Xg:x'::r'.map (·.2)=y::ys:=ey;injection DH with k1 k2
  injection Xg with y1 y2
  subst k1 y1 y2;unfold iy putD
  by_cases h:g'=f
  .rw[aaO h,aaO h];exact⟨by show g'::_=g'::_;rw[k2],v,_,rfl,hv,hr⟩
  .rw[aaD h,aaD h];obtain⟨a1,a2⟩:=Et hv k2 hr;exact⟨by show g'::_=g'::_;rw[a1],x',_,rfl,hy,a2⟩
def S3(K:zn)(f:Str)(da:cZ):cZ:=fun Y W Q=>da Y W fun a W1=>∃ p k d fs v,a=.pt p/\W1 p=some (.ob k d fs)/\mP K k/\cM K k f/\fs.lookup f=some v/\Q v W1
instance [hk:lV C K][ia:LE C ta da]:LE C (My K ta f) (S3 K f da):=⟨fun D h k=>ia.go D h fun x dx H1 W1 D1 s1 v1 zz=>by
 obtain⟨p,kc,d,fs,v,e1,e2,c,n,l,q⟩:=zz
 subst e1;obtain⟨_,_,gK,g1,g2,g3⟩:=D1.ce p _ e2;obtain⟨u,l',hu⟩:=sE g2 g3 l;exact⟨p,kc,d,gK,u,v1,g1,c,n,l',k.mono s1 |>.now D1 hu q⟩⟩
noncomputable def Ak(K:zn)(f:Str)(da dv:cZ):j3:=fun De Y W=>dv Y W fun y W1=>da Y W1 fun a W2=>∃ p k d fs,a=.pt p/\W2 p=some (.ob k d fs)/\mP K k/\cM K k f/\fs.length < 1000/\De.nx Y (aG W2 p (.ob k d (putD f y fs)))
theorem len_eq{fs:List (Str×DV)}{gK:List (Str×V)}(h:gK.map (·.1)=fs.map (·.1)):gK.length=fs.length:=by have:=ab4 List.length h;simpa using this
theorem DR.S4{p k d:Addr}{fs:List (Str×DV)}{gK:List (Str×V)}{y:DV}{v:V}(D:DR C Z H Y W)(e:W p=some (.ob k d fs))(g2:gK.map (·.1)=fs.map (·.1))(g3:aO C (Fz C W H) (fs.map (·.2)) (gK.map (·.2)))(hv:eF C (Fz C W H) y v):DR C Z (upd H p (.ins k d (iy f v gK))) Y (aG W p (.ob k d (putD f y fs)))/\aQ (Fz C W H) (Fz C (aG W p (.ob k d (putD f y fs))) (upd H p (.ins k d (iy f v gK)))) :=
 D.Qa e rfl rfl fun s=>by
  obtain⟨a1,a2⟩:=Et (f:=f) hv g2 g3;exact⟨_,cv,a1,a2.mono s⟩
noncomputable instance [hk:lV C K][ia:LE C ta da][iv:LE C tv dv]:LS C (Mz K ta tv f) (Ak K f da dv):=⟨fun D h m=>iv.go D h fun y dy H1 W1 D1 s1 v1 h1=>ia.go D1 h1 fun x dx H2 W2 D2 s2 v2 zz=>by
 obtain⟨p,kc,d,fs,e1,e2,c,n,l,q⟩:=zz
 subst e1;obtain⟨_,_,gK,g1,g2,g3⟩:=D2.ce p _ e2;obtain⟨D3,s3⟩:=D2.S4 (f:=f) e2 g2 g3 (v1.mono s2);exact⟨p,kc,d,gK,v2,g1,c,n,by rw[len_eq g2];exact l,m.nx _ _ _ _ D3 ((s1.trans s2).trans s3) q⟩⟩
noncomputable def sF(K:zn)(f:Str)(dr:qy)(da dv:cZ):j3:=fun De Y W=>da Y W fun a W1=>∃ p k d fs v,a=.pt p/\W1 p=some (.ob k d fs)/\mP K k/\cM K k f/\fs.lookup f=some v /\
 dv Y W1 fun y W2=>dr v y W2 fun z W3=>∃ d' gK,W3 p=some (.ob k d' gK)/\gK.length < 1000/\De.nx Y (aG W3 p (.ob k d' (putD f z gK)))
noncomputable instance {rd:R2}{dr:qy}[hk:lV C K][ia:LE C ta da][iv:LE C tv dv][ir:Bt C rd dr]:LS C (rJ K ta tv rd f) (sF K f dr da dv):=⟨fun{Z H Y W De D'} D h m=>ia.go D h fun x dx H1 W1 D1 s1 v1 zz=>by
 obtain⟨p,kc,d,fs,v,e1,e2,c,n,l,q⟩:=zz
 subst e1;obtain⟨_,_,gK,g1,g2,g3⟩:=D1.ce p _ e2;obtain⟨u,l',hu⟩:=sE g2 g3 l;refine⟨p,kc,d,gK,u,v1,g1,c,n,l',iv.go D1 q fun y dy H2 W2 D2 s2 v2 q2=>?_⟩;refine ir.go (Qd:=fun z W3=>∃ d' gK,W3 p=some (.ob kc d' gK)/\gK.length < 1000/\De.nx Y (aG W3 p (.ob kc d' (putD f z gK)))) D2 (hu.mono s2) v2 q2 fun z dz H3 W3 D3 s3 v3 zz=>?_;obtain⟨d',fs2,e3,l3,q3⟩:=zz;obtain⟨_,_,fs3,k1,k2,k3⟩:=D3.ce p _ e3;obtain⟨D4,s4⟩:=D3.S4 (f:=f) e3 k2 k3 v3;exact⟨d',fs3,k1,by rw[len_eq k2];exact l3,m.nx _ _ _ _ D4 (((s1.trans s2).trans s3).trans s4) q3⟩⟩
def K6(kC:Addr)(m:Str)(g:List DV->Wd->DK->Prop)(da:cZ)(ds:mF):cZ:=fun Y W Q=>da Y W fun a W1=>∃ p d fs,a=.pt p/\W1 p=some (.ob kC d fs)/\fs.lookup m=none/\ds Y W1 fun vs W2=>g (a::vs) W2 Q
instance {sp:Sp}{E:XK}{g:List DV->Wd->DK->Prop}[ir:Ig C sp E g][ia:LE C ta da][is:LA C ts ds]:LE C (ur kC m sp [] E ta ts) (K6 kC m g da ds):=⟨fun D h k=>ia.go D h fun x dx H1 W1 D1 s1 v1 zz=>by
 obtain⟨p,d,fs,e1,e2,l,q⟩:=zz
 subst e1;obtain⟨_,_,gK,g1,g2,g3⟩:=D1.ce p _ e2;refine⟨p,d,gK,v1,g1,Aj g2 l,is.go D1 q fun xs aK H2 W2 D2 s2 v2 q2=>?_⟩;rw[acu];exact ir.go (as:=.pt p::aK) D2 ⟨x,xs,rfl,v1,v2⟩ q2 (k.mono (s1.trans s2))⟩
def K7(kC:Addr)(g:List DV->Wd->DK->Prop)(ds:mF):cZ:=fun Y W Q=>ds Y W fun vs W1=>∀ x d,W1 x=none->W1 d=none->d≠x->g (.pt x::vs) (aG W1 x (.ob kC d [])) fun v W2=>v=.im .none/\Q (.pt x) W2
instance {sp:Sp}{E:XK}{g:List DV->Wd->DK->Prop}[ir:Ig C sp E g][is:LA C ts ds]:LE C (C1 kC sp [] E ts) (K7 kC g ds):=⟨fun D h k=>is.go D h fun xs aK H1 W1 D1 s1 v1 q=>fun x d hx hd jx=>by
 rw[acu];obtain⟨D2,s2,_⟩:=D1.Cm hd (.own x);have Xh:upd H1 d (.own x) x=none:=by rw[bA (acD jx)];exact hx
 obtain⟨D3,s3⟩:=D2.Nu (c:=.ob kC d []) (o:=.ins kC d []) Xh rfl fun s=>⟨[],cv,rfl,rfl⟩;exact ir.go (as:=.pt x::aK) D3 ⟨_,_,rfl,rfl,v1.mono (s2.trans s3)⟩ (q x d (D1.fresh hx) (D1.fresh hd) jx) fun v dv H2 W2 D4 s4 hv zz=>by
  obtain⟨e,q2⟩:=zz
  subst e;exact⟨hv,k _ (.pt x) _ _ D4 (((s1.trans s2).trans s3).trans s4) rfl q2⟩⟩
end
structure jH(P:u8)(w:World)(K:zn)(mg:xL)(base:Heap)(k:Nat)(C:Addr)(m:Str)(f:Addr)(fd:wT)(ps:wv)(sp:Sp):Prop where
 cls:mP K C
 me:Meth K C m f
 ok:ba P w K mg base df k f fd ps sp
 b:Binds K fd ps []
structure Xi(P:u8)(w:World)(K:zn)(mg:xL)(base:Heap)(k:Nat)(C:Addr)(x:Str)(f:Addr)(fd:wT)(ps:wv)(sp:Sp):Prop where
 ma:Mk K C f
 ok:ba P w K mg base df k f fd ps sp
 b:Binds K fd ps []
 m:mg x=some (.ref C)
section
variable {X:Cx}{o e value:Expr}{es:v6}{x m f:Str}{C fa:Addr}{p pos pos' apos CY:Pos}{ta tv:TE}{t:TA}{k j:Nat}{fd:wT}{ps:wv}{sp:Sp}
theorem bC(he:SE X e ta)(hb:autoParam (attributeBase e f X.env (eval e X.env)=eval e X.env) ra0):SE X (.Attribute e f pos) (My X.K ta f):=⟨MA he.run hb⟩
theorem dq(ha:SE X o ta)(hv:SE X value tv)(hs:autoParam (swapsWith value (some (.Attribute o f pos')) pos.line X.env=pure false) ra0):SS X (.Assign [.Attribute o f pos'] value pos) (Mz X.K ta tv f):=⟨MB ha.run hv.run hs⟩
theorem oR{op:Operator}{rd:R2}(Vx:iP X (inplaceOp op) rd)(ha:SE X o ta)(hv:SE X value tv):SS X (.AugAssign (.Attribute o f CY) op value pos) (rJ X.K ta tv rd f):=⟨A2 ha.run hv.run fun pins s Z H x y u v Q I rx ry h=>Vx pins s Z H x y u v Q I rx ry h⟩
theorem fb{pl:Sem Bool}(D:jH X.prog X.w X.K X.mg X.base k C m fa fd ps sp)(hr:de j X.A)(he:SE X o ta)(ha:SA X (e::es) t)(hk:autoParam (k<=j) ra7)(hs:autoParam ((e::es).all noStar=true) ra0)(ht:eval (.Call (.Attribute o m apos) (e::es) [] pos) X.env=(do
   let ov <- eval o X.env
   standAt apos.atName
   let (f,first) <- holding [ov] (getMethod ov m pl)
   callWith pos f first (backTo pos (starEach (e::es) X.env)) (backToKw pos (keywordEach [] X.env))):=by rfl):SE X (.Call (.Attribute o m apos) (e::es) [] pos) (ur C m sp [] E0 ta t) :=
 ⟨Hj (pl:=pl) he.run D.cls D.me (D.ok.mono hk) hr D.b .nil zC ha.run (dh es X.env (by rw[abh,aaN]at hs;exact hs.1)) (gv (by rw[abh,aaN]at hs;exact hs.2)) ht⟩
theorem Al{pl:Sem Bool}(D:jH X.prog X.w X.K X.mg X.base k C m fa fd ps sp)(hr:de j X.A)(he:SE X o ta)(hk:autoParam (k<=j) ra7)(ht:eval (.Call (.Attribute o m apos) [] [] pos) X.env=(do
   let ov <- eval o X.env
   standAt apos.atName
   let (f,first) <- holding [ov] (getMethod ov m pl)
   callWith pos f first (backTo pos (starEach [] X.env)) (backToKw pos (keywordEach [] X.env))):=by rfl):SE X (.Call (.Attribute o m apos) [] [] pos) (ur C m sp [] E0 ta rK) :=
 ⟨C3 (pl:=pl) he.run D.cls D.me (D.ok.mono hk) hr D.b .nil zC ht⟩
theorem OE(D:Xi X.prog X.w X.K X.mg X.base k C x fa fd ps sp)(hr:de j X.A)(ha:SA X (e::es) t)(hk:autoParam (k+1<=j) ra7)(hs:autoParam ((e::es).all noStar=true) ra0)(hg:autoParam (Gl X x) ra0)(uu:autoParam ((x == ("__debug__":Str))=false) ra1) :
  SE X (.Call (.Name x p) (e::es) [] pos) (C1 C sp [] E0 t) :=
 ⟨Hk D.ma D.ok (hr.mono hk) hg D.m D.b .nil zC ha.run uu (dh es X.env (by rw[abh,aaN]at hs;exact hs.1)) (gv (by rw[abh,aaN]at hs;exact hs.2))⟩
end
section
variable {K:zn}{Y:bW}{W:Wd}{Q:DK}{De:hZ}{da dv:cZ}{ds:mF}{ts:List (PyData ⊕ Addr)}{f m:Str}{kC:Addr}{g:List DV->Wd->DK->Prop}{S:kZ}{v:DV}{vs:List DV}
theorem S5(h:da Y W fun a W1=>∃ p k d fs v,a=.pt p/\W1 p=some (.ob k d fs)/\mP K k/\cM K k f/\fs.lookup f=some v/\Q v W1):S3 K f da Y W Q:=h
theorem OF(h:da Y W fun a W1=>∃ p d fs,a=.pt p/\W1 p=some (.ob kC d fs)/\fs.lookup m=none/\ds Y W1 fun vs W2=>g (a::vs) W2 Q):K6 kC m g da ds Y W Q:=h
theorem OG(h:ds Y W fun vs W1=>∀ x d,W1 x=none->W1 d=none->d≠x->g (.pt x::vs) (aG W1 x (.ob kC d [])) fun v W2=>v=.im .none/\Q (.pt x) W2):K7 kC g ds Y W Q:=h
end
noncomputable def Eu(c:Cell):Prop:=∃ ds,c=.lst (ds.map .im)/\iF ds=true
noncomputable def IC:List (PyData ⊕ Addr)->Prop
 | []=>True
 | .inl d::r=>Im d=true/\IC r
 | .inr _::r=>IC r
noncomputable def Zz:DV->Prop
 | .im d=>Im d=true
 | .pt _=>True
 | .tp ts=>IC ts
 | _=>False
open Classical in
noncomputable def addW (W W':Wd):Wd:=fun a=>if ∃ c,W' a=some c/\Eu c then W' a else W a
noncomputable def ZA(S:kZ)(X:Addr->Prop):List DV->Wd->DK->Prop:=fun as W Q=>∃ ds,gx (dat 4 W) as=some ds/\S (ds.map .im) W0 (fun dv W'=>Zz dv/\((∀ a,W' a≠none->W a=none)->Q dv (addW W W'))) X
section
variable {C:DC}{Z:St}{H H':Hp}{Y:bW}{W W':Wd}{Qd:DK}{Q:VK}{F F':Hp}
theorem gY.tp(h:Tp F F'):∀{ts:List (PyData ⊕ Addr)} {vs:List V},IC ts->gY F ts vs->gY F' ts vs
 | [],_,_,h=>h
 | .inl _::_,_,hi,⟨y,ys,e,h1,r⟩=>⟨y,ys,e,Rep.tp h hi.1 h1,gY.tp h hi.2 r⟩
 | .inr _::_,_,hi,⟨ys,e,r⟩=>⟨ys,e,gY.tp h hi r⟩
theorem eF.tp{C':DC}(h:Tp F F'):∀{dv:DV} {x:V},Zz dv->eF C' F dv x->eF C F' dv x
 | .im _,_,hi,v=>Rep.tp h hi v
 | .pt _,_,_,v=>v
 | .tp _,_,hi,⟨a,vs,e,h1,r⟩=>⟨a,vs,e,h _ _ h1,r.tp h hi⟩
 | .cst _,_,hi,_=>hi.elim
 | .rf _,_,hi,_=>hi.elim
 | .ty _,_,hi,_=>hi.elim
 | .wJ _,_,hi,_=>hi.elim
 | .raw _,_,hi,_=>hi.elim
 | .lH _,_,hi,_=>hi.elim
theorem jW{a:Addr}{c:Cell}(h:addW W W' a=some c):(W' a=some c/\Eu c)\/W a=some c:=by
 unfold addW at h;split at h
 .rename_i z;obtain⟨c',e,hi⟩:=z;rw[e]at h;cases h;exact .inl ⟨e,hi⟩
 .exact .inr h
theorem BA{a:Addr}{c:Cell}(hW:∀ a,W' a≠none->W a=none)(h:W a=some c):addW W W' a=some c:=by
 unfold addW;split
 .rename_i z;obtain⟨c',e,hi⟩:=z;rw[hW a (by rw[e];exact fun z=>nomatch z)]at h;cases h
 .exact h
theorem Ew{K:zn}{S:kZ}{E:XK}(hK:C.K=K)(hX:∀ c H',X c->(∀ a o,C.H0 a=some o->¬ C.T a->H' a=some o)->E (.ref c) none H'){xs:List V}(R:DR C Z H Y W)(h:aO C (Fz C W H) as xs)(hd:ZA S X as W Qd)(k:KE C Z Y W H Qd Q):fY K S xs H Q E:=by
 obtain⟨ds,e,hS⟩:=hd;have ra:=hU (fun dv x d h e=>R.dat 4 h e) h e;have WD:aQ (hide (fun a=>C.O a\/fj (W a)) H) (Fz (wL K H W0 (fun a=>C.O a\/fj (W a)) E X) W0 H):=fun a o e=>by
  obtain⟨h1,h2⟩:=aD.mp e;exact aD.mpr ⟨fun z=>h1 (z.elim id fun z=>by cases z),h2⟩
 refine⟨fun a=>C.O a\/fj (W a),ds.map .im,W0,_,X,fun a ha=>?_,(fun p c e=>by cases e),aO.gZ (ay.same WD ra),hS,fun v dv H' W' q f1 f2 f3 hv=>?_,fun c H' hc f1=>hX c H' hc fun a o e ht=>f1 a o (R.fr a o e ht) rfl⟩
 .rcases ha with ha | ha
  .exact R.ho a ha
  .obtain⟨c,e⟩:=gO ha;exact R.there e
 .have s:aQ H H':=fun a o e=>f1 a o e rfl;have S2:∀ a,W' a≠none->W a=none:=fun a ha=>by
   cases q':W' a with
   | none=>exact absurd q' ha
   | some c =>
    rcases (f3 a c q').1 with g1 | g1
    .exact R.fresh g1
    .cases g1
  obtain⟨R1,s1⟩:=R.same s;have ZC:Tp (Fz (wL K H W0 (fun a=>C.O a\/fj (W a)) E X) W' H') (Fz C (addW W W') H'):=fun b zs e=>by
   obtain⟨h1,h2⟩:=aD.mp e;refine aD.mpr ⟨fun z=>?_,h2⟩;rcases z with z | z
   .exact h1 (.inl (.inl z))
   .cases q2:addW W W' b with
    | none=>rw[q2]at z;cases z
    | some c =>
     rcases jW q2 with⟨g,_⟩ | g
     .exact h1 (.inr (by rw[g];rfl))
     .obtain⟨u,e1,e2⟩:=(R1.ce b c g).2.2.mu R1.ok;rw[h2]at e1;cases e1;exact e2 zs rfl
  obtain⟨R',s'⟩:=R.step (W':=addW W W') (H':=H') (fun a z=>by
    cases q2:addW W W' a with
    | none=>rw[q2]at z;cases z
    | some c =>
     rcases jW q2 with⟨g,_⟩ | g
     .rcases (f3 a c g).1 with g1 | g1
      .exact .inr g1
      .cases g1
     .exact .inl (by rw[g];rfl)) (fun a o e _=>s a o e) f2 fun s2 p c e=>by
   rcases jW e with⟨g,es,rfl,hi⟩ | g
   .obtain⟨e1,e2,e3⟩:=f3 p _ g;have hp:H p=none:=by
     rcases e1 with e1 | e1
     .exact e1
     .cases e1
    obtain⟨ys,g1,g2⟩:=e3;exact⟨.inl (R.Ku hp),R.nO hp,ys,g1,aO.gZ (ay.tp ZC hi (g2.uN))⟩
   .obtain⟨e1,e2,e3⟩:=R.ce p c g;have hp:=iG s (R.there g);refine⟨e1,e2,?_⟩;cases c with
    | lst aK=>obtain⟨xs,e,r⟩:=e3;exact⟨xs,by rw[hp];exact e,r.mono s2⟩
    | part=>show Mu (H' p);rw[hp];exact e3
    | dk kvs=>obtain⟨ks,e,k,r⟩:=e3;exact⟨ks,by rw[hp];exact e,k,r.mono s2⟩
    | dt kvs=>obtain⟨ks,e,k,r⟩:=e3;exact⟨ks,by rw[hp];exact e,k,r.mono s2⟩
    | ob _ _ kvs=>obtain⟨ks,e,k,r⟩:=e3;exact⟨ks,by rw[hp];exact e,k,r.mono s2⟩
    | aI t n =>
     obtain⟨r,eg,u⟩:=e3;refine⟨R.ok.rs r hp (iG s (R.there eg)),BA S2 eg,fun t' g' n' z=>?_⟩;rcases jW z with⟨_,_,z2,_⟩ | z2
     .cases z2
     .exact u t' g' n' z2
  exact k v dv H' _ R' s' (hv.tp ZC q.1) (q.2 S2)
noncomputable def UN(S:kZ)(X:Addr->Prop):List DV->Wd->DK->Prop:=fun as W Q=>dW S X as W Q\/ZA S X as W Q
theorem Ex{K:zn}{S:kZ}{E:XK}(hK:C.K=K)(hX:∀ c H',X c->(∀ a o,C.H0 a=some o->¬ C.T a->H' a=some o)->E (.ref c) none H'){xs:List V}(R:DR C Z H Y W)(h:aO C (Fz C W H) as xs)(hd:UN S X as W Qd)(k:KE C Z Y W H Qd Q):fY K S xs H Q E :=
 hd.elim (fun z=>Es hK hX R h z k) (fun z=>Ew hK hX R h z k)
noncomputable instance {K:zn}[hk:lV C K]{S:kZ}:Ig C (fY K S) E0 (UN S fun _=>False):=⟨fun R h hd k=>Ex hk.eq (fun c H' hc _=>hc.elim) R h hd k⟩
end
section
variable {W:Wd}{Q:DK}{S:kZ}{vs:List DV}{ds:wE}
theorem ID(D:Addr->Prop)(hp:∀ a c,D a->W a=some c->c.plain=true)(h:S vs (pM W D) (fun dv W'=>(∀ a,W' a≠none->D a\/W a=none)->Q dv (Bz W D W')) X):UN S X vs W Q:=.inl ⟨D,hp,h⟩
end
end L2
namespace L2
open PySem PySem.Spec PyProof.Rows
end L2
namespace L2
open PySem PySem.Spec PyProof.Rows
variable {J:Type}{a:Addr}{x:Addr×Cell}{xs:Array Nat}{es:Array (Int×Value)}
abbrev Ws:=List (Addr×Cell)
structure At(W:Wd)(L:Ws):Prop where
 nd:(L.map (·.1)).Nodup
 at_:∀ x∈L,W x.1=some x.2
def PlainL(L:Ws):Bool:=L.all fun x=>x.2.plain
theorem BB{l:List J}{a:J}(h:l.Nodup)(ha:a ∉ l)(i:Nat):(l.set i a).Nodup:=by
 have pw:=acf.mp h;refine acf.mpr fun j k hj hk hl=>?_;rw[adR,adR];rw[adV]at hj hk;split
 .split
  .omega
  .exact fun z=>ha (z▸abY _)
 .split
  .exact fun z=>ha (z▸abY _)
  .exact pw j k hj hk hl
section
variable {W W':Wd}{L L':Ws}{c c':Cell}{i:Nat}
theorem At.get(h:At W L)(i:Nat)(e:L[i]?=some (a,c)):W a=some c:=h.at_ _ (abQ e)
theorem At.key(h:At W L)(i:Nat)(e:L[i]?=some (a,c)){j:Nat}(ej:L[j]?=some x)(ne:i≠j):x.1≠a:=fun z=>by
 have hi:=(aaH.mp e).1;have hj:=(aaH.mp ej).1;have e1:(L.map (·.1))[i]'(by simpa using hi)=a:=by rw[ac9,(aaH.mp e).2]
 have e2:(L.map (·.1))[j]'(by simpa using hj)=a:=by rw[ac9,(aaH.mp ej).2];exact z
 have pw:=acf.mp h.nd;rcases Nat.lt_or_gt_of_ne ne with l | l
 .exact pw i j (by simpa using hi) (by simpa using hj) l (e1.trans e2.symm)
 .exact pw j i (by simpa using hj) (by simpa using hi) l (e2.trans e1.symm)
theorem Ey(e:L[i]?=some (a,c)):(L.set i (a,c')).map (·.1)=L.map (·.1):=by
 rw[ad1];have hi:=(aaH.mp e).1;have e1:(L.map (·.1))[i]'(by simpa using hi)=a:=by rw[ac9,(aaH.mp e).2]
 exact adS @2 fun j h1 h2=>by
  rw[adR];split
  .rename_i z;subst z;exact e1.symm
  .rfl
theorem At.iB(h:At W L)(i:Nat)(e:L[i]?=some (a,c))(f:Fr a W W')(w:W' a=some c'):At W' (L.set i (a,c')):=by
 refine⟨by rw[Ey e];exact h.nd,fun x hx=>?_⟩;obtain⟨j,hj⟩:=List.getElem?_of_mem hx;rw[List.getElem?_set]at hj;split at hj
 .split at hj
  .cases hj;exact w
  .cases hj
 .rename_i ne;exact f.at (h.key i e hj ne) (h.at_ _ (abQ hj))
theorem At.set(h:At W L)(i:Nat)(e:L[i]?=some (a,c)):At (aG W a c') (L.set i (a,c')):=h.iB i e (fun b hb=>aB hb) av
theorem At.old(h:At W L)(hn:W a=none)(hx:x∈L):x.1≠a:=fun z=>by
 have:=h.at_ x hx;rw[z,hn]at this;cases this
theorem At.mono(h:At W L)(k:∀ x∈L,W x.1=some x.2->W' x.1=some x.2):At W' L:=⟨h.nd,fun x hx=>k x hx (h.at_ x hx)⟩
theorem At.cons(h:At W L)(hn:W a=none)(f:Fr a W W')(w:W' a=some c):At W' ((a,c)::L) :=
 ⟨acw.mpr ⟨fun z=>by obtain⟨x,hx,e⟩:=abe.mp z;exact h.old hn hx e,h.nd⟩,fun x hx=>by
  rcases aaA.mp hx with z | z
  .subst z;exact w
  .exact f.at (h.old hn z) (h.at_ x z)⟩
theorem At.sub(h:At W L)(s:L'.Sublist L):At W L':=⟨h.nd.sublist (s.map _),fun x hx=>h.at_ x (s.subset hx)⟩
theorem At.perm(h:At W L)(s:L.Perm L'):At W L':=⟨(s.map _).nodup h.nd,fun x hx=>h.at_ x (s.mem_iff.mpr hx)⟩
theorem At.swap(h:At W L)(i:Nat)(hn:W a=none)(f:Fr a W W')(w:W' a=some c):At W' (L.set i (a,c)):=by
 refine⟨?_,fun x hx=>?_⟩
 .rw[ad1];have hna:a ∉ L.map (·.1):=fun z=>by obtain⟨x,hx,e⟩:=abe.mp z;exact h.old hn hx e
  exact BB h.nd hna i
 .rcases adA hx with z | z
  .exact f.at (h.old hn z) (h.at_ x z)
  .subst z;exact w
theorem At.pM(h:At W L):At (pM W fun z=>z∈L.map (·.1)) L:=h.mono fun x hx e=>(OC (D:=fun z=>z∈L.map (·.1)) (abe.mpr ⟨x,hx,rfl⟩)).trans e
theorem qJ(h:PlainL L=true)(hx:x∈L):x.2.plain=true:=abH.mp h x hx
end
section
variable {W:Wd}{Q:DK}{S:kZ}{X:Addr->Prop}{vs:List DV}{L:Ws}
theorem cD(h:At W L)(oo:PlainL L=true)(k:∀(W1:Wd) (R:DV->Wd->Prop),At W1 L->(∀ dv W',(∀ W2,(∀ L',At W' L'->PlainL L'=true->At W2 L')->(∀ a c,a ∉ L.map (·.1)->W a=some c->W2 a=some c)->Q dv W2)->R dv W')->S vs W1 R X):UN S X vs W Q:=by
 refine ID (fun z=>z∈L.map (·.1)) (fun a c ha e=>?_) (k _ _ h.pM fun dv W' g hW=>?_)
 .obtain⟨x,hx,rfl⟩:=abe.mp ha;have:=h.at_ x hx;rw[e]at this;rw[abb this];exact qJ oo hx
 .exact g _ (fun L' hL hp=>hL.mono fun x hx e=>OD e (qJ hp hx)) fun a c ha e=>vb hW ha e
structure gH(K:zn)(k:Addr)(fs:wv):Prop where
 c:mP K k
 n:∀ f,f∈fs->cM K k f
variable {K:zn}{k p d:Addr}{fs:List (Str×DV)}{ns:wv}{f m:Str}{v:DV}{i:Nat}
theorem OH{B:DV->Prop}(h:At W L)(c:gH K k ns)(i:Nat)(e:L[i]?=some (p,.ob k d fs))(n:f∈ns)(l:fs.lookup f=some v)(hq:B v):∃ p' k d fs v,DV.pt p=.pt p'/\W p'=some (.ob k d fs)/\mP K k/\cM K k f/\fs.lookup f=some v/\B v:=⟨p,k,d,fs,v,rfl,h.get i e,c.c,c.n f n,l,hq⟩
theorem sG{Pr:Wd->Prop}(h:At W L)(c:gH K k ns)(i:Nat)(e:L[i]?=some (p,.ob k d fs))(n:f∈ns)(hl:fs.length < 1000)(hq:∀ W',At W' (L.set i (p,.ob k d (putD f v fs)))->Fr p W W'->Pr W'):∃ p' k d fs,DV.pt p=.pt p'/\W p'=some (.ob k d fs)/\mP K k/\cM K k f/\fs.length < 1000/\Pr (aG W p' (.ob k d (putD f v fs))) :=
 ⟨p,k,d,fs,rfl,h.get i e,c.c,c.n f n,hl,hq _ (h.set i e) fun b hb=>aB hb⟩
theorem IE{kC:Addr}{Pr:Prop}(h:At W L)(i:Nat)(e:L[i]?=some (p,.ob kC d fs))(l:fs.lookup m=none)(hq:Pr):∃ p' d fs,DV.pt p=.pt p'/\W p'=some (.ob kC d fs)/\fs.lookup m=none/\Pr:=⟨p,d,fs,rfl,h.get i e,l,hq⟩
end
section
variable {K:zn}{f:Str}{da dv:cZ}{dr:qy}{Y:bW}{W:Wd}{r:j3}{nx ct bk:bW->Wd->Prop}{rt:DV->Wd->Prop}
theorem OI(h:Ak K f da dv ⟨r ⟨nx,rt,bk,ct⟩,rt,bk,ct⟩ Y W):j4 (Ak K f da dv) r ⟨nx,rt,bk,ct⟩ Y W:=h
theorem IF(h:sF K f dr da dv ⟨r ⟨nx,rt,bk,ct⟩,rt,bk,ct⟩ Y W):j4 (sF K f dr da dv) r ⟨nx,rt,bk,ct⟩ Y W:=h
theorem IG(h:dv Y W fun y W1=>da Y W1 fun a W2=>∃ p k d fs,a=.pt p/\W2 p=some (.ob k d fs)/\mP K k/\cM K k f/\fs.length < 1000/\nx Y (aG W2 p (.ob k d (putD f y fs)))):Ak K f da dv ⟨nx,rt,bk,ct⟩ Y W:=h
theorem Ez(h:da Y W fun a W1=>∃ p k d fs v,a=.pt p/\W1 p=some (.ob k d fs)/\mP K k/\cM K k f/\fs.lookup f=some v /\
 dv Y W1 fun y W2=>dr v y W2 fun z W3=>∃ d' gK,W3 p=some (.ob k d' gK)/\gK.length < 1000/\nx Y (aG W3 p (.ob k d' (putD f z gK)))):sF K f dr da dv ⟨nx,rt,bk,ct⟩ Y W:=h
end
section
variable {W:Wd}{Q:DK}{Y:bW}{ds:wE}{g:sq}{c:nF}{b:j3}{nx bk ct:bW->Wd->Prop}{rt:DV->Wd->Prop}
theorem gn{kp:Wd->Prop}{e:cZ}(Pv:Nat->List DV->Wd->Prop)(hk:ds.length<=sizeLine)(h0:Pv 0 [] W)(hkp:∀ i ys W,Pv i ys W->kp W)(hs:∀ i d ys W,ds[i]?=some d->ys.length<=i->Pv i ys W->g (.im d) Y W fun jE W2=>c jE W2 fun b W3=>if b=true then e jE W3 fun y W4=>Pv (i+1) (ys++[y]) W4 else Pv (i+1) ys W3)(hd:∀ ys W,Pv ds.length ys W->iW ys W Q) :
  uS ⟨ds.map .im,kp⟩ g c e Y W Q:=by
 refine⟨by simpa using hk,Pv,h0,hkp,fun i v ys W e hl p=>?_,fun ys W q=>hd ys W (by simpa using q)⟩;rw[aaz]at e;cases q:ds[i]? with
 | none=>rw[q]at e;cases e
 | some d=>rw[q]at e;cases e;exact hs i d ys W q hl p
end
theorem kA:∀{us:wf} {ns:wn},IntsAre us ns->Vals (ns.map V.int) us
 | _,_,.nil=>.nil
 | _,_,.cons n t r=>.cons ⟨t,rfl⟩ (kA r)
theorem oS{C:DC}{F:Hp}:∀{ns:wn} {xs:List V},aO C F (ns.map fun i=>.im (.int i)) xs↔xs=ns.map V.int
 | [],xs=>Iff.rfl
 | n::ns,xs=>by
  constructor
  .rintro⟨y,ys,rfl,h,r⟩;rw[oS.mp r];cases (show y=V.int n from h);rfl
  .rintro rfl;exact⟨_,_,rfl,rfl,oS.mpr rfl⟩
namespace St
theorem qK:Slot "set" "__iter__" "set.__iter__":=PySem.F.slot_set_iter
theorem xZ:entryFor table "set.__iter__"=some Builtin.«frozenset.__iter__» :=
 entryFor_alias (id' := "frozenset.__iter__") (by kernel_rfl) rfl (by decide +kernel) (by kernel_rfl)
theorem slot_next:Slot "set_iterator" "__next__" "set_iterator.__next__" :=
 .of (owner := "set_iterator") (n := "__next__") (by rw[typeLookup_type,builtinLookup_eq_fast];kernel_rfl) (by decide +kernel) (by decide +kernel) (by decide +kernel)
  (by first | exact .inl (by decide +kernel) | exact .inr (by decide +kernel)) (by rw[isSubtype_type];kernel_rfl)
theorem entry_next:entryFor table "set_iterator.__next__"=some Builtin.«set_iterator.__next__»:=entryFor_of_tree (by kernel_rfl)
theorem vc:Manifest.owners.lookup (String.ofList ['r','o','t','a','r','e','t','i','_','t','e','s'].reverse)=some Manifest.sig_set_iterator:=by kernel_rfl
theorem args_next(a:Value):argsOk "set_iterator.__next__" ⟨[a],[]⟩:=by
 unfold argsOk;rw[signature?_of (id := "set_iterator.__next__") (n:=['_','_','t','x','e','n','_','_']) (o:=['r','o','t','a','r','e','t','i','_','t','e','s']) (by kernel_rfl) vc];kernel_rfl
theorem slot_self:Slot "set_iterator" "__iter__" "set_iterator.__iter__" :=
 .of (owner := "set_iterator") (n := "__iter__") (by rw[typeLookup_type,builtinLookup_eq_fast];kernel_rfl) (by decide +kernel) (by decide +kernel) (by decide +kernel)
  (by first | exact .inl (by decide +kernel) | exact .inr (by decide +kernel)) (by rw[isSubtype_type];kernel_rfl)
theorem entry_self:entryFor table "set_iterator.__iter__"=some Builtin.«dict_keyiterator.__iter__» :=
 entryFor_alias (id' := "dict_keyiterator.__iter__") (by kernel_rfl) rfl (by decide +kernel) (by kernel_rfl)
theorem args_self(a:Value):argsOk "set_iterator.__iter__" ⟨[a],[]⟩:=by
 unfold argsOk;rw[signature?_of (id := "set_iterator.__iter__") (n:=['_','_','r','e','t','i','_','_']) (o:=['r','o','t','a','r','e','t','i','_','t','e','s']) (by kernel_rfl) vc];kernel_rfl
end St
def OJ(es:Array (Int×Value))(t:SetTable):Bool:=!t.plain&&es.size > 1
def cP(xs:Array Nat):Prop:=∀ i j (hi:i < xs.size) (hj:j < xs.size),i < j->xs[i] < xs[j]
theorem oT(xs:Array Nat)(j:Nat)(hr:cP xs):∀(fuel lo hi:Nat),lo<=hi->hi<=xs.size->hi - lo<=fuel->(∀ k (hk:k < xs.size),k < lo->xs[k] < j)->(∀ k (hk:k < xs.size),hi<=k->j<=xs[k]) ->
  SetTable.below.go xs j fuel lo hi<=xs.size/\(∀ k (hk:k < xs.size),k < SetTable.below.go xs j fuel lo hi->xs[k] < j)/\∀ k (hk:k < xs.size),SetTable.below.go xs j fuel lo hi<=k->j<=xs[k]
 | 0,lo,hi,h1,h2,h3,h4,h5=>by
  have:lo=hi:=by omega
  subst this;unfold SetTable.below.go;exact⟨h2,h4,h5⟩
 | fuel+1,lo,hi,h1,h2,h3,h4,h5=>by
  unfold SetTable.below.go
  by_cases h:lo < hi
  .rw[aaO h];have hm:(lo+hi) / 2 < xs.size:=by omega
   have e:xs.getD ((lo+hi) / 2) j=xs[(lo+hi) / 2]:=by simp[Array.getD,hm]
   dsimp only;rw[e]
   by_cases hx:xs[(lo+hi) / 2] < j
   .rw[aaO hx];refine oT xs j hr fuel _ _ @0 h2 @0 (fun k hk hl=>?_) h5
    by_cases OK:k=(lo+hi) / 2
    .subst OK;exact hx
    .exact Nat.lt_trans (hr k _ hk hm @0) hx
   .rw[aaD hx];refine oT xs j hr fuel _ _ @0 @0 @0 h4 fun k hk hl=>?_
    by_cases OK:k=(lo+hi) / 2
    .subst OK;omega
    .have:=hr _ k hm hk @0;omega
  .rw[aaD h];have:lo=hi:=by omega
   subst this;exact⟨h2,h4,h5⟩
theorem jk(j:Nat)(hr:cP xs):SetTable.below xs j<=xs.size/\(∀ k (hk:k < xs.size),k < SetTable.below xs j->xs[k] < j)/\∀ k (hk:k < xs.size),SetTable.below xs j<=k->j<=xs[k]:=by
 unfold SetTable.below;exact oT xs j hr _ _ _ (aaY _) (aaC _) @0 (fun k _ h=>absurd h (Nat.not_lt_zero _)) fun k hk h=>absurd hk @0
theorem x8(hr:cP xs):SetTable.below xs 0=0:=by
 obtain⟨h1,h2,_⟩:=jk 0 hr;rcases Nat.eq_zero_or_pos (SetTable.below xs 0)with h | h
 .exact h
 .exact absurd (h2 0 @0 h) (Nat.not_lt_zero _)
theorem x9(hr:cP xs){i:Nat}(hi:i < xs.size):SetTable.below xs (xs[i]+1)=i+1:=by
 obtain⟨h1,h2,h3⟩:=jk (xs[i]+1) hr;rcases Nat.lt_trichotomy (SetTable.below xs (xs[i]+1)) (i+1)with h | h | h
 .have:=h3 i hi @0;omega
 .exact h
 .have ha:=h2 (i+1) @0 h;have hb:=hr i (i+1) hi @0 @0;omega
theorem kB{J:Type}:∀{l:List J} {i:Nat} (h:i < l.length),(l[i]::l.eraseIdx i).Perm l
 | x::r,0,_=>ac2 _
 | x::r,i+1,h=>by
  rw[List.getElem_cons_succ,List.eraseIdx_cons_succ];exact(List.Perm.swap ..).trans ((kB (Nat.lt_of_succ_lt_succ h)).cons _)
theorem Am{J:Type}(next:Nat->Nat):∀(fuel k:Nat) (left:List J) (out:Array J),left.length<=fuel->(pickOrder.go next fuel k left out).toList.Perm (out.toList++left)
 | 0,k,left,out,h=>by
  have:left=[]:=ab0.mp @0;subst this;unfold pickOrder.go;simp
 | fuel+1,k,left,out,h=>by
  unfold pickOrder.go;cases hl:left with
  | nil=>simp
  | cons x r =>
   rw[<- hl];have hp:0 < left.length:=by rw[hl];simp
   have hi:next k % left.length < left.length:=Nat.mod_lt _ hp
   rw[aaT hi];dsimp only;have ih:=Am next fuel (k+1) (left.eraseIdx (next k % left.length)) (out.push left[next k % left.length]) (by rw[List.length_eraseIdx];split<;>omega)
   refine ih.trans ?_;rw[Array.toList_push,acB];refine List.Perm.append_left _ ?_;exact kB hi
theorem oU(next:Nat->Nat)(xs:Array J):(pickOrder next xs).toList.Perm xs.toList:=by
 have:=Am next xs.size 0 xs.toList #[] @2
 simpa [pickOrder] using this
section
variable {prog:u8}{w:World}{A:tx}{E:xz}{s:Shared}
theorem wp_choose{src:Source}{n:Nat}{Q:Nat->Shared->Prop}(hn:n≠0)(h:∀ k,k < n->Q k { s with drawn:=s.drawn.bump src }):wpAny (model prog w) A (choose src n) Q E s:=fun _ _ _ =>
 ⟨hn,h _ (Nat.mod_lt _ (Nat.pos_of_ne_zero hn))⟩
theorem lg{J:Type}:∀(n:Nat) (xs:List J) (s:Shared) {Q:List J->Shared->Prop},n=xs.length->(∀ ys d,ys.Perm xs->Q ys { s with drawn:=d })->wpAny (model prog w) A (drawOrder n xs) Q E s
 | 0,xs,s,Q,hn,h=>by
  have:xs=[]:=ab0.mp hn.symm;subst this;exact aay (h [] s.drawn (ac2 _))
 | n+1,[],s,Q,hn,h=>by simp at hn
 | n+1,x::r,s,Q,hn,h=>by
  unfold drawOrder;refine aaw (wp_choose @2 fun k hk=>?_);rw[aaT hk];dsimp only;refine aaw (lg n _ _ (by rw[List.length_eraseIdx,aaO hk];simp at hn ⊢;omega) fun ys d hp=>aay ?_);refine h _ d ?_;exact(hp.cons _).trans (kB hk)
theorem l4{Q:Bool->Shared->Prop}(h:Q (w.params.followText "set-order") s):wpAny (model prog w) A setsByText Q E s:=by
 unfold setsByText;exact aaw (wpAny_askSetting (aay h))
end
structure eR(bt:Bool)(h:Heap)(a:Addr)(es:Array (Int×Value))(ep:Nat)(t:SetTable):Prop where
 ob:∃ o,h.get? a=some o/\o.ExactSet/\o.data=.set es ep t
 fits:t.fits es.size=true
 led:t.led=!bt
 up:cP t.place
theorem eR.keep{bt:Bool}{h h':Heap}{ep:Nat}{t:SetTable}(x:eR bt h a es ep t)(k:∀ o,h.get? a=some o->h'.get? a=some o):eR bt h' a es ep t :=
 ⟨let ⟨o,ho,r⟩:=x.ob;⟨o,k o ho,r⟩,x.fits,x.led,x.up⟩
theorem eR.sz{bt:Bool}{h:Heap}{ep:Nat}{t:SetTable}(x:eR bt h a es ep t):t.place.size=es.size:=by
 have:=x.fits;simp only[SetTable.fits,aaN,acp]at this;exact this.1
theorem eR.typeIs{bt:Bool}{s:Shared}{ep:Nat}{t:SetTable}(x:eR bt s.heap a es ep t):s.TypeIs (.ref a) "set":=let ⟨o,ho,r,_⟩:=x.ob;⟨o,ho,r.1⟩
end L2
namespace L2
open PySem PySem.Spec PyProof.Rows
variable {prog:u8}{w:World}{A:tx}{E Q:xz}{s:Shared}{I a:Addr}{es:Array (Int×Value)}{ep:Nat}{ord:List (Int×Value)}{h h':Heap}{ns:wn}{C:DC}
def Mode(w:World)(h:Heap)(a tp:Addr)(es:Array (Int×Value))(ep:Nat)(t:SetTable)(ord:List (Int×Value))(i:Nat)(first:Value):Prop :=
 (w.params.followText "set-order"=true/\first=.int 0 0/\ord=(pickOrder (w.params.setOrder a ep) es).toList) \/
 (w.params.followText "set-order"=false/\OJ es t=false/\ord=es.toList/\∃ slot:Nat,first=.int slot 0/\SetTable.below t.place slot=i) \/
 (w.params.followText "set-order"=false/\∃(ps:List Nat) (c:Nat),first=.ref tp/\h.get? tp=some (seqObj "tuple" (ps.map fun(n:Nat)=>rawInt n).toArray c)/\ps.map (fun k=>es[k]?)=ord.map some)
structure fN(w:World)(h:Heap)(I a tp:Addr)(es:Array (Int×Value))(ep:Nat)(t:SetTable)(ord:List (Int×Value))(i:Nat):Prop where
 so:eR (w.params.followText "set-order") h a es ep t
 it:∃ o first,h.get? I=some o/\o.cls=.type "set_iterator"/\o.data=.fields #[first,.int i 0,.ref a,.int es.size 0,.int ep 0]/\Mode w h a tp es ep t ord i first
 ne:a≠I/\tp≠I
 pm:ord.Perm es.toList
theorem fN.typeIs{tp:Addr}{i:Nat}{t:SetTable}(x:fN w s.heap I a tp es ep t ord i):s.TypeIs (.ref I) "set_iterator":=let ⟨o,_,ho,hc,_⟩:=x.it;⟨o,ho,hc⟩
theorem Mode.keep{tp:Addr}{i:Nat}{t:SetTable}{f:Value}(x:Mode w h a tp es ep t ord i f)(k:∀ o,h.get? tp=some o->h'.get? tp=some o):Mode w h' a tp es ep t ord i f:=by
 rcases x with x | x | ⟨b,ps,c,e1,e2,e3⟩
 .exact .inl x
 .exact .inr (.inl x)
 .exact .inr (.inr ⟨b,ps,c,e1,k _ e2,e3⟩)
theorem gy{bt:Bool}{t:SetTable}{Q:(Array (Int×Value)×Nat×SetTable)->Shared->Prop}(x:eR bt s.heap a es ep t)(h:Q (es,ep,t) s):wpAny (model prog w) A (setState a) Q E s :=
 let ⟨_,ho,_,hd⟩:=x.ob;wpAny_setState_of ho hd x.fits h
theorem ya{t:SetTable}{Q:Array (Int×Value)->Shared->Prop}(x:eR (w.params.followText "set-order") s.heap a es ep t)(hb:w.params.followText "set-order"=true)(hQ:Q (pickOrder (w.params.setOrder a ep) es) s):wpAny (model prog w) A (setWalk a) Q E s:=by
 unfold setWalk;refine aaw (gy x (aaw (l4 (abN (fun _=>aaw (wpAny_askSetting (aay hQ))) fun z=>absurd hb z))))
theorem oV{I tp:Addr}{i:Nat}{t:SetTable}{n:Nat}{Q:Option (Value×Nat)->Shared->Prop}(x:eR (w.params.followText "set-order") s.heap a es ep t)(hm:Mode w s.heap a tp es ep t ord i (.int n 0))(hQ:∀ m:Nat,(∀ e,ord[i]?=some e->Mode w s.heap a tp es ep t ord (i+1) (.int m 0))->Q (ord[i]?.map fun e=>(e.2,m)) s):wpAny (model prog w) A (setNext a n i ep) Q E s:=by
 unfold setNext;refine aaw (gy x (aaw (l4 ?_)));rcases hm with⟨hb,hf,kO⟩ | ⟨hb,UO,kO,slot,hf,HP⟩ | ⟨hb,ps,c,hf,OL,EA⟩
 .cases hf;refine abN (fun _=>?_) fun z=>absurd hb z;refine abN (fun z=>absurd z @2) fun _=>aaw (ya x hb (aay ?_));have:=hQ 0 fun e he=>.inl ⟨hb,rfl,kO⟩;rw[kO,ab9]at this;exact this
 .have hn:slot=n:=by have:=(Value.int.inj hf).1;omega
  subst hn;refine abN (fun z=>by rw[hb]at z;cases z) fun _=>abN (fun z=>absurd (show OJ es t=true from z) (by rw[UO];decide)) fun _=>?_;refine aaw ?_
  wp_delta
  refine abN (fun z=>absurd z (by rw[x.led,hb];simp)) fun _=>aay ?_;dsimp only;rw[HP]
  by_cases iM:i < es.size
  .have hp:i < t.place.size:=by rw[x.sz];exact iM
   rw[abE iM,abE hp];have e1:ord[i]?=some es[i]:=by rw[kO,ab9,abE iM]
   have:=hQ (t.place[i]+1) fun e he=>.inr (.inl ⟨hb,UO,kO,_,rfl,x9 x.up hp⟩);rw[e1]at this;exact aay this
  .rw[Array.getElem?_eq_none @0];have e1:ord[i]?=none:=by rw[kO,ab9,Array.getElem?_eq_none @0]
   have:=hQ 0 fun e he=>by rw[e1]at he;cases he
   rw[e1]at this;exact aay this
 .cases hf
theorem next_item{tp:Addr}{i:Nat}{t:SetTable}{e:Int×Value}{Q:wP->Shared->Prop}(x:fN w s.heap I a tp es ep t ord i)(hi:ord[i]?=some e)(hQ:∀ h',fN w h' I a tp es ep t ord (i+1)->Heap.SameBut I s.heap h'->Q (some e.2) { s with heap:=h' }):wpAny (model prog w) A (pyNext (.ref I)) Q E s:=by
 obtain⟨o,first,ho,hc,hd,hm⟩:=x.it;have key:∀(h':Heap) (o':Obj) (f':Value),Heap.SameBut I s.heap h'->h'.get? I=some o'->o'.cls=.type "set_iterator"->o'.data=.fields #[f',.int ((i+1:Nat):Int) 0,.ref a,.int es.size 0,.int ep 0]->Mode w s.heap a tp es ep t ord (i+1) f'->fN w h' I a tp es ep t ord (i+1) :=
  fun h' o' f' sb h1 h2 h3 h4=>⟨x.so.keep fun o e=>sb.extBut a o x.ne.1 e,⟨o',f',h1,h2,h3,h4.keep fun o e=>sb.extBut tp o x.ne.2 e⟩,x.ne,x.pm⟩
 unfold pyNext;refine aaw (adP (abr (name:=Str.ofString "__next__") x.typeIs St.slot_next
  (abx St.slot_next x.typeIs St.entry_next ?_ (St.args_next _))))
 unfold Builtin.«set_iterator.__next__»;refine aaw (aay ?_);refine aaw (wpAny_fieldsOf ho hd ?_);dsimp only;unfold setEntries;refine aaw (aaw (gy x.so (aay ?_)));rw[aaD @2];have EB:∀ n:Nat,first=.int n 0->wpAny (model prog w) A.in1 (do
    let bu <- setNext a (Int.toNat n) (Int.toNat i) (Int.toNat ep)
    match bu with
     | some (x,next)=>do
      setField (Value.ref I) 0 (rawInt ↑next)
      setField (Value.ref I) 1 (rawInt (↑i+1))
      ret x
     | none=>do
      setField (Value.ref I) 2 Value.none
      let bu <- newExc (Value.type "StopIteration") []
      raiseNew bu)
   (fun fin s'=>∃ v,fin=PySem.Fin.done (Flow.ret v)/\wpAny (model prog w) A (pure (some v)) Q E s')
   (fun e s'=>wpAny (model prog w) A (do
     let bu <- isInstance e (Value.type "StopIteration")
     if bu=true then pure none else throw e) Q E s') s:=by
  rintro n rfl;rw[abi,abi,abi];refine aaw (oV (I:=I) x.so hm fun m K8=>?_);rw[hi];dsimp only[Option.map];refine aaw (ace ho hd @2 ?_);have g1:(s.heap.update I (Obj.mapFields (·.setIfInBounds 0 (rawInt (m:Int))))).get? I=some _:=abq _ ho (aca (abo hd _));refine aaw (ace g1 (abo hd _) @2 ?_);refine aay ⟨_,rfl,aay (hQ _ (key _ _ (.int m 0) ?_ (abq _ g1 (aca (abo (abo hd _) _))) ?_ ?_ (K8 e hi)) ?_)⟩
  .exact(abd ..).trans (abd ..)
  .exact(ac0 ..).trans ((ac0 ..).trans hc)
  .rw[abo (abo hd _)];simp[rawInt]
  .exact(abd ..).trans (abd ..)
 rcases id hm with⟨hb,hf,kO⟩ | ⟨hb,UO,kO,slot,hf,HP⟩ | ⟨hb,ps,c,hf,OL,EA⟩
 .rw[hf];exact EB 0 hf
 .rw[hf];exact EB slot hf
 .subst hf;dsimp only;have ls:=ab4 List.length EA;rw[aav,aav]at ls;have iM:=(aaH.mp hi).1;have Xj:i < ps.length:=by omega
  have he:es[ps[i]]?=some e:=by
   have h1:(ps.map fun k=>es[k]?)[i]?=(ord.map some)[i]?:=by rw[EA]
   rw[aaz,aaz,hi,aaT Xj]at h1;simpa using h1
  unfold seqItems?;refine aaw (aaw (wpAny_load OL (aay ?_)));dsimp only;rw[abi];rw[show(ps.map fun(n:Nat)=>rawInt (n:Int)).toArray[i]?=some (rawInt (ps[i]:Int)) by simp[Xj]];dsimp only[rawInt];unfold setNextDrawn;refine aaw (aaw (gy x.so ?_));dsimp only;rw[aaD @2,abi,he];refine aay ?_;refine aaw (ace ho hd @2 ?_);refine aay ⟨_,rfl,aay (hQ _ (key _ _ (.ref tp) (abd ..) (abq _ ho (aca (abo hd _))) ((ac0 ..).trans hc) ?_ (.inr (.inr ⟨hb,ps,c,rfl,OL,EA⟩))) (abd ..))⟩;rw[abo hd];simp[rawInt]
theorem oW{Q:wP->Shared->Prop}(hh:A.handled=none)(eb:Heap.ExtBut I s.heap h')(hQ:∀ h',Heap.ExtBut I s.heap h'->Q none { s with heap:=h' }):wpAny (model prog w) A.in1 (do
      let bu <- newExc (Value.type "StopIteration") []
      (raiseNew bu:Sem PySem.Fin))
   (fun fin s'=>∃ v,fin=PySem.Fin.done (Flow.ret v)/\wpAny (model prog w) A (pure (some v)) Q E s')
   (fun e s'=>wpAny (model prog w) A (do
     let bu <- isInstance e (Value.type "StopIteration")
     if bu=true then pure none else throw e) Q E s') { s with heap:=h' }:=by
 refine aaw ?_;simp only[newExc,newTuple];refine aaw (abv ?_ (by size_fits));refine aaw (m:=firstArgMember _ _) (wpAny_of_eq (a:=Value.none) (by first | rfl | (simp only[firstArgMember];rfl)) ?_);refine abv ?_ (by size_fits);simp only[raiseNew];refine aaw (wpAny_handled ?_);rw[show A.in1.handled=none from hh];refine aaw (aay (wpAny_throw ?_));refine aaw (wpAny_isInstance (T := "StopIteration") (b:=true) ⟨_,aaG _ rfl,rfl⟩ isSubtype_stop ?_);exact aay (hQ _ ((eb.push _).push _))
theorem next_end{tp:Addr}{i:Nat}{t:SetTable}{Q:wP->Shared->Prop}(hh:A.handled=none)(x:fN w s.heap I a tp es ep t ord i)(hi:ord[i]?=none)(hQ:∀ h',Heap.ExtBut I s.heap h'->Q none { s with heap:=h' }):wpAny (model prog w) A (pyNext (.ref I)) Q E s:=by
 obtain⟨o,first,ho,hc,hd,hm⟩:=x.it;unfold pyNext;refine aaw (adP (abr (name:=Str.ofString "__next__") x.typeIs St.slot_next
  (abx St.slot_next x.typeIs St.entry_next ?_ (St.args_next _))))
 unfold Builtin.«set_iterator.__next__»;refine aaw (aay ?_);refine aaw (wpAny_fieldsOf ho hd ?_);dsimp only;unfold setEntries;refine aaw (aaw (gy x.so (aay ?_)));rw[aaD @2];have EB:∀ n:Nat,first=.int n 0->wpAny (model prog w) A.in1 (do
    let bu <- setNext a (Int.toNat n) (Int.toNat i) (Int.toNat ep)
    match bu with
     | some (x,next)=>do
      setField (Value.ref I) 0 (rawInt ↑next)
      setField (Value.ref I) 1 (rawInt (↑i+1))
      ret x
     | none=>do
      setField (Value.ref I) 2 Value.none
      let bu <- newExc (Value.type "StopIteration") []
      raiseNew bu)
   (fun fin s'=>∃ v,fin=PySem.Fin.done (Flow.ret v)/\wpAny (model prog w) A (pure (some v)) Q E s')
   (fun e s'=>wpAny (model prog w) A (do
     let bu <- isInstance e (Value.type "StopIteration")
     if bu=true then pure none else throw e) Q E s') s:=by
  rintro n rfl;rw[abi,abi,abi];refine aaw (oV (I:=I) x.so hm fun m K8=>?_);rw[hi];dsimp only[Option.map];refine aaw (ace ho hd @2 ?_);exact oW hh (abd ..).extBut hQ
 rcases id hm with⟨hb,hf,kO⟩ | ⟨hb,UO,kO,slot,hf,HP⟩ | ⟨hb,ps,c,hf,OL,EA⟩
 .rw[hf];exact EB 0 hf
 .rw[hf];exact EB slot hf
 .subst hf;dsimp only;have ls:=ab4 List.length EA;rw[aav,aav]at ls;have hge:=List.getElem?_eq_none_iff.mp hi;unfold seqItems?;refine aaw (aaw (wpAny_load OL (aay ?_)));dsimp only;rw[abi];rw[show(ps.map fun(n:Nat)=>rawInt (n:Int)).toArray[i]?=none by simp;omega];dsimp only;refine aaw (ace ho hd @2 ?_);have g1:(s.heap.update I (Obj.mapFields (·.setIfInBounds 0 (rawInt 0)))).get? I=some _:=abq _ ho (aca (abo hd _));refine aaw (ace g1 (abo hd _) @2 ?_);have e1:Heap.SameBut I s.heap (s.heap.update I (Obj.mapFields (·.setIfInBounds 0 (rawInt 0)))):=abd ..;have e2:Heap.SameBut I (s.heap.update I (Obj.mapFields (·.setIfInBounds 0 (rawInt 0)))) ((s.heap.update I (Obj.mapFields (·.setIfInBounds 0 (rawInt 0)))).update I (Obj.mapFields (·.setIfInBounds 2 Value.none))):=abd ..;exact oW (s:=s) hh (e1.trans e2).extBut hQ
theorem BC{tp:Addr}{i:Nat}{t:SetTable}(x:fN w s.heap I a tp es ep t ord i)(h:Q (.ref I) s):wpAny (model prog w) A (pyIter (.ref I)) Q E s:=by
 refine wpAny_pyIter_slot x.typeIs St.slot_self (abx St.slot_self x.typeIs St.entry_self ?_ (St.args_self _));show wpAny _ _ (ret (.ref I)) _ _ s;exact aay ⟨_,rfl, "set_iterator",_,x.typeIs,St.slot_next.lookup,h⟩
theorem fN.keep{h h':Heap}{I a tp:Addr}{es:Array (Int×Value)}{ep i:Nat}{t:SetTable}{ord:List (Int×Value)}(x:fN w h I a tp es ep t ord i)(k:∀ b∈[I,a,tp],∀ o,h.get? b=some o->h'.get? b=some o):fN w h' I a tp es ep t ord i :=
 ⟨x.so.keep fun o e=>k a @2 o e,let ⟨o,f,h1,h2,h3,h4⟩:=x.it;⟨o,f,k I @2 o h1,h2,h3,h4.keep fun o e=>k tp @2 o e⟩,x.ne,x.pm⟩
theorem BD(hh:A.handled=none)(I a tp:Addr)(es:Array (Int×Value))(ep:Nat)(t:SetTable)(ord:List (Int×Value)) :
  Walks prog w A I [I,a,tp] [I] ord.length (fun i v=>∃ e,ord[i]?=some e/\v=e.2) (fun i h=>fN w h I a tp es ep t ord i) where
 sub:=fun b hb=>by simp at hb;simp[hb]
 frame:=fun _ _ _ st hk=>st.keep hk
 item:=fun i s Q E hi st hQ=>next_item st (aaT hi) fun h' x' sb=>hQ _ h' s.toks ⟨_,aaT hi,rfl⟩ x' fun b o hb e=>sb.extBut b o (fun h=>hb (by simp[h])) e
 done:=fun s Q E st hQ=>next_end hh st (List.getElem?_eq_none (aaC _)) fun h' eb=>hQ h' s.toks fun b o hb e=>eb b o (fun h=>hb (by simp[h])) e
 self:=fun _ _ _ _ st hQ=>BC st hQ
theorem BE{t:SetTable}(x:eR (w.params.followText "set-order") s.heap a es ep t)(hz:es.size<=sizeLine)(hQ:∀(h':Heap) (d:Drawn) (I tp:Addr) (ord:List (Int×Value)),(∀ b o,s.heap.get? b=some o->h'.get? b=some o)->s.heap.objs.size<=I->(tp=a\/s.heap.objs.size<=tp)->fN w h' I a tp es ep t ord 0->Q (.ref I) { s with heap:=h',drawn:=d }) :
  wpAny (model prog w) A (pyIter (.ref a)) Q E s:=by
 have iM:a < s.heap.objs.size:=let ⟨_,ho,_⟩:=x.ob;aaF ho;refine wpAny_pyIter_slot x.typeIs St.qK (abx St.qK x.typeIs St.xZ ?_ (PySem.F.args_set_iter_1 _));unfold Builtin.«frozenset.__iter__»;refine aaw (m:=Builtin.Frozenset.slot0 _ _) (aaw (aay (aay ?_)));unfold Builtin.Frozenset.sizeOf setEntries;refine aaw (aaw (aaw (gy x (aay (aay ?_)))));unfold setDrawn;refine aaw (aaw (gy x (aaw (l4 (aay ?_)))));dsimp only;have g:∀(h1:Heap) (d:Drawn) (first:Value) (tp:Addr) (ord:List (Int×Value)),(∀ b o,s.heap.get? b=some o->h1.get? b=some o)->s.heap.objs.size<=h1.objs.size->(tp=a\/s.heap.objs.size<=tp)->tp < h1.objs.size->Mode w h1 a tp es ep t ord 0 first->ord.Perm es.toList ->
   wpAny (model prog w) A.in1 (do
     let bu <- setEpoch a
     let bu <- newFields "set_iterator" [first,rawInt 0,Value.ref a,rawInt ↑es.size,rawInt ↑bu]
     (ret bu:Sem PySem.Fin))
    (fun fin s'=>∃ v,fin=PySem.Fin.done (Flow.ret v)/\∃ T' r,s'.TypeIs v T'/\typeLookup (Value.type T') (Str.ofString "__next__")=pure (some r)/\Q v s') E { s with heap:=h1,drawn:=d }:=by
  intro h1 d first tp ord k1 hsz ht UP hm hp
  unfold setEpoch;refine aaw (aaw (gy (s:={ s with heap:=h1,drawn:=d }) (x.keep fun o e=>k1 a o e) (aay ?_)));refine aaw (abv (aay ⟨_,rfl, "set_iterator",_,⟨_,aaG _ rfl,rfl⟩,St.slot_next.lookup,?_⟩));refine hQ _ d h1.objs.size tp ord (fun b o e=>aax _ (k1 b o e)) hsz ht ⟨x.keep fun o e=>aax _ (k1 a o e),⟨_,first,aaG _ rfl,rfl,rfl,hm.keep fun o e=>aax _ e⟩,⟨aa6 (aaS iM hsz),aa6 UP⟩,hp⟩
 cases hb:w.params.followText "set-order" with
 | true =>
  rw[aaD @2];refine aaw (aay ?_);exact g s.heap s.drawn _ a _ (fun b o e=>e) (aaC _) (.inl rfl) iM (.inl ⟨hb,rfl,rfl⟩) (oU _ _)
 | false =>
  cases hd:OJ es t with
  | false =>
   rw[aaD (by simp;exact hd)];refine aaw (aay ?_);exact g s.heap s.drawn _ a _ (fun b o e=>e) (aaC _) (.inl rfl) iM (.inr (.inl ⟨hb,hd,rfl,0,rfl,x8 x.up⟩)) (ac2 _)
  | true =>
   rw[aaO (by simp;exact hd)];refine aaw (lg _ _ _ @2 fun ps d hp=>?_);refine aaw (wpAny_newTuple ?_ (by rw[aav,hp.length_eq,List.length_range];exact hz));have hr:(List.range es.size).map (fun k=>es[k]?)=es.toList.map some:=by
    apply adS @2;intro i h1 h2;simp at h1 h2 ⊢
   have kN:∀ k∈ps,k < es.size:=fun k hk=>List.mem_range.mp (hp.mem_iff.mp hk);have Xk:ps.map (fun k=>es[k]?)=(ps.filterMap fun k=>es[k]?).map some:=by
    clear hp;induction ps with
    | nil=>rfl
    | cons k r ih =>
     have hk:=kN k (aaP ..);rw[aaM,ih fun j hj=>kN j (aaI _ hj),acL,abE hk]
     rfl
   refine g _ d _ s.heap.objs.size (ps.filterMap fun k=>es[k]?) (fun b o e=>aax _ e) (by rw[size_push'];exact abI _) (.inr (aaC _)) (by rw[size_push'];exact ab6 _) (.inr (.inr ⟨hb,ps,0,rfl,aaG _ rfl,Xk⟩)) ?_;have h1:=hp.filterMap (fun k=>es[k]?);rw[filterMap_getElem?_range]at h1;exact h1
theorem EC{r:Addr}{Q:Bool->Shared->Prop}(hT:s.TypeIs (.ref r) "set")(h:Q false s):wpAny (model prog w) A (Builtin.List.listLengthHint (.ref r)) Q E s:=by
 unfold Builtin.List.listLengthHint;refine aaw (wpAny_specialOf hT PySem.F.slot_set_len.lookup ?_);generalize ZD:("set.__len__":String)=id0
 wp_delta
 rw[show splitId id0=some ("set", "__len__") from by subst ZD;decide +kernel];subst ZD;refine aaw (wpAny_isInstance (T := "set") (b:=true) hT (by rw[isSubtype_type];kernel_rfl) ?_);refine abN (fun GV=>absurd GV @1) (fun _=>?_);refine abN (fun _=>?_) (fun GV=>absurd (by decide +kernel) GV);refine aaw (adw hT ?_);exact aay h
theorem vd{t:SetTable}{R:wf->Shared->Prop}(hh:A.handled=none)(x:eR (w.params.followText "set-order") s.heap a es ep t)(hz:es.size<=sizeLine)(hR:∀(h':Heap) (tk:Nat) (d:Drawn) (vs:wf),(∀ b o,s.heap.get? b=some o->h'.get? b=some o)->vs.Perm (es.toList.map (·.2))->R vs { s with heap:=h',toks:=tk,drawn:=d }) :
  wpAny (model prog w) A (collect (.ref a)) R E s:=by
 have iM:a < s.heap.objs.size:=let ⟨_,ho,_⟩:=x.ob;aaF ho;unfold collect;refine aaw (wpAny_runValue (acy entry_proto_collect' ?_));rw[acg PySem.F.plain_proto_collect _];show wpAny _ A.in1 (newList [] >>= fun l=>again (.builtin "list.__iadd__" ⟨[l,.ref a],[]⟩)) _ _ s;refine aaw (abv ?_);refine aay ⟨adg PySem.F.plain_list_iadd _,acy entry_list_iadd' ?_⟩;rw[acg PySem.F.plain_list_iadd _];have An:(s.heap.push { cls:=.type "list",data:=.seq ([]:wf).toArray }).get? s.heap.objs.size=some { cls:=.type "list",data:=.seq #[] }:=aaG _ rfl;have x1:eR (w.params.followText "set-order") (s.heap.push { cls:=.type "list",data:=.seq ([]:wf).toArray }) a es ep t:=x.keep fun o e=>aax _ e;have UQ:(s.heap.push { cls:=.type "list",data:=.seq ([]:wf).toArray }).objs.size=s.heap.objs.size+1:=size_push' ..;have k1:∀ b o,s.heap.get? b=some o->(s.heap.push { cls:=.type "list",data:=.seq ([]:wf).toArray }).get? b=some o:=fun b o e=>aax _ e;generalize (s.heap.push { cls:=.type "list",data:=.seq ([]:wf).toArray })=h1 at An x1 UQ k1;show wpAny _ A.in1 (Builtin.List.listExtendWith (.ref s.heap.objs.size) (.ref a) (.ref s.heap.objs.size)) _ _ _;unfold Builtin.List.listExtendWith;refine aaw (adw (T := "set") (eR.typeIs (s:={ s with heap:=h1 }) x1) ?_);have jx:Builtin.List.listSameRef (.ref s.heap.objs.size) (.ref a)=false:=by simp[Builtin.List.listSameRef,ab7 iM]
 simp only[jx,show(Value.type "set" == Value.type "list")=false by decide,show(Value.type "set" == Value.type "tuple")=false by decide,Bool.or_false,acV,adN];refine aaw (BE (s:={ s with heap:=h1 }) x1 hz fun h2 d I tp ord k2 hI OL it=>?_);have ZE:s.heap.objs.size ∉ [I,a,tp]:=by
  have NY:h1.objs.size<=I:=hI;have:tp=a\/h1.objs.size<=tp:=OL;intro z;simp only[aaA,aby,ac1]at z;rcases z with z | z | z
  .rw[<- z,UQ]at NY;exact absurd NY (Nat.not_succ_le_self _)
  .exact ab7 iM z
  .rcases this with q | q
   .rw[q]at z;exact ab7 iM z
   .rw[<- z,UQ]at q;exact absurd q (Nat.not_succ_le_self _)
 have Xl:=k2 _ _ An;have hlen:ord.length<=sizeLine:=by rw[it.pm.length_eq];simpa using hz
 have key:∀(h:Heap) (c₁ tk:Nat),fN w h I a tp es ep t ord 0->(∀ b o,s.heap.get? b=some o->h.get? b=some o) ->
   h.get? s.heap.objs.size=some { cls:=.type "list",data:=.seq #[] c₁ }->codeAny (model prog w) A (.builtin "list.extend.loop" ⟨[.ref s.heap.objs.size,.ref I,.ref s.heap.objs.size],[]⟩) (fun r s'=>match r with
    | .ok (.ret (.ref l))=>∃(h':Heap) (tk:Nat) (vs:wf) (c':Nat),s'={ s with heap:=h',toks:=tk,drawn:=d }/\(∀ b o,s.heap.get? b=some o->h'.get? b=some o)/\h'.get? l=some { cls:=.type "list",dict:=none,data:=.seq vs.toArray c',slots:=#[] }/\vs.Perm (es.toList.map (·.2))
    | _=>False) { s with heap:=h,toks:=tk,drawn:=d }:=by
  intro h c₁ tk wG hk An;refine codeAny_extend_loopS (BD (A:=A.in1) (prog:=prog) (w:=w) hh I a tp es ep t ord).toS hlen s.heap.objs.size ZE (.ref s.heap.objs.size) ord.length 0 _ #[] c₁ rfl (aaY _) wG An (ItemsOf.nil _) fun s' OM c' hm hS' S6=>?_;rw[Moved.eq_with hm];refine⟨s'.heap,s'.toks,OM.toList,c',rfl,fun b o e=>hm.heap b o (fun ON=>?_) (hk b o e),by rw[ade];exact hS',?_⟩
  .have hb:=aaF e;rcases aaA.mp ON with e' | ON
   .rw[e']at hb;exact absurd hb (abm _)
   .rw[abk.mp ON]at hb;have NY:h1.objs.size<=I:=hI;rw[UQ]at NY;exact absurd (Nat.lt_trans hb NY) (abm _)
  .have e1:OM.toList=ord.map (·.2):=by
    apply adS (by rw[aa7,aav];exact S6.1);intro j h1 h2;rw[aa7]at h1;obtain⟨e,he,hv⟩:=S6.2 j OM[j] (by rw[abE h1]);rw[aav]at h2;rw[aaT h2]at he;cases he;rw[ach,ac9];exact hv
   rw[e1];exact it.pm.map _
 have go:∀(h:Heap) (c₁ tk:Nat),fN w h I a tp es ep t ord 0->(∀ b o,s.heap.get? b=some o->h.get? b=some o)->h.get? s.heap.objs.size=some { cls:=.type "list",data:=.seq #[] c₁ } ->
   codeAny (model prog w) A (.builtin "list.extend.loop" ⟨[.ref s.heap.objs.size,.ref I,.ref s.heap.objs.size],[]⟩) (fun r s'=>match r with
    | .ok (.ret v)=>wpAny (model prog w) A (match v with
      | Value.ref a=>do
       let bu <- load a
       match bu.data with
        | Data.seq xs ZF=>pure xs.toList
        | x=>unsupported "internal:collect"
      | x=>unsupported "internal:collect") R E s'
    | .ok a=>False
    | .error e=>E e s') { s with heap:=h,toks:=tk,drawn:=d }:=fun h c₁ tk i1 i2 i3=>acv (key h c₁ tk i1 i2 i3) fun r s' hr=>by
  cases r with
  | error e=>exact hr.elim
  | ok f =>
   cases f with
   | ret v =>
    cases v with
    | ref l =>
     obtain⟨h',tk',vs,c',rfl,q1,q2,q3⟩:=hr;dsimp only;refine aaw (wpAny_load q2 (aay ?_));exact hR h' tk' d vs q1 q3
    | _=>exact hr.elim
   | _=>exact hr.elim
 refine aaw (abw (EC (eR.typeIs (s:={ s with heap:=h2,drawn:=d }) it.so) ?_));refine abN (fun _=>?_) (fun _=>aay ⟨adg adB _,go _ 0 _ it (fun b o e=>k2 b o (k1 b o e)) Xl⟩);refine aaw (acP ?_);refine aaw ?_;show wpAny _ _ (updateSeq s.heap.objs.size (·.push .none) >>= fun _=>updateSeq s.heap.objs.size (·.pop)) _ _ _;refine aaw (wpAny_updateSeq Xl rfl ?_);have K9:=abq (Obj.mapSeq (·.push Value.none)) Xl rfl;refine wpAny_updateSeq (hz:=by seq_fits) K9 rfl ?_;have S7:=abq (Obj.mapSeq (·.pop)) K9 rfl;have S8:∀ b o,b≠s.heap.objs.size->h2.get? b=some o->((h2.update s.heap.objs.size (Obj.mapSeq (·.push Value.none))).update s.heap.objs.size (Obj.mapSeq (·.pop))).get? b=some o:=fun b o hb e =>
  (acq _ _ (acD hb)).trans ((acq _ _ (acD hb)).trans e)
 refine aay ⟨adg adB _,go _ _ _ (it.keep fun b hb o e=>S8 b o (fun z=>ZE (z▸hb)) e) (fun b o e=>S8 b o (aa6 (aaF e)) (k2 b o (k1 b o e))) S7⟩
section
variable {κ:KeyOrd}{kv:Value->κ.α}{kd:SortKind}{S:Value->Prop}
theorem oX{r:Addr}{Rc:wf->Prop}(Xm:∀(A:tx) (R:wf->Shared->Prop) (E:xz),A.handled=none->(∀(h':Heap) (tk:Nat) (d:Drawn) (vs:wf),(∀ b o,s.heap.get? b=some o->h'.get? b=some o)->Rc vs->R vs { s with heap:=h',toks:=tk,drawn:=d })->wpAny (model prog w) A (collect (.ref r)) R E s)(hh:A.handled=none)(hz:∀ vs,Rc vs->vs.length < 64)(hI:∀ vs,Rc vs->∃ ns,IntsAre vs ns)(h:∀(h1 h':Heap) (tk:Nat) (d:Drawn) (vs out:wf) (ns gQ:wn) (c:Nat),(∀ b o,s.heap.get? b=some o->h1.get? b=some o)->(∀ b o,h1.get? b=some o->h'.get? b=some o)->Rc vs->IntsAre vs ns->h'.get? h1.objs.size=some (seqObj "list" out.toArray c)->IntsAre out gQ->gQ.Perm ns->gQ.Pairwise (·<=·)->Q (.ref h1.objs.size) { s with heap:=h',toks:=tk,drawn:=d }) :
  wpAny (model prog w) A (call (.builtin "sorted") [.ref r]) Q E s:=by
 refine Calls.call_function_entry kind_sorted plain_sorted entry_sorted (args_sorted1 _) ?_;unfold Builtin.«sorted»;refine aaw (m:=checkCount "sorted" 1 1 _) (aay (aaw (Xm _ _ _ hh fun h1 tk d vs k1 rc=>aaw (wpAny_newList ?_ (aaE (aaQ (hz vs rc)) @1)))));obtain⟨ns,hi⟩:=hI vs rc;have ho:(h1.push (seqObj "list" vs.toArray 0)).get? h1.objs.size=some (seqObj "list" vs.toArray 0):=aaG _ rfl;refine aaw (abw (abx slot_list_sort ⟨_,ho,rfl⟩ entry_list_sort (list_sort_tree (s:={ s with heap:=h1.push (seqObj "list" vs.toArray 0),toks:=tk,drawn:=d }) ho hi (hz vs rc) fun out gQ a p o=>⟨_,rfl,aay ⟨_,rfl,?_⟩⟩) (args_list_sort _)));obtain⟨c,hc⟩:=sortedHeap_at (vs:=vs) (out:=out) ho;refine h h1 _ tk d vs out.toList ns gQ c k1 (fun b o e=>?_) rc hi (by rw[ade];exact hc) a p o;have hl:=aaF e;have e2:(h1.push (seqObj "list" vs.toArray 0)).get? b=some o:=aax _ e;exact(sortedHeap_old (aa6 hl) (aaF e2)).trans e2
end
theorem jX{xs:Array Nat}:cP xs↔xs.toList.Pairwise (· < ·):=by
 rw[acf];constructor
 .intro h i j hi hj hl;exact h i j (by simpa using hi) (by simpa using hj) hl
 .intro h i j hi hj hl;exact h i j (by simpa using hi) (by simpa using hj) hl
theorem oY:cP #[]:=fun i j hi=>absurd hi @2
theorem gR(n:Nat):cP (Array.range n):=by
 rw[jX,Array.toList_range];exact List.pairwise_lt_range
theorem ve{t:SetTable}{j:Nat}(hr:cP t.place)(h:∀ i,t.slot j≠.live i):j ∉ t.place.toList:=fun hm=>by
 obtain⟨i,hi,e⟩:=acG.mp hm;have Ee:i < t.place.size:=by simpa using hi
 rw[ach]at e;obtain⟨h1,h2,h3⟩:=jk j hr;have eb:SetTable.below t.place j=i:=by
  rcases Nat.lt_trichotomy (SetTable.below t.place j) i with q | q | q
  .have a:=h3 (SetTable.below t.place j) @0 (aaC _);have b:=hr _ i @0 Ee q;omega
  .exact q
  .have a:=h2 i Ee q;omega
 refine h i ?_;unfold SetTable.slot;dsimp only;rw[eb,abE Ee,e];simp
theorem l5{t:SetTable}(hr:cP t.place){ha:Nat->Int}{h:Int}:∀(fuel:Nat) (p:SetTable.Probe) {j:Nat} {d:Option Nat},(∀ k,p.dummy=some k->k ∉ t.place.toList)->SetTable.probe.go t ha h fuel p=some (.empty j d)->j ∉ t.place.toList/\∀ k,d=some k->k ∉ t.place.toList
 | 0,p,j,d,hp,e=>by unfold SetTable.probe.go at e;cases e
 | fuel+1,p,j,d,hp,e=>by
  unfold SetTable.probe.go at e;have ZG:∀ q:SetTable.Probe,(t.advance q).dummy=q.dummy:=fun q=>by unfold SetTable.advance;split<;>rfl
  cases hs:t.slot p.j with
  | empty =>
   rw[hs]at e;cases e;exact⟨ve hr (fun i z=>by rw[hs]at z;cases z),hp⟩
  | dummy =>
   rw[hs]at e;refine l5 hr fuel _ (fun k hk=>?_) e;rw[ZG]at hk;cases hk;exact ve hr fun i z=>by rw[hs]at z;cases z
  | live i =>
   rw[hs]at e;dsimp only at e;split at e
   .cases e
   .exact l5 hr fuel _ (fun k hk=>hp k (by rw[ZG]at hk;exact hk)) e
theorem ED{t:SetTable}(hr:cP t.place){h:Int}{slot:Nat}{wd:Bool}(e:t.freeSlot h=some (slot,wd)):slot ∉ t.place.toList:=by
 unfold SetTable.freeSlot SetTable.probe at e;cases q:SetTable.probe.go t (fun _=>h+1) h (10 * SetTable.turns t.mask) (t.probeStart h) with
 | none=>rw[q]at e;cases e
 | some m =>
  rw[q]at e;cases m with
  | candidate j i n=>cases e
  | empty j d =>
   obtain⟨h1,h2⟩:=l5 hr _ _ (fun k hk=>by unfold SetTable.probeStart at hk;cases hk) q;cases d with
   | none=>simp at e;rw[<- e.1];exact h1
   | some d=>simp at e;rw[<- e.1];exact h2 d rfl
theorem yb{t:SetTable}(hr:cP t.place){j:Nat}(hj:j ∉ t.place.toList):cP (t.put j).1.place:=by
 obtain⟨h1,h2,h3⟩:=jk j hr;show cP (SetTable.insertAt t.place (SetTable.below t.place j) j);rw[jX,SetTable.toList_insertAt];have hp:=jX.mp hr;refine List.pairwise_append.mpr ⟨hp.sublist (List.take_sublist ..),abX.mpr ⟨fun x hx=>?_,hp.sublist (List.drop_sublist ..)⟩,fun x hx y hy=>?_⟩
 .obtain⟨k,hk,e⟩:=acG.mp hx;rw[List.getElem_drop,ach]at e;rw[abG,aa7]at hk;have:=h3 (SetTable.below t.place j+k) @0 @0;have jx:x≠j:=fun z=>hj (z▸List.mem_of_mem_drop hx);omega
 .obtain⟨k,hk,e⟩:=acG.mp hx;rw[List.getElem_take,ach]at e;rw[abc,aa7]at hk;have OK:=h2 k @0 @0;have hxj:x < j:=by omega
  rcases aaA.mp hy with rfl | hy
  .exact hxj
  .obtain⟨m,hm,e'⟩:=acG.mp hy;rw[List.getElem_drop,ach]at e';rw[abG,aa7]at hm;have:=h3 (SetTable.below t.place j+m) @0 @0;omega
theorem sH{t:SetTable}(hr:cP t.place)(n:Nat):cP (t.orStandIn n).place/\(t.orStandIn n).led=t.led:=by
 unfold SetTable.orStandIn;split
 .exact⟨hr,rfl⟩
 .exact⟨gR n,rfl⟩
theorem BF{t:SetTable}(hr:cP t.place)(es:Array (Int×Value))(h:Int)(x:Value):cP (layNew t es h x).2.1.place/\(layNew t es h x).2.1.led=t.led:=by
 unfold layNew;cases q:t.freeSlot h with
 | none=>exact⟨gR _,rfl⟩
 | some sw =>
  obtain⟨slot,wd⟩:=sw;have h1:=yb hr (ED hr q);have h2:=sH h1 (SetTable.insertAt es (t.put slot).2 (h,x)).size;exact⟨h2.1,h2.2⟩
theorem BG{t t':SetTable}{hs:Array Int}{wanted:Nat}{order:Array Nat}(e:t.relaid hs wanted=some (t',order)):cP t'.place/\t'.led=t.led:=by
 unfold SetTable.relaid SetTable.laid at e;cases q:SetTable.layClean (SetTable.sizeAbove wanted - 1) hs with
 | none=>rw[q]at e;cases e
 | some owner =>
  rw[q]at e;simp only[bind,Option.bind,pure]at e;have e':=abb e;have e1:=ab4 Prod.fst e';dsimp only at e1;subst e1;refine⟨?_,rfl⟩;rw[jX];dsimp only;rw[List.pairwise_map];have hp:List.Pairwise (· < ·) (List.range (SetTable.sizeAbove wanted - 1+1)):=List.pairwise_lt_range;refine List.Pairwise.filterMap _ (fun a b GV x hx y hy=>?_) hp;cases q1:owner.getD a none with
  | none=>rw[q1]at hx;simp at hx
  | some u =>
   cases q2:owner.getD b none with
   | none=>rw[q2]at hy;simp at hy
   | some v =>
    rw[q1]at hx;rw[q2]at hy;simp at hx hy;subst hx hy;exact GV
theorem vf{t:SetTable}(es:Array (Int×Value))(wanted:Nat):cP (relayAll t es wanted).2.1.place/\(relayAll t es wanted).2.1.led=t.led:=by
 unfold relayAll;cases q:t.relaid (es.map (·.1)) wanted with
 | none=>exact⟨gR _,rfl⟩
 | some to =>
  obtain⟨t',order⟩:=to;dsimp only;split
  .exact BG q
  .exact⟨gR _,rfl⟩
def yc(prog:u8)(w:World)(l:List (Int×Value)):Prop:=∀ e∈l,∃ n t,e.2=.int n t/\e.1=(intKind prog w).hash n
theorem yc.elems{l:List (Int×Value)}(h:yc prog w l):ElemsOf (intKind prog w) l:=fun e he=>by
 obtain⟨n,t,e1,e2⟩:=h e he;exact⟨⟨n,by rw[e1];exact ad4 _ _ _ _,e2⟩,by rw[e1];rfl⟩
theorem yc.perm{l l':List (Int×Value)}(h:yc prog w l)(p:l'.Perm l):yc prog w l':=fun e he=>h e (p.mem_iff.mp he)
def yd(prog:u8)(w:World)(h:Heap)(a:Addr)(ns:wn):Prop :=
 ∃ es ep t,eR (w.params.followText "set-order") h a es ep t/\es.size < scanBound/\yc prog w es.toList/\(es.toList.map fun e=>numOf e.2).Perm ns/\ns.Nodup
theorem yd.keep{prog:u8}{w:World}{h h':Heap}{a:Addr}{ns:wn}(x:yd prog w h a ns)(k:∀ o,h.get? a=some o->h'.get? a=some o):yd prog w h' a ns :=
 let ⟨es,ep,t,x1,r⟩:=x;⟨es,ep,t,x1.keep k,r⟩
theorem vg{GO:Array (Int×Value)}{t t':SetTable}{bt:Bool}(x:eR bt h a es ep t)(hf:t'.fits GO.size=true)(hl:t'.led=t.led)(hr:cP t'.place):eR bt (h.update a (Obj.putSet GO t')) a GO (ep+1) t':=by
 obtain⟨o,ho,hex,hd⟩:=x.ob;have:=abq (Obj.putSet GO t') ho (by rw[putSet_of GO t' hd];rfl);rw[putSet_of GO t' hd]at this;exact⟨⟨_,this,hex,rfl⟩,hf,hl.trans x.led,hr⟩
theorem vh{g:Bool->Sem Unit}(hg:∀(b:Bool) (bL:Shared) (Q':Unit->Shared->Prop),Q' () bL->wpAny (model prog w) A (g b) Q' E bL){t:SetTable}(x:eR (w.params.followText "set-order") s.heap a es ep t){mG:Array (Int×Value)}{t2:SetTable}(hz:mG.size<=sizeLine)(hf2:t2.fits mG.size=true)(hl:t2.led=t.led)(hr:cP t2.place){vi:Bool}{R:Option Bool->Shared->Prop}(h:∀ h' wN IH t3,Heap.SameBut a s.heap h'->eR (w.params.followText "set-order") h' a wN IH t3->wN.toList.Perm mG.toList->R (some true) { s with heap:=h' }) :
  wpAny (model prog w) A (do
    storeSet a mG t2
    if(!vi&&t2.tooFull)=true then do
      g (relayAll t2 mG (SetTable.grown mG.size)).2.2
      storeSet a (relayAll t2 mG (SetTable.grown mG.size)).1 (relayAll t2 mG (SetTable.grown mG.size)).2.1
      pure (some true)
     else pure (some true)) R E s:=by
 obtain⟨o,ho,hex,hd⟩:=x.ob;refine aaw (wpAny_storeSet_of ho hd ?_ hz);have x1:=vg x hf2 hl hr;have S9:=abd s.heap a (Obj.putSet mG t2);split
 .have hp:=relayAll_perm t2 mG (SetTable.grown mG.size);have P5:=relayAll_fits t2 mG (SetTable.grown mG.size);have kO:=vf (t:=t2) mG (SetTable.grown mG.size);generalize hRl:relayAll t2 mG (SetTable.grown mG.size)=Rl at hp P5 kO ⊢;obtain⟨wN,t3,ZH⟩:=Rl;dsimp only at hp P5 kO ⊢;have hsz:wN.size=mG.size:=by rw[<- aa7,hp.length_eq,aa7]
  refine aaw (hg _ _ _ ?_);obtain⟨o1,Kg,aae,hd1⟩:=x1.ob;refine aaw (wpAny_storeSet_of Kg hd1 ?_ (by rw[hsz];exact hz));exact aay (h _ _ _ _ (S9.trans (abd _ a _)) (vg x1 P5 kO.2 kO.1) hp)
 .exact aay (h _ _ _ _ S9 x1 (ac2 _))
theorem add_int{k:Int}{tk:Tok}{Q:Bool->Shared->Prop}(hS:yd prog w s.heap a ns)(La:ns.length+1 < scanBound)(h:∀ h' gQ b,Heap.SameBut a s.heap h'->yd prog w h' a gQ->(∀ n,n∈gQ↔n∈ns\/n=k)->gQ.length<=ns.length+1->Q b { s with heap:=h' }) :
  wpAny (model prog w) A (setAddHashed a (.int k tk) ((intKind prog w).hash k)) Q E s:=by
 obtain⟨es,ep,t,x,hb,Ao,Lb,UR⟩:=hS;obtain⟨o,ho,hex,hd⟩:=x.ob;have hn:es.size=ns.length:=by have:=Lb.length_eq;simpa using this
 have Mx:(intKind prog w).is k (.int k tk)=true:=ad4 _ _ _ _;have pL:∀ e∈es.toList,(intKind prog w).is k e.2=true↔numOf e.2=k:=fun e he=>by
  obtain⟨n,t',e1,_⟩:=Ao e he;rw[e1];constructor
  .intro q;exact((intKind prog w).inj _ _ _ q (ad4 _ _ n t')).symm
  .rintro rfl;exact ad4 _ _ _ _
 unfold setAddHashed setAddHashedIn;refine abw (aaw (wpAny_setState_of ho hd x.fits ?_));dsimp only;rw[byScan_of rfl hb Ao.elems];simp only[↓reduceIte];unfold setAddByScan;refine aaw ?_;refine aaw (acP ?_);refine aaw (wpAny_setScan_of Mx ho hd x.fits Ao.elems ?_);cases hr:List.findIdx? (fun e=>(intKind prog w).is k e.2) es.toList with
 | some j =>
  dsimp only;obtain⟨hj,hpj,_⟩:=List.findIdx?_eq_some_iff_getElem.mp hr;have hk:k∈ns:=Lb.mem_iff.mp (abe.mpr ⟨_,abY hj,(pL _ (abY hj)).mp hpj⟩);refine aay (aay ?_);exact h s.heap ns false (Heap.SameBut.refl a s.heap) ⟨es,ep,t,x,hb,Ao,Lb,UR⟩ (fun n=>⟨.inl,fun z=>z.elim id fun z=>z▸hk⟩) @0
 | none =>
  dsimp only;have hk:k ∉ ns:=fun hk=>by
   obtain⟨e,he,q⟩:=abe.mp (Lb.mem_iff.mpr hk);have:=List.findIdx?_eq_none_iff.mp hr e he;rw[(pL e he).mpr q]at this;cases this
  have hgw:∀(b:Bool) {bL:Shared} {Q':Unit->Shared->Prop},Q' () bL->wpAny (model prog w) A (match b with | true=>rule "set.scan.the-table-gave-way" | false=>pure ()) Q' E bL :=
   fun b bL Q' hq=>by cases b<;>first | exact aay hq | exact acP hq
  have qL:=layNew_perm t es ((intKind prog w).hash k) (.int k tk);have vj:=layNew_fits t es ((intKind prog w).hash k) (.int k tk);have BH:=BF x.up es ((intKind prog w).hash k) (.int k tk);generalize hL:layNew t es ((intKind prog w).hash k) (.int k tk)=L at qL vj BH ⊢;obtain⟨mG,t1,vi,aaf⟩:=L;dsimp only at qL vj BH ⊢;rw[Array.toList_push]at qL;have Ta:mG.size=es.size+1:=by rw[<- aa7,qL.length_eq,aaV,aa7];rfl
  have Xn:yc prog w mG.toList:=fun e he=>by
   rcases abn.mp (qL.mem_iff.mp he)with q | q
   .exact Ao e q
   .rw[abk]at q;subst q;exact⟨k,tk,rfl,rfl⟩
  have Xo:(mG.toList.map fun e=>numOf e.2).Perm (ns++[k]):=by
   have h1:=qL.map (fun e=>numOf e.2);rw[abt]at h1;exact h1.trans (Lb.append_right _)
  have Xp:(ns++[k]).Nodup:=List.nodup_append.mpr ⟨UR,@2,fun a ha b ZI=>by rw[abk]at ZI;subst ZI;exact fun z=>hk (z▸ha)⟩;have uF:∀ h' wN IH t3,Heap.SameBut a s.heap h'->eR (w.params.followText "set-order") h' a wN IH t3->wN.toList.Perm mG.toList->Q true { s with heap:=h' }:=fun h' wN IH t3 sb x2 p2=>by
   refine h h' (ns++[k]) true sb ⟨wN,IH,t3,x2,?_,Xn.perm p2,(p2.map _).trans Xo,Xp⟩ (fun n=>by simp) @2;rw[<- aa7,p2.length_eq,aa7,Ta,hn];exact La
  have ZJ:mG.size<=sizeLine:=fits_of_scanBound (by rw[Ta,hn];exact La);refine aaw (hgw _ ?_);split
  .refine aaw ?_;rw[hashByValue_scannable 8 rfl];refine aay ?_;refine vh ?_ x ZJ ?_ ?_ ?_ ?_
   .intro b bL Q' hq;cases b<;>first | exact aay hq | exact acP hq
   .split
    .exact vj
    .exact SetTable.fits_plain_off vj
   .split<;>exact BH.2
   .split<;>exact BH.1
   .intro h' wN IH t3 sb x2 p2;dsimp only;exact aay (uF h' wN IH t3 sb x2 p2)
  .refine aaw (aay ?_);simp only[↓reduceIte];refine vh ?_ x ZJ vj BH.2 BH.1 ?_
   .intro b bL Q' hq;cases b<;>first | exact aay hq | exact acP hq
   .intro h' wN IH t3 sb x2 p2;dsimp only;exact aay (uF h' wN IH t3 sb x2 p2)
structure OO(prog:u8)(w:World)(u:Nat)(S I:Addr)(n:Nat)(P:Nat->Value->Prop)(am:Nat->Heap->Prop):Prop where
 keep:∀ i h h',am i h->(∀ b o,b≠I->h.get? b=some o->h'.get? b=some o)->am i h'
 add:∀(A:tx) (s:Shared) i v,A.units<=u->i < n->P i v->am i s.heap->∀(Q:Bool->Shared->Prop) (E:xz),(∀ h' tk b,Heap.SameBut S s.heap h'->s.toks<=tk->am (i+1) h'->Q b { s with heap:=h',toks:=tk })->wpAny (model prog w) A (setAdd S v) Q E s
theorem BI{R:Result->Shared->Prop}{S:Addr}{fp:ww}{n:Nat}{P:Nat->Value->Prop}{St:Nat->Heap->Prop}{am:Nat->Heap->Prop}{u:Nat}(W:Walks prog w A.in1 I fp [I] n P St)(F:OO prog w u S I n P am)(hu:A.units+1<=u)(hSf:S ∉ fp) :
  ∀(k:Nat) (s:Shared),k<=n->St (n - k) s.heap->am (n - k) s.heap ->
   (∀ h' tk,(∀ b o,b≠S->b≠I->s.heap.get? b=some o->h'.get? b=some o)->am n h'->R (.ok (.ret .none)) { s with heap:=h',toks:=tk }) ->
   codeAny (model prog w) A (.builtin "set.update.loop" ⟨[.ref S,.ref I],[]⟩) R s:=by
 intro k;induction k with
 | zero =>
  intro s _ wG hJ hR;refine acy acJ ?_;rw[acg ab1];refine aaw (W.done s _ _ wG fun h' tk hk=>?_);have kk:∀ b o,b≠I->s.heap.get? b=some o->h'.get? b=some o:=fun b o hb e=>hk b o (by simpa using hb) e;exact aay (hR h' tk (fun b o _ hb e=>kk b o hb e) (F.keep _ _ _ hJ kk))
 | succ k ih =>
  intro s hle wG hJ hR;refine acy acJ ?_;rw[acg ab1];refine aaw (W.item (n - (k+1)) s _ _ @0 wG fun v h1 tk1 hP Tb hk=>?_);have kk:∀ b o,b≠I->s.heap.get? b=some o->h1.get? b=some o:=fun b o hb e=>hk b o (by simpa using hb) e;refine aaw (abw (F.add _ _ _ v hu @0 hP (F.keep _ _ _ hJ kk) _ _ fun h2 tk2 b sb _ ZK=>?_));have e:n - (k+1)+1=n - k:=by omega
  rw[e]at Tb ZK;have S8:∀ b o,b≠S->h1.get? b=some o->h2.get? b=some o:=fun b o hb q=>sb.extBut b o hb q;refine aay ⟨adg ab1 _,ih { s with heap:=h2,toks:=tk2 } @0 ?_ ZK fun h3 tk3 k3 hJ3=>hR h3 tk3 (fun b o kn ZL q=>k3 b o kn ZL (S8 b o kn (kk b o ZL q))) hJ3⟩;exact W.frame _ _ _ Tb fun b hb o q=>S8 b o (fun z=>hSf (z▸hb)) q
noncomputable abbrev gq(w:World):Obj:={ cls:=.type "set",dict:=none,data:=.set #[] 0 (.fresh 0 0 (!w.params.followText "set-order")) }
theorem EE(x:Value)(h:Q (.ref s.heap.objs.size) { s with heap:=s.heap.push (gq w) }):codeAny (model prog w) A (.call (.builtin "set.__new__") ⟨[.type "set",x],[]⟩) (wants Q E) s:=by
 refine codeAny_of_tree (aaw (m:=checkBuiltinCall "set.__new__" _) (wpAny_of_eq (PySem.F.newCall_set_1 x) (aay ⟨adg PySem.F.plain_set_new _,acy PySem.F.entry_set_new ?_⟩)));rw[acg PySem.F.plain_set_new];unfold Builtin.«set.__new__» newSet;refine aaw (Q:=_) (m:=Builtin.Frozenset.newClass _ _) ?_;unfold Builtin.Frozenset.newClass;have Hz:=sub_set_self
 wp_walk
 refine wpAny_askSetting (aay ?_);simp only[newObj];exact aaw (wpAny_alloc (aay (aay h)))
theorem vk{T ni ii:String}{args:wf}{M:xz}(c:TypeCalled T ni ii)(hc:checkTypeCall T ⟨args,[]⟩=pure ())(hm:codeAny (model prog w) A.in1 (.call (.builtin ni) ⟨.type T::args,[]⟩) (wants M E) s)(hf:∀ x s1,M x s1->s1.TypeIs x T/\codeAny (model prog w) A.in1 (.call (.builtin ii) ⟨x::args,[]⟩) (wants (fun r s2=>r=.none/\Q x s2) E) s1):wpAny (model prog w) A (call (.type T) args) Q E s:=by
 have⟨nt,cc,⟨_,_,mro⟩,mk,_,sb,US⟩:=c;refine wpAny_call (codeAny_of_tree (aay ⟨Code.quiet_builtin _ (by decide +kernel),acy PySem.F.entry_type_call ?_⟩));rw[Around.under_plain (weight_type_call_type T args []) rfl]
 repeat (any_goals (first | wp_step | assumption))
 refine acv hm fun r s1 hr=>?_;rcases r with e | f
 .exact hr
 cases f with
 | next=>exact hr.elim
 | brk=>exact hr.elim
 | cont=>exact hr.elim
 | ret x =>
 have⟨hT,hi⟩:=hf _ _ hr;have il:=US.lookup;have ib:=US.bind x
 repeat (any_goals (first | wp_step | assumption))
 refine acv hi fun r s2 NV=>?_;rcases r with e | f
 .exact NV
 cases f with
 | next=>exact NV.elim
 | brk=>exact NV.elim
 | cont=>exact NV.elim
 | ret y =>
 obtain⟨rfl,q⟩:=NV
 repeat (any_goals (first | wp_step | assumption))
theorem vm{l:Addr}{items:Array Value}{am:Nat->Heap->Prop}{u:Nat}(hu:A.units+8<=u)(hh:A.handled=none)(hl:s.heap.IsList l items)(F:OO prog w u s.heap.objs.size (s.heap.objs.size+1) items.size (fun i v=>items[i]?=some v) am)(h0:∀ h',(∀ b o,s.heap.get? b=some o->h'.get? b=some o)->h'.get? s.heap.objs.size=some (gq w)->am 0 h')(h:∀(h':Heap) (tk:Nat),(∀ b o,s.heap.get? b=some o->h'.get? b=some o)->am items.size h'->Q (.ref s.heap.objs.size) { s with heap:=h',toks:=tk }) :
  wpAny (model prog w) A (call (.type "set") [.ref l]) Q E s:=by
 refine vk (M:=fun o bL=>o=.ref s.heap.objs.size/\bL={ s with heap:=s.heap.push (gq w) }) PySem.F.called_set (PySem.F.typeCall_set_1 _) (EE _ ⟨rfl,rfl⟩) ?_;rintro _ _ ⟨rfl,rfl⟩;have hS:(s.heap.push (gq w)).get? s.heap.objs.size=some (gq w):=aaG _ rfl;have pR:(s.heap.push (gq w)).IsList l items:=hl.push _;have hsz:(s.heap.push (gq w)).objs.size=s.heap.objs.size+1:=abu ..;have k1:∀ b o,s.heap.get? b=some o->(s.heap.push (gq w)).get? b=some o:=fun b o e=>aax _ e;have iM:l < s.heap.objs.size:=let ⟨_,ho,_⟩:=hl;aaF ho;have hTl:Shared.TypeIs { s with heap:=s.heap.push (gq w) } (.ref l) "list":=let ⟨o,ho,hc,_⟩:=pR;⟨o,ho,hc⟩;refine⟨⟨_,hS,rfl⟩,codeAny_call_builtin PySem.F.called_set.init.plain PySem.F.entry_set_init (check_set_init_1 ⟨_,hS,rfl⟩ ?_)⟩;generalize hG:s.heap.push (gq w)=G at hS pR hsz k1 hTl;have x0:eR (w.params.followText "set-order") G s.heap.objs.size #[] 0 (.fresh 0 0 (!w.params.followText "set-order")):=⟨⟨_,hS,⟨rfl,rfl,rfl⟩,rfl⟩,rfl,rfl,oY⟩;unfold Builtin.«set.__init__» noKeywords;refine aaw (abN (fun _=>aay ?_) fun z=>absurd rfl z);have hTS:Shared.TypeIs { s with heap:=G } (.ref s.heap.objs.size) "set":=⟨_,hS,rfl⟩;generalize hUF:Builtin.Frozenset.updateFrom=UF
 wp_walk
 subst hUF;unfold Builtin.Frozenset.updateFrom Builtin.Frozenset.isAnySet;have n1:=PySem.F.sub_list_set;have n2:=PySem.F.sub_list_frozenset;generalize hPI:pyIter=PI
 wp_walk
 subst hPI;refine abT pR (aaw (wpAny_runValue ?_));have hI:G.objs.size=s.heap.objs.size+1:=hsz;dsimp only;rw[hI];have k2:∀ b o,s.heap.get? b=some o->(G.push { cls:=.type "list_iterator",data:=.fields #[.ref l,.int 0 0] }).get? b=some o:=fun b o e=>aax _ (k1 b o e);refine BI (Walks.list (by simp[hh]) (s.heap.objs.size+1) l (aa6 (adE iM)) items) F (by show _<=u;simp only[Around.in1];omega) (fun z=>?_) items.size _ (aaC _) ?_ ?_ fun h' tk k3 hJ=>?_
 .rcases aaA.mp z with e | e
  .exact absurd e (aa6 (ab6 _))
  .rw[abk]at e;exact absurd e (ab7 iM)
 .rw[Nat.sub_self];exact⟨⟨_,by rw[<- hI];exact aaG _ rfl,rfl,rfl⟩,pR.push _⟩
 .rw[Nat.sub_self];exact h0 _ k2 (aax _ hS)
 .refine aay (aay ⟨rfl,h h' tk (fun b o e=>k3 b o (aa6 (aaF e)) (aa6 (adE (aaF e))) (k2 b o e)) hJ⟩)
def Tc(prog:u8)(w:World)(S:Addr)(ns:wn)(i:Nat)(h:Heap):Prop:=∃ gQ,yd prog w h S gQ/\(∀ k,k∈gQ↔k∈ns.take i)/\gQ.length<=i
theorem BJ{S:Addr}{items:Array Value}{u:Nat}(jx:S≠I)(hi:IntsAre items.toList ns)(hb:ns.length+1 < scanBound) :
  OO prog w u S I items.size (fun i v=>items[i]?=some v) (Tc prog w S ns) where
 keep:=fun i h h' ⟨gQ,x,r⟩ k=>⟨gQ,x.keep fun o e=>k S o jx e,r⟩
 add:=fun A s i v _ iM hv zz Q E hQ=>by
  obtain⟨gQ,x,hm,hl⟩:=zz
  have II:items.size=ns.length:=by have:=IntsAre.length hi;simpa using this
  obtain⟨t,rfl⟩:=IntsAre.int_at hi i v (by rw[ab9];exact hv);unfold setAdd;refine abw (aaw ((intKind prog w).pyHash (k:=ns.getD i 0) (ad4 _ _ _ _) ?_));refine add_int (s:={ s with toks:=s.toks+1 }) x @0 fun h' ns2 b sb x2 K8 qp=>hQ h' (s.toks+1) b sb (abI _) ⟨ns2,x2,fun k=>?_,@0⟩;have ZM:i < ns.length:=by omega
  have e:ns.getD i 0=ns[i]:=by rw[abf,aaT ZM];rfl
  have et:ns.take (i+1)=ns.take i++[ns[i]]:=by rw[aaU,aaT ZM];rfl
  rw[K8,hm,e,et,abn,abk]
noncomputable def vn(K:zn):V->Hp->VK->Prop:=fun x H Q=>∃(p:Addr) (ns:wn),x=.ref p/\gk K H p (ns.map V.int)/\ns.length < 64 /\
 ∀(l:Addr) (gQ:wn),H l=none->gQ.Pairwise (· < ·)->(∀ k,k∈gQ↔k∈ns)->Q (.ref l) (upd H l (.lst (gQ.map V.int)))
theorem Ap:∀{vs:wf} {ns:wn},IntsAre vs ns->ns=vs.map numOf
 | _,_,.nil=>rfl
 | _,_,.cons n t r=>by rw[aaM,<- Ap r];rfl
section
variable {X:Cx}{pins:yp}{Z:St}{H:Hp}
theorem Inv.drew{t':Nat}{d:Drawn}(I:Inv X pins Z H { s with heap:=h',toks:=t' }):Inv X pins Z H { s with heap:=h',toks:=t',drawn:=d } :=
 ⟨I.ok,I.os,I.bare,I.base,I.loc,I.cell,I.free,I.iQ,I.pin,I.cu,I.len⟩
theorem BK{ZN:wn}{Q:VK}(hc:X.calm=true)(I:Inv X pins Z H s)(x:yd X.prog X.w s.heap a ns)(hm:∀ k,k∈ns↔k∈ZN)(Xq:ns.length < 64)(q:∀(l:Addr) (gQ:wn),H l=none->gQ.Pairwise (· < ·)->(∀ k,k∈gQ↔k∈ZN)->Q (.ref l) (upd H l (.lst (gQ.map V.int)))) :
  wpAny (model X.prog X.w) X.A (call (.builtin "sorted") [.ref a]) (EP X pins Z Q) E s:=by
 obtain⟨es,ep,t,so,hb,Ao,Lb,UR⟩:=x;have hz:es.size<=sizeLine:=fits_of_scanBound hb;have II:ns.length=es.size:=by have:=Lb.length_eq;simpa using this.symm
 have kN:∀ vs:List Value,vs.Perm (es.toList.map (·.2))->∀ v∈vs,∃ n t,v=Value.int n t:=fun vs hv v hvm=>by
  obtain⟨e,he,rfl⟩:=abe.mp (hv.mem_iff.mp hvm);obtain⟨n,t,e1,_⟩:=Ao e he;exact⟨n,t,e1⟩
 refine oX (Rc:=fun vs=>vs.Perm (es.toList.map (·.2))) (fun A R E hh hR=>vd hh so hz fun h' tk d vs k p=>hR h' tk d vs k p) (I.ok.hd hc) (fun vs hv=>?_) (fun vs hv=>⟨_,intsAre_map vs (kN vs hv)⟩) fun h1 h' tk d vs out ns1 gQ c k1 k2 rc hi1 e hi pm pw=>?_
 .rw[hv.length_eq,aav,aa7];omega
 .have e1:ns1=vs.map numOf:=Ap hi1;have p2:gQ.Perm ns:=by
   have h3:=rc.map numOf;rw[acz]at h3;rw[e1]at pm;exact pm.trans (h3.trans Lb)
  have I1:Inv X pins Z H { s with heap:=h1,toks:=tk }:=I.kept k1;have hv:=kA hi;have hl:=p2.length_eq;have I2:=I1.laid (t':=tk) (a:=h1.objs.size) (o:=.lst (gQ.map V.int)) k2 (aaC _) (show cm X.prog X.w _ h' _ (.lst _) from ⟨by rw[aav];omega,out,c,hv,e⟩);refine⟨.ref h1.objs.size,_,I2.drew,rfl,q _ _ (I1.cu.fresh (aaC _)) ?_ fun k=>by rw[p2.mem_iff,hm]⟩;have nd:gQ.Nodup:=p2.nodup_iff.mpr UR;exact(pw.and nd).imp fun⟨a,b⟩=>by omega
variable {e:Expr}{te:TE}{p p2 pos Xr:Pos}
theorem BL(hc:X.calm=true)(hm1:X.mg "sorted"=none)(K8:X.mg "set"=none)(he:SE X e te)(hs:autoParam (noStar e=true) ra0)(hg1:autoParam (Gl X "sorted") ra0)(hg2:autoParam (Gl X "set") ra0) :
  SE X (.Call (.Name "sorted" p) [.Call (.Name "set" p2) [e] [] Xr] [] pos) (Um (vn X.K) te):=⟨by
 intro pins s Z H Q I h
 refine ab8 (ki I hg1 hm1 adF ?_)
 refine ac3 (adu ?_) rfl rfl
 refine ab8 (ki I hg2 K8 PyProof.Rows.boot_set ?_)
 refine ab2 ?_ (dh [] X.env hs) rfl
 rw[dh [] X.env hs]
 refine adu (cL (he.run pins s Z H _ I h) fun u s1 zz=>?_);obtain⟨x,H1,I1,r1,q1⟩:=zz
 obtain⟨p,ns,rfl,hq,hb,q⟩:=q1
 cases r1
 obtain⟨aV,rv,pl,hz⟩:=I1.list hq
 refine adC ?_
 have hi:=intsAre_of rv
 have hlen:aV.length=ns.length:=by have:=rv.length;simp at this;omega
 refine vm (items:=aV.toArray) (aaC _) (I1.ok.hd hc) pl.isList (BJ (aa6 (ab6 _)) (by simpa using hi) (aaS (Nat.succ_lt_succ hb) @1)) (fun h' k e0=>⟨[],⟨#[],0,_,⟨⟨_,e0,⟨rfl,rfl,rfl⟩,rfl⟩,rfl,rfl,oY⟩,@1,(fun e he=>by simp at he),ac2 _,List.nodup_nil⟩,fun k=>by simp,aaC _⟩) fun h' tk k2 zz=>?_;obtain⟨gQ,x,hm,hle⟩:=zz
 refine adC ?_
 refine BK (s:={ s1 with heap:=h',toks:=tk }) hc (I1.kept k2) x (fun k=>?_) (by simp at hle;omega) q
 rw[hm,abA (by simp;omega)]⟩
end
noncomputable def EF:DV->Wd->DK->Prop:=fun a W Q=>∃ ns:List Int,dX W a=some (ns.map fun i=>.im (.int i))/\ns.length < 64/\∀ gQ:List Int,gQ.Pairwise (· < ·)->(∀ k,k∈gQ↔k∈ns)->iW (gQ.map fun i=>.im (.int i)) W Q
noncomputable instance {K:zn}[hk:lV C K]:Wo C (vn K) EF:=by
 obtain⟨rfl⟩:=hk;exact⟨fun D h zz k=>by
  obtain⟨ns,e,hb,q⟩:=zz
  obtain⟨p,xs,rfl,hq,r⟩:=D.dX h e;rw[oS.mp r]at hq;exact⟨p,ns,rfl,gk.of hq,hb,fun l gQ hl h1 h2=>gP D (oS.mpr rfl) hl (q gQ h1 h2) k⟩⟩
noncomputable def EG(K:zn):V->List V->Hp->VK->Prop:=fun x vs H Q=>∃(p:Addr) (ns:wn) (k:Int),x=.ref p/\vs=[.int k]/\gk K H p (ns.map V.int)/\Q (.int (ns.count k:Nat)) H
section
variable {X:Cx}
theorem vo:VH X "list.count" (EG X.K):=by
 intro pins s Z H x vs v us Q I rx rv h;obtain⟨p,ns,k,rfl,rfl,hq,q⟩:=h;cases rx;obtain⟨u,rfl,t,rfl⟩:=vals1 rv;obtain⟨aV,rv,⟨o,n,ho,hc,hd,hs⟩,hz⟩:=I.list hq;have hi:=intsAre_of rv;obtain⟨cls,dd,data,sl⟩:=o;simp only at hc hd hs;subst hc hd hs;refine ad3 F.slot_list_count ⟨_,ho,rfl⟩ F.entry_list_count (F.args_list_count_2 _ _) (PySem.SeqAt.list_countAt p aV.toArray n none sl (.int k t) (fun y=>numOf y == k)) ⟨ho,fun y hy=>?_,?_⟩
 .obtain⟨m,t',rfl⟩:=hi.all y (by simpa using hy);exact PySem.SeqAt.EqAt.int_int m t' k t
 .refine⟨.int (ns.count k:Nat),H,I.tok _,⟨s.toks,?_⟩,q⟩;rw[<- hi.nums,List.count,List.countP_map]
  rfl
end
noncomputable def OP:DV->List DV->Wd->DK->Prop:=fun a as W Q=>∃(ns:wn) (n:Int),as=[.im (.int n)]/\dX W a=some (ns.map fun i=>.im (.int i))/\Q (.im (.int (ns.count n:Nat))) W
noncomputable instance {K:zn}[hk:lV C K]:Qb C (EG K) OP:=by
 obtain⟨rfl⟩:=hk;exact⟨fun D h1 h2 zz k=>by
  obtain⟨ns,n,e,e1,q⟩:=zz
  subst e;obtain⟨y,rfl,hy⟩:=h2.dY;obtain⟨p,xs,rfl,hq,r⟩:=D.dX h1 e1;rw[oS.mp r]at hq;exact⟨p,ns,n,rfl,by rw[show y=V.int n from hy],gk.of hq,k.now (dv:=.im (.int _)) D rfl q⟩⟩
theorem anyI(z:Int):∀ xs:List Int,((xs.map PyData.int).any fun d=>PyData.eqv d (.int z))=decide (z∈xs)
 | []=>by simp
 | x::xs=>by
  rw[aaM,abF,anyI z xs,show PyData.eqv (.int x) (.int z)=(x == z) from rfl]
  by_cases e:x=z
  .simp[e]
  .have:¬ z=x:=fun q=>e q.symm;simp[e,this]
theorem anyS(z:Str):∀ xs:List Str,((xs.map PyData.str).any fun d=>PyData.eqv d (.str z))=decide (z∈xs)
 | []=>by simp
 | x::xs=>by
  rw[aaM,abF,anyS z xs,show PyData.eqv (.str x) (.str z)=(x == z) from rfl]
  by_cases e:x=z
  .simp[e]
  .have:¬ z=x:=fun q=>e q.symm;simp[e,this]
section
variable {W:Wd}{Q:DK}{neg:Bool}{b:DV}{p:Addr}{ds:wE}
theorem Td(e:W p=some (.lst (ds.map .im))):hV W (.pt p)=some ds:=by
 have e1:dX W (.pt p)=some (ds.map .im):=by unfold dX;dsimp only;rw[e]
 unfold hV iX;rw[e1];exact jT (fun _=>by rfl) ds
theorem jI{z:Int}{xs:wn}(e:hV W b=some (xs.map .int))(h:Q (.im (.bool (if neg then !decide (z∈xs)else decide (z∈xs)))) W):uR neg (.im (.int z)) b W Q :=
 ⟨_,_,rfl,e,.inl ⟨rfl,by rw[abH];intro d hd;obtain⟨x,_,rfl⟩:=abe.mp hd;rfl⟩,by rw[anyI];exact h⟩
theorem lh{z:Str}{xs:wv}(e:hV W b=some (xs.map .str))(h:Q (.im (.bool (if neg then !decide (z∈xs)else decide (z∈xs)))) W):uR neg (.im (.str z)) b W Q :=
 ⟨_,_,rfl,e,.inl ⟨rfl,by rw[abH];intro d hd;obtain⟨x,_,rfl⟩:=abe.mp hd;rfl⟩,by rw[anyS];exact h⟩
end
end L2
namespace L2
open PySem PySem.Spec PyProof.Rows PySem.StrLaws PySem.Builtin.Str
end L2
namespace L2
open PySem PySem.Spec PyProof.Rows
end L2
namespace L2
open PySem PySem.Spec PyProof.Rows
variable {C:DC}
abbrev ye(K:zn)(Rs:Hp->Addr->Addr->Nat->Prop)(H:Hp)(W:Wd)(O:Addr->Prop)(E:XK):DC:=⟨K,Rs,H,fun a=>(W a).isSome=true,O,E,fun _=>False⟩
abbrev wO:=List DV->Wd->(DV->Wd->Prop)->Prop
noncomputable def kD(K:zn)(Rs:Hp->Addr->Addr->Nat->Prop)(S:wO):Sp:=fun vs H Q E=>∃(O:Addr->Prop) (aK:List DV) (W:Wd) (R:DV->Wd->Prop),
 (∀ a,O a->H a≠none)/\(∀ p c,W p=some c->¬ O p/\H p≠none/\bX (ye K Rs H W O E) W H p c)/\aO (ye K Rs H W O E) (Fz (ye K Rs H W O E) W H) aK vs/\S aK W R /\
 (∀ v dv H' W',R dv W'->(∀ a o,H a=some o->W a=none->H' a=some o)->(∀ a,H a≠none->H' a≠none)->(∀ p c,W' p=some c->(H p=none\/(W p).isSome=true)/\¬ O p/\bX (ye K Rs H W O E) W' H' p c)->eF (ye K Rs H W O E) (Fz (ye K Rs H W O E) W' H') dv v->Q v H')
section
variable {P:u8}{w:World}{K:zn}{mg:xL}{base:Heap}{x qual:Str}{st:Stmt}{f:Addr}{fd:wT}{N ps:wv}{k:Nat}{Sd:wO}{Rs:Hp->Addr->Addr->Nat->Prop}
theorem EH{vs:List V}{H:Hp}{Q:VK}{E:XK}{t:TS}(ok:xV Rs)(h:kD K Rs Sd vs H Q E)(hb:∀ O W,∃ d,LS (ye K Rs H W O E) t d/\∀ aK R,Sd aK W R->d (Iz R) (cC N aK) W):t { nx:=fun _ H'=>Q .dH H',rt:=Q } (start N vs) H:=by
 obtain⟨O,aK,W,R,hO,hc,hv,hS,hR⟩:=h;obtain⟨d,hd,hb⟩:=hb O W;have D:DR (ye K Rs H W O E) (start N vs) H (cC N aK) W:=by
  refine⟨⟨ok.rs,ok.rn,fun c Xf=>Xf.elim⟩,fun a o e _=>e,hO,fun a ha=>?_,?_,fun p c e=>⟨.inr (by show(W p).isSome=true;rw[e];rfl),(hc p c e).1,(hc p c e).2.2⟩⟩
  .cases q:W a with
   | none=>have pU:(W a).isSome=true:=ha;rw[q]at pU;cases pU
   | some c=>exact(hc a c q).2.1
  .unfold start cC;rw[hv.length];exact Slots.start _ hv
 have fr:∀ bH H' cG W',DR (ye K Rs H W O E) bH H' cG W'->(∀ a o,H a=some o->W a=none->H' a=some o)/\(∀ a,H a≠none->H' a≠none)/\∀ p c,W' p=some c->(H p=none\/(W p).isSome=true)/\¬ O p/\bX (ye K Rs H W O E) W' H' p c:=fun bH H' cG W' D' =>
  ⟨fun a o e e2=>D'.fr a o e (by show ¬ (W a).isSome=true;rw[e2];exact fun z=>nomatch z),fun a ha=>by
   cases q:W a with
   | none=>cases q2:H a with
    | none=>exact absurd q2 ha
    | some o=>rw[D'.fr a o q2 (by show ¬ (W a).isSome=true;rw[q];exact fun z=>nomatch z)];exact fun z=>nomatch z
   | some c=>exact D'.th a (by show(W a).isSome=true;rw[q];rfl),fun p c e=>D'.ce p c e⟩
 refine hd.go D (hb aK R hS) ⟨fun bH H' cG W' D' s q=>?_,fun bH H' cG W' D' s q=>q.elim,fun bH H' cG W' D' s q=>q.elim,fun x dv bH H' cG W' D' s v q=>?_⟩
 .obtain⟨f1,f2,f3⟩:=fr bH H' cG W' D';exact hR .dH (.im .none) H' W' q f1 f2 f3 rfl
 .obtain⟨f1,f2,f3⟩:=fr bH H' cG W' D';exact hR x dv H' W' q f1 f2 f3 v
theorem cR.GW(F:cR K x qual st f fd)(S:az N ps (defScope st))(ok:xV Rs)(hlen:∀ aK W R,Sd aK W R->aK.length=ps.length)(eG:∀(bB:Value) (A:tx) (outer:List Env) (s:Shared) (H:Hp) (E:XK),de k (A.deeper (envOfC qual (defScope st) s.heap.objs.size f bB)) ->
   ∃ t,ua (gC df P w K mg base N qual (defScope st) f bB A outer s H E).AU (defBody st) t/\∀ O W,∃ d,LS (ye K Rs H W O E) t d/\∀ aK R,Sd aK W R->d (Iz R) (cC N aK) W):ba P w K mg base df (k+1) f fd ps (kD K Rs Sd) :=
 F.Ni S (fun vs H Q E zz=>by obtain⟨O,aK,W,R,_,_,hv,hS,_⟩:=zz; rw[<- hv.length];exact hlen aK W R hS) fun bB A outer s H vs Q E hr h=>by
  obtain⟨t,h1,h2⟩:=eG bB A outer s H E hr;exact⟨t,h1,EH ok h h2⟩
end
def dV(S:wO):List DV->Wd->DK->Prop:=fun as W Q=>S as W Q
section
variable {Z:St}{H H':Hp}{Y:bW}{W W':Wd}{Qd:DK}{Q:VK}
theorem bX.Lc{C':DC}(hK:C'.K=C.K)(hR:C'.Rs=C.Rs)(hO:C'.O=C.O){p:Addr}:∀{c:Cell},bX C W H p c->bX C' W H p c:=by
 have e:Fz C' W H=Fz C W H:=by unfold Fz;rw[hO]
 intro c h;cases c with
 | lst aK=>obtain⟨xs,e1,r⟩:=h;exact⟨xs,e1,by rw[e];exact r.conv hK⟩
 | aI g n=>exact⟨by rw[hR];exact h.1,h.2⟩
 | part=>exact h
 | dk kvs=>obtain⟨ks,e1,k,r⟩:=h;exact⟨ks,e1,k,by rw[e];exact r.conv hK⟩
 | dt kvs=>obtain⟨ks,e1,k,r⟩:=h;exact⟨ks,e1,k,by rw[e];exact r.conv hK⟩
 | ob _ _ kvs=>obtain⟨ks,e1,k,r⟩:=h;exact⟨ks,e1,k,by rw[e];exact r.conv hK⟩
theorem EI{K:zn}{Rs:Hp->Addr->Addr->Nat->Prop}{S:wO}{E:XK}(hK:C.K=K)(hR:C.Rs=Rs){as:List DV}{xs:List V}(R:DR C Z H Y W)(h:aO C (Fz C W H) as xs)(hd:dV S as W Qd)(k:KE C Z Y W H Qd Q):kD K Rs S xs H Q E:=by
 subst hK hR;refine⟨C.O,as,W,Qd,R.ho,fun p c e=>?_,aO.conv (C:=C) (C':=ye C.K C.Rs H W C.O E) (F:=Fz C W H) rfl h,hd,fun v dv H' W' q f1 f2 f3 hv=>?_⟩
 .obtain⟨_,g2,g3⟩:=R.ce p c e;exact⟨g2,R.there e,bX.Lc (C:=C) (C':=ye C.K C.Rs H W C.O E) rfl rfl rfl g3⟩
 .obtain⟨R',s'⟩:=R.step (W':=W') (H':=H') (fun a z=>by
    cases q:W' a with
    | none=>rw[q]at z;cases z
    | some c=>exact(f3 a c q).1.symm) f1 f2 fun s p c e=>by
   obtain⟨e1,e2,e3⟩:=f3 p c e;refine⟨?_,e2,bX.Lc (C:=ye C.K C.Rs H W C.O E) (C':=C) rfl rfl rfl e3⟩;rcases e1 with e1 | e1
   .exact .inl (R.Ku e1)
   .cases q2:W p with
    | none=>rw[q2]at e1;cases e1
    | some c'=>exact(R.ce p c' q2).1
  exact k v dv H' _ R' s' (eF.conv (C:=ye C.K C.Rs H W C.O E) (C':=C) (F:=Fz C W' H') rfl hv) q
noncomputable instance {K:zn}[hk:lV C K]{Rs:Hp->Addr->Addr->Nat->Prop}[hs:HU C Rs]{S:wO}{E:XK}:Ig C (kD K Rs S) E (dV S):=by
 obtain⟨hR⟩:=hs;exact⟨fun R h hd k=>EI hk.eq hR R h hd k⟩
end
theorem cE{S:wO}{as:List DV}{W:Wd}{Q:DK}(h:S as W Q):dV S as W Q:=h
end L2
namespace HT
open PySem PyProof.Rows
section
open PySem.SeqAt
open PySem.AutoSeq1 (wpAny_loadPart')
open PySem.MeetsSeq PySem.MeetsSeq2 PySem.MeetsSeq3
variable {prog:u8}{w:World}{A:tx}{E:xz}{s:Shared}
theorem j6{t sl:Addr}{items:Array Value}{vl vu:Value}{lo hi:v0}{Q:xz}(ht:IsTup s.heap t items)(hs:s.heap.IsSliceOf sl vl vu .none)(pl:IsPart vl lo)(pu:IsPart vu hi)(h1:dG items.size 0 lo=0)(h2:dG items.size items.size hi=items.size)(h:Q (.ref t) s):wpAny (model prog w) A (getItem (.ref t) (.ref sl)) Q E s:=by
 obtain⟨os,MJ,Ur,QN⟩:=id hs;have VA:s.TypeIs (.ref sl) "slice":=⟨os,MJ,Ur⟩;unfold getItem
 try with_reducible refine abw ?_
 first | refine aaw (aay ?_) | skip
 refine aaw (wpAny_sequenceKey ht.typeIs @1 ?_);refine aaw (abr (name:=Str.ofString "__getitem__") ht.typeIs abp
  (abx abp ht.typeIs entry_tuple_getitem ?_ (args_tuple_getitem _ _)))
 show wpAny _ _ (Builtin.Tuple.tupleItemsOf (.ref t) >>= _) _ _ s;refine aaw (tupleItemsOf_ ht ?_);refine aaw (adw VA ?_);rw[aaO @1];refine aaw (iR hs pl pu ?_);have hy:((((dG items.size 0 lo:Nat):Int) == 0&&(1:Int) == 1&&(dG items.size items.size hi - dG items.size 0 lo) == items.size)=true):=by
  rw[h1,h2];simp
 show wpAny _ _ (if(((dG items.size 0 lo:Nat):Int) == 0&&(1:Int) == 1&&(dG items.size items.size hi - dG items.size 0 lo) == items.size)=true then _ else _) _ _ s;rw[aaO hy];refine aaw ?_;refine aaw (adw ht.typeIs (aay ?_));rw[aaO @1]
 first | exact aay ⟨_,rfl,aay h⟩ | (refine aaw (acP ?_);exact aay ⟨_,rfl,aay h⟩)
end
end HT
namespace L2
open PySem PySem.Spec PyProof.Rows
noncomputable def Te(K:zn):V->v0->v0->Hp->VK->Prop:=fun x lo hi H Q=>∃ a xs,x=.ref a/\fX K H a xs /\
 ((HT.dG xs.length 0 lo=0/\HT.dG xs.length xs.length hi=xs.length/\Q (.ref a) H)\/(¬ (HT.dG xs.length 0 lo=0/\HT.dG xs.length xs.length hi=xs.length)/\∀ p,H p=none->Q (.ref p) (upd H p (.tup (lL xs lo hi)))))
theorem lj{X:Cx}:QO X (Te X.K):=by
 intro pins s Z H x v vl vu lo hi sl Q I rx hs pl pu h;obtain⟨a,xs,rfl,hx,h | h⟩:=h
 .cases rx;obtain⟨aV,r,ht,hz⟩:=I.tuple hx;have hlen:aV.toArray.size=xs.length:=by rw[aaL];exact r.length.symm
  exact⟨"tuple",_,abp.lookup,ht.typeIs,HT.j6 ht hs pl pu (by rw[hlen];exact h.1) (by rw[hlen];exact h.2.1) ⟨.ref a,H,I,rfl,h.2.2⟩⟩
 .exact oy pins s Z H _ v vl vu lo hi sl Q I rx hs pl pu ⟨a,xs,rfl,hx,h.1,h.2⟩
section
variable {C:DC}
noncomputable def Xs:DV->v0->v0->Wd->DK->Prop:=fun a lo hi W Q=>∃ ds,a=.im (.tuple ds)/\Q (.im (.tuple (cutD ds lo hi))) W
theorem yf{J:Type}{xs:List J}{lo hi:v0}(h1:HT.dG xs.length 0 lo=0)(h2:HT.dG xs.length xs.length hi=xs.length):cutD xs lo hi=xs:=by
 unfold cutD;rw[h1,h2];simp
noncomputable instance {K:zn}[hk:lV C K]:UG C (Te K) Xs:=by
 obtain⟨rfl⟩:=hk;exact⟨fun{_ _ _ _ _ _ _ _ lo hi} D h ⟨ds,e,q⟩ k=>by
 subst e;obtain⟨p,xs,rfl,hq,r⟩:=h
 by_cases hn:HT.dG ds.length 0 lo=0/\HT.dG ds.length ds.length hi=ds.length
 .refine⟨p,xs,rfl,fX.of (Fz.le hq),.inl ⟨by rw[<- r.length];exact hn.1,by rw[<- r.length];exact hn.2,?_⟩⟩;rw[yf hn.1 hn.2]at q;exact k.now (dv:=.im (.tuple ds)) D ⟨p,xs,rfl,hq,r⟩ q
 .refine⟨p,xs,rfl,fX.of (Fz.le hq),.inr ⟨by rw[<- r.length];exact hn,fun l hl=>?_⟩⟩;obtain⟨D3,s3,e3⟩:=D.Cm hl (.tup (lL xs lo hi));exact k _ (.im (.tuple _)) _ _ D3 s3 ⟨l,_,rfl,e3,ay.same s3 r.cut⟩ q⟩
end
theorem vp{J:Type}{a:J}{l:List J}{k:Nat}:cutD (a::l) none (some ((k+1:Nat):Int))=a::l.take k:=by
 unfold cutD;rw[HT.jR,show HT.dG (a::l).length 0 none=0 from rfl];simp
theorem vq{J:Type}{a:J}{l:List J}{k:Nat}:cutD (a::l) (some ((k+1:Nat):Int)) none=l.drop k:=by
 unfold cutD;rw[HT.jR,show HT.dG (a::l).length (a::l).length none=(a::l).length from rfl];simp;rw[abA (by rw[abG];omega)]
 by_cases h:k<=l.length
 .rw[adn h]
 .rw[Nat.min_eq_right @0,List.drop_eq_nil_of_le (aaC _),List.drop_eq_nil_of_le @0]
theorem OQ{W:Wd}{L:Ws}{K:zn}{k p d:Addr}{fs:List (Str×DV)}{ns:wv}{f:Str}{v:DV}{B:Addr->Addr->DV->Prop}(h:At W L)(c:gH K k ns)(i:Nat)(e:L[i]?=some (p,.ob k d fs))(n:f∈ns)(l:fs.lookup f=some v)(hq:B p k v):∃ p' k d fs v,DV.pt p=.pt p'/\W p'=some (.ob k d fs)/\mP K k/\cM K k f/\fs.lookup f=some v/\B p' k v:=⟨p,k,d,fs,v,rfl,h.get i e,c.c,c.n f n,l,hq⟩
noncomputable def Ld:V->List V->Hp->VK->Prop:=fun x vs H Q=>∃ l kvs k y,x=.ref l/\vs=[kV k,y]/\H l=some (.dK kvs)/\Q ((iz kvs k).getD y) H
theorem IJ{X:Cx}:Us X "dict.get" Ld:=by
 intro pins s Z H x vs v us Q I rx rv h;obtain⟨l,kvs,k,y,rfl,rfl,hH,q⟩:=h;cases rx;obtain⟨u,r,rfl,ru,rr⟩:=rv.two;obtain⟨z,hd,ws,rel,dd⟩:=uy I.cu hH;refine call_meetsIn PySem.F.slot_dict_get dd.typeIs PySem.F.entry_dict_get (PySem.F.args_dict_get_3 _ _ _) (meets_dict_get_default (cb X.prog X.w) l (ql ru) hd r) ⟨_,dd.mapOf,?_⟩;have Le:=rel.val k;cases h1:iz kvs k with
 | none =>
  rw[h1]at Le q;cases h2:valueAt ws k with
  | none=>exact⟨y,H,I.tok _,rr,q⟩
  | some v'=>rw[h2]at Le;exact absurd Le (by intro z;cases z)
 | some vv =>
  rw[h1]at Le q;cases h2:valueAt ws k with
  | none=>rw[h2]at Le;exact absurd Le (by intro z;cases z)
  | some v'=>rw[h2]at Le;exact⟨vv,H,I.tok _,Le,q⟩
noncomputable def Lf:V->List V->Hp->VK->Prop:=fun x vs H Q=>∃ l m kvs more,x=.ref l/\vs=[.ref m]/\l≠m/\H l=some (.dK kvs)/\H m=some (.dK more)/\kvs.length+more.length<=sizeLine/\Q .dH (upd H l (.dK (ja kvs more)))
theorem IK{X:Cx}:Us X "dict.update" Lf:=by
 intro pins s Z H x vs v us Q I rx rv h;obtain⟨l,m,kvs,more,rfl,rfl,jx,hl,hm,hz,q⟩:=h;cases rx;obtain⟨u,rfl,ru⟩:=vals1 rv;cases ru;obtain⟨z,hd,ws,rel,dd⟩:=uy I.cu hl;obtain⟨z2,hd2,ws2,Tf,P4⟩:=uy I.cu hm;have hlen:(ja kvs more).length<=sizeLine:=aaE (iK more kvs) hz;refine call_meetsIn adG dd.typeIs PySem.F.entry_dict_update (PySem.F.args_dict_update_2 _ _) (meets_dict_update (cb X.prog X.w) l m jx hd2) ⟨ws,ws2,dd,P4,by rw[<- rel.length,<- Tf.length];exact hz,fun h' GQ _ hs=>?_⟩;have he:∃ q,h'.get? l=some q:=let ⟨q,_,_,hq,_⟩:=GQ;⟨q,hq⟩;exact⟨.dH,_,ny (t':=s.toks) I (by rw[hl];exact True.intro) hs he (xp hlen hd (KV.merge Tf rel) GQ),rfl,q⟩
section
variable {C:DC}{Z:St}{H H':Hp}{Y:bW}{W W':Wd}{Qd:DK}{Q:VK}
noncomputable def Lg:DV->List DV->Wd->DK->Prop:=fun a as W Q=>∃ p kvs b k v,a=.pt p/\as=[b,v]/\W p=some (.dk kvs)/\oQ b=some k/\Q ((iN kvs k).getD v) W
noncomputable instance:Qb C Ld Lg:=⟨fun D h1 h2 zz k=>by
 obtain⟨p,kvs,b,k',v,e1,e2,e3,ek,q⟩:=zz
 subst e1 e2;cases h1;obtain⟨y1,y2,rfl,Xu,hy2⟩:=h2.nH;obtain⟨_,_,xs,hx,hk,Oy⟩:=D.ce p _ e3;have ka:=iI hk Oy;refine⟨p,xs,k',y2,rfl,by rw[nL Xu ek],hx,?_⟩;rcases ka.get (k:=k') with⟨g,z⟩ | ⟨dv,v',g1,g2,g3⟩
 .rw[z];rw[g]at q;exact k.now D hy2 q
 .rw[g2];rw[g1]at q;exact k.now D g3 q⟩
noncomputable def Lh:DV->List DV->Wd->DK->Prop:=fun a as W Q=>∃ p m kvs more,a=.pt p/\as=[.pt m]/\p≠m/\W p=some (.dk kvs)/\W m=some (.dk more)/\kvs.length+more.length<=sizeLine/\Q (.im .none) (aG W p (.dk (gG kvs more)))
noncomputable instance:Qb C Lf Lh:=⟨fun D h1 h2 zz k=>by
 obtain⟨p,m,kvs,more,e1,e2,jx,e3,e4,hz,q⟩:=zz
 subst e1 e2;cases h1;obtain⟨y1,rfl,Xu⟩:=h2.dY;cases Xu;obtain⟨_,_,xs,hx,hk,Oy⟩:=D.ce p _ e3;have ka:=iI hk Oy;obtain⟨_,_,ZO,Xh,OK,Xv⟩:=D.ce m _ e4;have ZP:=iI OK Xv;refine⟨p,m,xs,ZO,rfl,rfl,jx,hx,Xh,by rw[<- ka.length,<- ZP.length];exact hz,?_⟩;obtain⟨D2,s2⟩:=D.Qa (o:=.dK (ja xs ZO)) (c:=.dk (gG kvs more)) e3 rfl rfl fun s=>by
  obtain⟨g1,g2⟩:=jV (eC.merge (ZP.mono s) (ka.mono s));exact⟨_,cv,g1,g2⟩
 exact k _ (.im .none) _ _ D2 s2 rfl q⟩
theorem OR{p:Addr}{kvs:List (Key×DV)}{b v u:DV}{k:Key}(e:W p=some (.dk kvs))(ek:oQ b=some k)(hv:(iN kvs k).getD v=u)(h:Qd u W):Lg (.pt p) [b,v] W Qd:=⟨p,kvs,b,k,v,rfl,rfl,e,ek,by rw[hv];exact h⟩
theorem OS{p m:Addr}{kvs more kvs':List (Key×DV)}(jx:p≠m)(e:W p=some (.dk kvs))(e2:W m=some (.dk more))(hz:kvs.length+more.length<=sizeLine)(em:gG kvs more=kvs')(h:∀ W',W' p=some (.dk kvs')->Fr p W W'->Qd (.im .none) W'):Lh (.pt p) [.pt m] W Qd :=
 ⟨p,m,kvs,more,rfl,rfl,jx,e,e2,hz,by rw[em];exact h _ av fun a ha=>aB ha⟩
end
noncomputable def vt:List V->Option wv
 | []=>some []
 | .str x::r=>(vt r).map (x::·)
 | _=>none
noncomputable def Aq:List V->Option wn
 | []=>some []
 | .int x::r=>(Aq r).map (x::·)
 | _=>none
theorem oZ:∀{ks:List V} {xs:wv},vt ks=some xs->ks.map GS=(xs.map PyData.str).map DV.im
 | [],_,e=>by cases e;rfl
 | .str x::r,_,e=>by
  obtain⟨ys,e1,rfl⟩:=aaB.mp (show(vt r).map (x::·)=_ from e);rw[aaM,oZ e1];rfl
theorem vw:∀{ks:List V} {xs:wn},Aq ks=some xs->ks.map GS=(xs.map PyData.int).map DV.im
 | [],_,e=>by cases e;rfl
 | .int x::r,_,e=>by
  obtain⟨ys,e1,rfl⟩:=aaB.mp (show(Aq r).map (x::·)=_ from e);rw[aaM,vw e1];rfl
section
variable {W:Wd}{ks:List V}{B:Bool->Wd->Prop}
theorem yg{ds:wE}:hV W (.im (.tuple ds))=some ds:=jT (fun _=>by rfl) ds
theorem OT{z:Str}{xs:wv}(e:vt ks=some xs)(hl:xs.length<=1000)(h:B (decide (z∈xs)) W):oK (ks.map GS) W fun u W2=>uR false (.im (.str z)) u W2 fun v W1=>∃ b,v=.im (.bool b)/\B b W1:=by
 rw[oZ e];exact aH (by rw[aav];exact aaE hl @1) (lh yg ⟨_,rfl,h⟩)
theorem OU{z:Str}{xs:wv}(e:vt ks=some xs)(hl:xs.length<=1000)(h:B (!decide (z∈xs)) W):oK (ks.map GS) W fun u W2=>uR true (.im (.str z)) u W2 fun v W1=>∃ b,v=.im (.bool b)/\B b W1:=by
 rw[oZ e];exact aH (by rw[aav];exact aaE hl @1) (lh yg ⟨_,rfl,h⟩)
theorem OV{z:Int}{xs:wn}(e:Aq ks=some xs)(hl:xs.length<=1000)(h:B (decide (z∈xs)) W):oK (ks.map GS) W fun u W2=>uR false (.im (.int z)) u W2 fun v W1=>∃ b,v=.im (.bool b)/\B b W1:=by
 rw[vw e];exact aH (by rw[aav];exact aaE hl @1) (jI yg ⟨_,rfl,h⟩)
end
noncomputable def EJ(K:zn):List V->Hp->VK->Prop:=fun xs H Q=>∃(p:Addr) (ns:wn),xs=[.ref p]/\gk K H p (ns.map V.int)/\ns.length < 64 /\
 ∀(l:Addr) (gQ:wn),H l=none->gQ.Perm ns->gQ.Pairwise (·<=·)->Q (.ref l) (upd H l (.lst (gQ.map V.int)))
theorem yh{X:Cx}:gb X (.builtin "sorted") (EJ X.K):=by
 intro pins s Z H xs us Q I r h;obtain⟨p,ns,rfl,hq,Xq,q⟩:=h;obtain⟨u,rfl,ru⟩:=vals1 r;cases ru;obtain⟨aV,rv,pl,hz⟩:=I.list hq;refine sorted_ints pl.isList (intsAre_of rv) (by rw[<- rv.length];simpa using Xq) fun out gQ a1 a2 a3=>?_;obtain⟨c,e⟩:=sortedAll_at s.heap aV out;have hv:=kA a1;have II:(gQ.map V.int).length<=sizeLine:=by rw[aav,a2.length_eq];exact aaE (aaQ Xq) @1
 have I2:=I.laid (t':=s.toks) (a:=s.heap.objs.size+1) (o:=.lst (gQ.map V.int)) (fun b o e=>sortedAll_old e) (abI _) (show cm X.prog X.w _ (sortedAll s.heap aV out) _ (.lst _) from ⟨II,out.toList,c,hv,by rw[ade];exact e⟩);exact⟨.ref (s.heap.objs.size+1),_,I2,rfl,q _ gQ (I.cu.fresh (abI _)) a2 a3⟩
section
variable {C:DC}
noncomputable def OW:List DV->Wd->DK->Prop:=fun as W Q=>∃(a:DV) (ns:wn),as=[a]/\dX W a=some (ns.map fun i=>.im (.int i))/\ns.length < 64/\∀ gQ:List Int,gQ.Perm ns->gQ.Pairwise (·<=·)->iW (gQ.map fun i=>.im (.int i)) W Q
noncomputable instance {K:zn}[hk:lV C K]:HV C (EJ K) OW:=by
 obtain⟨rfl⟩:=hk;exact⟨fun D h zz k=>by
  obtain⟨a,ns,e,e2,hn,q⟩:=zz
  subst e;obtain⟨x,rfl,hx⟩:=h.dY;obtain⟨p,xs,rfl,hq,r⟩:=D.dX hx e2;rw[oS.mp r]at hq;exact⟨p,ns,rfl,gk.of hq,hn,fun l gQ hl h1 h2=>gP D (oS.mpr rfl) hl (q gQ h1 h2) k⟩⟩
end
end L2
set_option synthInstance.maxHeartbeats 0
set_option synthInstance.maxSize 100000
namespace T1
open PySem L2
variable {P:u8}{w:World}{mg:xL}{base:Heap}{f fD aR aS kH p f1 f2 f3 f4 C:Addr}{fd O1 Ti d1 d2 d3 d4 d5:wT}{l xs sp ns:wn}{W W':Wd}{Q:DK}{J:Type}{m b off:Int}{n:Nat}{ds:wE}{L:Ws}{Kc:Wd->Prop}
local macro_rules|`(tactic|array_mem_dec)=>do
 let o0<-`(Lean.Parser.Tactic.tacticSeq|((with_reducible refine WQ ?_);refine⟨rfl,?_⟩))
 let o1<-`(Lean.Parser.Tactic.tacticSeq|((with_reducible apply WX);(· omega);(· omega)))
 let o2<-`(Lean.Parser.Tactic.tacticSeq|((with_reducible apply Zr);· first | (show(0:Int) < _;omega) | (show(0:Int) < _;decide) | exact⟨@0,@0⟩ | exact .inl ⟨@0,@0⟩ | exact .inr ⟨@0,@0⟩ | exact .inr ⟨@1,@1⟩ | exact⟨@1,@1,@1⟩ | exact⟨@1,@1,@0⟩))
 let a<-_root_.mS #[o0,o1,o2] ("r L2.R9;A L2.x_c L2.WI L2.Oe L2.WK L2.Sg L2.R7 L2.xW L2.WG L2.R5 L2.WR L2.R6;r L2.Xc;A L2.WL L2.WV L2.WW L2.Sl L2.So L2.Sa L2.Si L2.Oz L2.S5 L2.cH L2.Sf;0;2;A L2.Sj L2.N0 L2.Oa L2.OI L2.IF L2.OB L2.IG L2.Xb L2.Og L2.SU L2.Od L2.OA L2.Iq L2.WM L2.Sb L2.WN L2.OF L2.NZ L2.WS L2.Of L2.WU L2.Ek L2.SD L2.Ol;1;A L2.Sk L2.R8 L2.WY L2.SV;r L2.SR;A L2.Sn L2.Sq L2.Sr L2.Oh L2.Oi;m L2.Oj;m L2.WZ;m L2.K5;A L2.WJ L2.Su L2.Sv;m L2.uX;A L2.Xa L2.x_U L2.Oq L2.WH L2.Ob L2.SJ L2.SF L2.Ez L2.x_raise L2.Xe L2.Oc L2.Oo L2.OG L2.Se L2.Ip L2.Om L2.Sw L2.SH L2.DL L2.xH L2.Wf L2.Wh aak".splitOn ";") #[]
 `(tactic|first $[|$a]*)
local macro_rules|`(tactic|lia)=>do
 let o0<-`(Lean.Parser.Tactic.tacticSeq|array_mem_dec)
 let a<-_root_.mS #[o0] ("0;r L2.bO;d L2.pT;d L2.kl;d L2.xI;d L2.xJ;o L2.pT;o L2.kl;o L2.xI;o L2.xJ".splitOn ";") #[]
 `(tactic|repeat first $[|$a]*)
local macro_rules|`(!($s:str,$ts,*))=>do
 let mut p:="";let mut q:=#[""];q:=#[];let mut w:=ts.getElems.toList.reverse;let mut e:List Lean.Term:=[]
 for c in s.getString.toList do
  if p=="" && (c.isDigit||"*?/~^&%+=".contains c) then q:=q.push c.toString else if p !="" && (p.front !='.'||c==' ') then q:=q.push (if c==' ' then (p.drop 1).toString else p.push c);p:="" else p:=p.push c
 for x in q.reverse do
  if x=="*" then e:=w.head!::e;w:=w.tail else if x.front.isDigit then e:=Lean.Syntax.mkApp (Lean.mkIdent `ah) #[Lean.quote x.toNat!]::e else if x=="?" then e:=(<-`(fun _ _ _ _=>$(e.head!)))::e.tail else if x=="/" then e:=(<-`(fun _ _ _=>$(e.head!)))::e.tail else if x=="~" then e:=(<-`(z))::e else if x=="^" then e:=(<-`(⟨rfl,rfl,rfl,rfl,rfl,rfl⟩))::e else if x=="&" then e:=(<-`(have z:List.Nodup (($(e[0]!)):wv):=(by decide +kernel);dn (N':=$(e[0]!)) (ix:=$(e[1]!)) $(e[2]!) $(e[3]!) $(e[4]!) $(e[5]!) $(e[6]!)))::e.drop 7 else if x=="jj" then e:=(<-`(jj (n:=$(e[0]!)) $(e[1]!)))::e.drop 2 else if x=="%" then e:=(<-`(have z:List.Nodup (($(e[1]!)):wv):=(by decide +kernel);oH $(e[0]!) (N':=$(e[1]!)) (ix:=$(e[2]!)) $(e[3]!) $(e[4]!) $(e[5]!) $(e[6]!) $(e[7]!) $(e[8]!)))::e.drop 9 else
   let n:=match (["? Bq Ka Kb Rq aJ ah ai ax bC bD bJ bM br cX cz eM eO fJ gE gW gw iT jh kG lW mE qx sD uK zI","HF HG Sx VZ aX aa ae ak bS dP dq uL w_and w_or zG","Al OE Rt aA aC aM aT aq bb dJ iD jy oR pS rY se zH","BL bE cK fM fb jZ zJ","HH","j1"]:List String).findIdx? fun l=>(l.splitOn " ").contains x with | some n=>n+1 | none=>0
   e:=Lean.Syntax.mkApp (Lean.mkIdent x.toName) (e.take n).toArray::e.drop n
 return e.head!
local macro_rules|`(tactic|ext)=>do
 let o0<-`(Lean.Parser.Tactic.tacticSeq|array_mem_dec)
 let o1<-`(Lean.Parser.Tactic.tacticSeq|with_reducible refine OH (by assumption) (by assumption) 0 (by with_unfolding_all rfl) (by decide +kernel) (by with_unfolding_all rfl) ?_)
 let o2<-`(Lean.Parser.Tactic.tacticSeq|with_reducible refine OQ (by assumption) (by assumption) 0 (by with_unfolding_all rfl) (by decide +kernel) (by with_unfolding_all rfl) ?_)
 let o3<-`(Lean.Parser.Tactic.tacticSeq|with_reducible refine IE (by assumption) 0 (by with_unfolding_all rfl) (by with_unfolding_all rfl) ?_)
 let a<-_root_.mS #[o0,o1,o2,o3] ("0;r L2.bO;mr L2.eQ;1;2;3;d L2.pT;d L2.kl;d L2.xI;d L2.xJ;er L2.bO;f L2.DL;f L2.xH".splitOn ";") #[]
 `(tactic|repeat first $[|$a]*)
local macro_rules | `(tactic| rfl') => `(tactic| repeat array_mem_dec)
local macro_rules | `(tactic| symm) => `(tactic| (try dsimp only[gC,Cx.AU,Cx.nY,jf,Cx.RF,Cx.marked]))
local macro_rules | `(tactic| ac_rfl) => `(tactic| exact ⟨rfl,rfl,rfl,by decide +kernel,rfl,by decide +kernel,by decide +kernel⟩)
local macro_rules | `(tactic| nofun) => `(tactic| (intros; rename_i h; repeat (first | (obtain ⟨e, _⟩ := h; rw [e]; rfl) | obtain ⟨_, h⟩ := h)))
set_option hygiene false in
local macro_rules | `(tactic| exact_mod_cast $e) => `(tactic| (refine $e fun bB A outer s H E hr=>?_;have hu:=hr.units))
set_option hygiene false in
local macro_rules | `(tactic| norm_cast) => `(tactic| (clear hu;symm;refine fun O X W=>⟨_,inferInstance,?_⟩))
set_option hygiene false in
local macro_rules | `(tactic| push_cast) => `(tactic| (clear hu;symm;refine fun O X=>⟨_,inferInstance,?_⟩))
noncomputable abbrev Ar(K:zn):Sp:=Eh K
abbrev OX:Stmt:=top 36
abbrev EK:Stmt:=top 37
theorem qM:az ["script", "great", "fold", "cell"] ["script"] (defScope OX):=by ac_rfl
theorem sI:az ["bag", "many", "great", "one", "mixed"] ["bag", "many"] (defScope EK):=by ac_rfl
def Bg:Addr->Nat->Cell->wn->Prop:=fun g n c gs=>∃ f k:Int,c=.lst [.pt g,.im (.int f),.im (.int k)]/\0<=f/\f < 2147483629/\0<=k/\k<=n/\gs.length<=100
section
variable {K:zn}
theorem OY(F:cR K "_law_bag" "_law_bag" OX f fd):ba P w K mg base df 1 f fd ["script"] (Il K (bN Bg)):=by
 refine F.WE qM fun bB A outer s H E hr=>?_;refine⟨_,!("aeaC**bDagaeaC**afaejycX0aX**aeaTaAgL3afaiaC**bbkjaf3awaeaC**bbgUbbbfbbbfbbi82afbbgU3afafafaiaTaAj93bblJafafaieMj1.aaZ .aa9 .aba dm1aabbkj3bblJafafagawaiaxbDaa1aa2aaafag",1,qM.nd,2,qM.nd,3,qM.nd,3,qM.nd,2,qM.nd),?_⟩
 symm;refine⟨_,inferInstance,fun ns KS=>?_⟩;refine cA [_,none,none,none] rfl ?_
 rfl'
 refine⟨aaY _,.inl fun p hp=>?_⟩
 rfl'
 refine ao ?_
 rfl'
 refine Iu (fun i Y W=>∃(fo:Int) (gs:wn) (u:Option DV),Y=[some (.lH ns),some (.pt p),some (.im (.int fo)),u]/\W=aG W0 p (.lst (gM gs))/\gs.length<=i/\0<=fo/\fo < 2147483629) ⟨5,[],none,rfl,rfl,aaC _,@1,@1⟩ ?_ ?_
 .rintro i z Y W hi ⟨fo,gs,u,rfl,rfl,hl,f0,f1⟩;have Z1:i < ns.length:=(aaH.mp hi).1;have hw:aG W0 p (.lst (gM gs)) p=some (.lst (gM gs)):=av
  rfl'
  refine ao ?_
  rfl'
  refine fi (fun _=>?_) (fun _=>?_)
  all_goals
   rfl'
   refine fi (fun _=>?_) (fun _=>?_)
   .rfl'
    refine uW hw (by rw[aav];exact fw @0) ?_
    rfl'
    exact⟨_,gs++[_],_,rfl,by rw[lU,show ∀ z:Int,gM gs++[DV.im (.int z)]=gM (gs++[z]) from fun z=>by simp],by rw[aaV];simp;omega,ab3 _ @1,abO _ @1⟩
   .rfl'
    exact⟨_,gs,_,rfl,rfl,@0,ab3 _ @1,abO _ @1⟩
 .rintro Y W ⟨fo,gs,u,rfl,rfl,hl,f0,f1⟩
  rfl'
  refine⟨(by show 3<=sizeLine;decide),.inl fun q hq=>?_⟩;have pq:p≠q:=fun z=>by rw[<- z,av]at hq;cases hq
  exact⟨q,p,_,gs,rfl,av,by rw[aB pq];exact av,pq,⟨fo,0,rfl,f0,f1,aa1 _,aa1 _,@0⟩,rfl⟩
theorem IL(F:cR K "_law_draw" "_law_draw" EK f fd):ba P w K mg base df 1 f fd ["bag", "many"] (spT (bN Bg) iY):=by
 exact_mod_cast F.okO sI rfl (by nofun);refine⟨_,!("aezGbbbfak0afafzH0af.set_list aeaC**ak0afaeHFiT.w_and aAbMhu2bDagbJaAaJhuak2afafaieMj1.aaZ **Dr2aaafagaeaTaAbMhu2bDagaeaC**bbgUak2af1aezGbbuCak2af1zH2af.set_list aiax3awaeaC**bbgUbbbfbbi8bbbfak0afafbblJbbbfak0afafafbbi8afak0afafaiaxbbgUbbuCbbgUbblJ4afafaf1",2,sI.nd,PySem.F.slot_list_pop,PySem.F.type_list_pop,3,sI.nd,4,sI.nd),?_⟩
 clear hu;symm;refine fun t g O=>⟨_,inferInstance,?_⟩;rintro n ds R c gs gt ⟨fo,kk,rfl,f0,f1,k0,k1,hl⟩ ⟨m,rfl,hn,m0,m1,q⟩;refine cA [_,_,none,none,none] rfl ?_;have keys:∀(gs:wn) (k:Int),WO t g (.lst [.pt g,.im (.int fo),.im (.int k)]) gs t=some (.lst [.pt g,.im (.int fo),.im (.int k)])/\WO t g (.lst [.pt g,.im (.int fo),.im (.int k)]) gs g=some (.lst (gM gs)):=fun gs k=>⟨av,by unfold WO;rw[aB gt];exact av⟩;obtain⟨wt,wg⟩:=keys gs kk
 rfl'
 refine eQ wt rfl ?_
 rfl'
 refine⟨t,_,2,2,rfl,rfl,wt,rfl,?_⟩;rw[show aG (WO t g (.lst [.pt g,.im (.int fo),.im (.int kk)]) gs) t (.lst ([DV.pt g,.im (.int fo),.im (.int kk)].set 2 (.im (.int (kk+1)))))=WO t g (.lst [.pt g,.im (.int fo),.im (.int (kk+1))]) gs from lU];clear wt wg;have kt:=fun gs=>(keys gs (kk+1)).1;have kg:=fun gs=>(keys gs (kk+1)).2;have re:∀ x y,aG (WO t g (.lst [.pt g,.im (.int fo),.im (.int (kk+1))]) x) g (.lst (gM y))=WO t g (.lst [.pt g,.im (.int fo),.im (.int (kk+1))]) y:=fun x y=>by unfold WO;rw[By (acD gt),lU]
 rfl'
 refine eQ (kt gs) rfl ?_
 rfl'
 refine ao ?_;refine Io (fun j Y W=>∃ GU:List Int,j=GU.length/\GU.length<=100/\Y=[some (.pt t),some (.im (.int m)),some (.pt g),none,none]/\W=WO t g (.lst [.pt g,.im (.int fo),.im (.int (kk+1))]) GU) gs.length ⟨gs,rfl,hl,rfl,rfl⟩ ?_;rintro j Y W ⟨GU,rfl,UU,rfl,rfl⟩;have cl:PyData.canLay0 (.list (GU.map .int))=true:=eJ GU
 rfl'
 refine⟨_,oO (kg GU),cl,?_⟩;cases GU with
 | nil =>
  rfl'
  refine xH ?_
  rfl'
  refine ao ?_
  rfl'
  refine⟨_,oO (kg []),cl,?_⟩
  rfl'
  refine xH ?_
  rfl'
  refine eQ (kt []) rfl ?_
  rfl'
  refine eQ (kt []) rfl ?_
  rfl'
  refine eQ (kt []) rfl ?_
  rfl'
  exact⟨n+1,_,[],_,rfl,kt _,kg _,⟨fo,kk+1,rfl,f0,f1,@0,@0,@2⟩,rfl,q _ (ab3 _ @0) (abO _ m0)⟩
 | cons z L =>
  have kz:WO t g (.lst [.pt g,.im (.int fo),.im (.int (kk+1))]) (z::L) g=some (.lst (.im (.int z)::gM L)):=kg (z::L)
  rfl'
  refine DL ?_
  rfl'
  refine eQ kz (bY (j:=0) rfl) ?_
  rfl'
  refine fi (fun h2=>?_) (fun h2=>?_)
  .rfl'
   refine⟨g,_,0,0,_,rfl,rfl,kz,@1,@1,by unfold seqIndex?;simp,rfl,?_⟩;exact⟨L.length,@2,L,rfl,by simp at UU;omega,rfl,re _ _⟩
  .refine ao ?_
   rfl'
   refine⟨_,oO (kg _),cl,?_⟩
   rfl'
   refine DL ?_
   rfl'
   refine eQ kz (bY (j:=0) rfl) ?_
   rfl'
   refine eQ kz (bY (j:=0) rfl) ?_
   rfl'
   refine⟨g,_,0,0,rfl,rfl,kz,xY (aa1 _) (by simp only[aaX];omega),?_⟩;rw[show(DV.im (.int z)::gM L).set 0 (.im (.int (z / m)))=gM (z / m::L) from rfl,re]
   rfl'
   exact⟨n+1,_,_,_,rfl,kt _,kg _,⟨fo,kk+1,rfl,f0,f1,@0,@0,by simpa using UU⟩,rfl,q _ (ab3 _ @0) (abO _ m0)⟩
end
set_option genInjectivity true in
inductive Rw where
 | put (d v:Int) | op (x:Str) (d a b:Int) | mv (x:Str) (d a n:Int) | go (a p:Int) | one (x:Str)
noncomputable def dA:Rw->PyData
 | .put d v=>.tuple [.str "put",.int d,.int v]
 | .op x d a b=>.tuple [.str x,.int d,.int a,.int b]
 | .mv x d a n=>.tuple [.str x,.int d,.int a,.int n]
 | .go a p=>.tuple [.str "go",.int a,.int p]
 | .one x=>.tuple [.str x]
def GX(i:Int):Prop:=0<=i/\i < 8
def Wr(i:Int):Prop:=0<=i/\i < 4294967296
def iZ(m:Int):Rw->Prop
 | .put d v=>GX d/\Wr v
 | .op x d a b=>(x = "sum"\/x = "mul"\/x = "less")/\GX d/\GX a/\GX b
 | .mv x d a n=>(x = "take"\/x = "lay")/\GX d/\GX a/\0<=n/\n < 16
 | .go a p=>GX a/\0<=p/\p<=m
 | .one x=>x = "shut"\/x = "open"\/x = "home"
noncomputable def bz(rs:List Rw)(bs:wn):PyData:=.tuple [.tuple (rs.map dA),.tuple (bs.map .int)]
structure sJ(rs:List Rw)(bs:wn):Prop where
 r1:1<=rs.length
 r2:rs.length<=40
 rok:∀ r∈rs,iZ rs.length r
 b1:bs.length<=4
 bok:∀ b∈bs,0<=b/\b<=rs.length
noncomputable def qO:v0->PyData
 | none=>.none
 | some k=>.int k
noncomputable def stD(pl:Int)(sp ce:wn)(sh:Bool)(kp:v0):PyData:=.tuple [.int pl,.tuple (sp.map .int),.tuple (ce.map .int),.bool sh,qO kp]
structure XG(m:Int)(pl:Int)(sp ce:wn)(kp:v0):Prop where
 p0:0<=pl
 p1:pl<=m
 s8:sp.length=8
 sw:∀ z∈sp,Wr z
 IM:ce.length=16
 cw:∀ z∈ce,Wr z
 kb:∀ k,kp=some k->0<=k/\k<=m
noncomputable def pairD(p:Int×Int):PyData:=.tuple [.int p.1,.int p.2]
abbrev OZ:Stmt:=top 38
abbrev yi:Stmt:=top 39
abbrev yj:Stmt:=top 57
theorem As:az ["bag", "far", "k"] ["bag"] (defScope OZ):=by ac_rfl
theorem Au:az ["bag", "kind"] ["bag"] (defScope yi):=by ac_rfl
theorem IP:az ["found", "due"] ["found", "due"] (defScope yj):=by ac_rfl
def IQ:uU:=fun n ds R=>ds=[]/\n<=999000000/\∀(r:Int) (n':Nat),0<=r->n'<=n+7->R (.im (.int r)) n'
def sL:uU:=fun n ds R=>ds=[]/\n<=999000000/\∀(r:Int) (n':Nat),Wr r->n'<=n+3->R (.im (.int r)) n'
noncomputable def i4:Option (Int×Str)->PyData
 | none=>.none
 | some (i,x)=>.tuple [.int i,.str x]
noncomputable def EL:ku:=fun ds R _=>∃ a b:Option (Int×Str),ds=[i4 a,i4 b]/\R (.im (.bool (decide (a=b))))
theorem IS{k:Int}(h0:0<=k)(h1:k < l.length):∃ v∈l,jb (l.map PyData.int) k=some (.int v):=by
 obtain⟨j,rfl⟩:=aco h0;have hj:j < l.length:=by omega
 exact⟨l[j],abY hj,bY (by rw[aaz,aaT hj];rfl)⟩
theorem fk{k:Int}(h0:0<=k)(h1:k < l.length)(h:∀ v∈l,Q (.im (.int v)) W):NH (.im (.list (l.map .int))) (.im (.int k)) W Q:=by
 obtain⟨v,hv,e⟩:=IS h0 h1;exact gN e (h v hv)
section
variable {K:zn}
theorem O0(F:cR K "_law_far" "_law_far" OZ f fd)(ar:Dn P w K mg base 1 "_law_draw" fD O1 ["bag", "many"] (spT (bN Bg) iY))(bo:mg "range"=none):ba P w K mg base df 2 f fd ["bag"] (spT (bN Bg) IQ):=by
 exact_mod_cast F.KR As cn rfl (by nofun);refine⟨_,!("aeaC**afaejydPboaaafagaX**aiaC**bbbfbbi81bblJafafaqarhraa0aabblJafafagaiax1",1,As.nd,2,As.nd,1,As.nd),?_⟩
 clear hu;symm;refine fun t g O=>⟨_,inferInstance,?_⟩;rintro n ds R ⟨rfl,hn,q⟩;refine cA [_,none,none] rfl ?_;have wt:WT t g n t=some (.aI g n):=av;generalize WT t g n=W at wt;have e8:(10:Int) ^ Int.toNat 8=100000000:=by decide
 rfl'
 refine ao ?_
 rfl'
 refine ji (fun i Y W=>∃(r:Int) (u:Option DV) (k:Nat),Y=[some (.pt t),some (.im (.int r)),u]/\0<=r/\W t=some (.aI g k)/\k<=n+i) ⟨0,_,_,rfl,aa1 _,wt,@0⟩ ?_ ?_
 .rintro i Y W hi ⟨r,u,k,rfl,r0,wt,hk⟩;have hi7:i < 7:=by omega
  rfl'
  rw[e8];refine aY wt @0 @0 @0 fun z W1 z0 z1 wt f1=>?_
  rfl'
  exact⟨_,_,_,rfl,@0,wt,@0⟩
 .rintro Y W ⟨r,u,k,rfl,r0,wt,hk⟩
  rfl'
  exact⟨_,wt,q r _ r0 (by have:(7:Int).toNat=7:=rfl;omega)⟩
theorem EN(F:cR K "_law_worth" "_law_worth" yi f fd)(ar:Dn P w K mg base 1 "_law_draw" fD O1 ["bag", "many"] (spT (bN Bg) iY)):ba P w K mg base df 2 f fd ["bag"] (spT (bN Bg) sL):=by
 exact_mod_cast F.KR Au cn rfl (by nofun);refine⟨_,!("aeaC**aqarhraa0aaafagaeaTaAgL1afaiaxakbDcz.rfl 1awaeaTaAaJhu1afaiaxaqarhraa0aaafagawaiaxbbbfbbi8aqarhraa0aaafagafaqarhraa0aaafag",1,Au.nd),?_⟩
 clear hu;symm;refine fun t g O=>⟨_,inferInstance,?_⟩;rintro n ds R ⟨rfl,hn,q⟩;refine cA [_,none] rfl ?_;have wt:WT t g n t=some (.aI g n):=av;generalize WT t g n=W at wt
 rfl'
 refine aY wt @0 @0 @0 fun k W1 k0 k1 wt f1=>?_
 rfl'
 refine ao ?_
 rfl'
 refine fi (fun h=>?_) (fun h=>?_)
 .rfl'
  refine cO (ds:=[0,1,4294967295].map PyData.int) (by show 3<=sizeLine;decide) ?_
  rfl'
  refine fk k0 h fun v hv=>?_;have:v=0\/v=1\/v=4294967295:=by simpa using hv
  exact⟨_,wt,q v _ ⟨@0,@0⟩ @0⟩
 rfl'
 refine ao ?_
 rfl'
 refine fi (fun h=>?_) (fun h=>?_)
 .rfl'
  refine aY wt @0 @0 @0 fun r W2 r0 r1 wt f2=>?_;exact⟨_,wt,q r _ ⟨@0,@0⟩ @0⟩
 rfl'
 refine aY wt @0 @0 @0 fun r W2 r0 r1 wt f2=>?_
 rfl'
 refine aY wt @0 @0 @0 fun r' W3 r0' r1' wt f3=>?_
 rfl'
 exact⟨_,wt,q _ _ ⟨@0,@0⟩ @0⟩
theorem EO(F:cR K "_law_right" "_law_right" yj f fd)(eT:mg "isinstance"=none)(cU:mg "tuple"=none)(bh:mg "len"=none)(ER:mg "str"=none)(yk:mg "bool"=none)(jm:mg "int"=none):ba P w K mg base df 1 f fd ["found", "due"] (eZ EL):=by
 exact_mod_cast F.pW IP (by nofun);refine⟨_,!("aeaTgW1aiaxzI0awaeaTiT.w_or gwkGzJeTcU.abz 0.w_or aAbMhubEbjbh.aa4 aa0agafmEgwkGzJeTER*ak0afaiaxkTawaeaTiT.w_or kGzJeTyk*ak0afmEgwkGzJeTjm.acA ak0afaiaxkTawaiaxuLiDaJhuak0afak1afuKiDaJhuak0afak1af",PyProof.Rows.boot_str,PyProof.Rows.boot_bool),?_⟩
 push_cast;rintro ds R ⟨a,b,rfl,q⟩;refine ao ?_;rcases a with _ | ⟨i,x⟩<;>rcases b with _ | ⟨j,y⟩<;>dsimp only[i4]
 .ext
  exact q
 .ext
  refine ao ?_
  ext
  exact q
 .ext
  exact q
 .ext
  refine ao ?_
  ext
  refine ao ?_
  ext
  refine fi (fun h=>?_) (fun h=>?_)
  .ext
   rw[show decide (x=y)=decide (some (i,x)=some (j,y)) by rw[h];simp];exact q
  .rw[aaJ (by simp[h])]at q;exact q
end
abbrev o4:Stmt:=top 11
abbrev sM:Stmt:=top 12
abbrev ES:Stmt:=top 14
abbrev O2:Stmt:=top 17
abbrev ET:Stmt:=top 18
abbrev sN:Stmt:=top 19
abbrev yl:Stmt:=top 20
abbrev ym:Stmt:=top 21
abbrev sO:Stmt:=top 22
abbrev yn:Stmt:=top 26
abbrev EU:Stmt:=top 27
abbrev EV:Stmt:=top 28
abbrev EW:Stmt:=top 29
theorem BM:az ["number"] ["number"] (defScope o4):=by ac_rfl
theorem EX:az ["worth", "n"] ["worth", "n"] (defScope sM):=by ac_rfl
theorem yo:az ["row", "part", "number"] ["row"] (defScope ES):=by ac_rfl
theorem Av:az ["row", "spots", "cells", "word", "one", "other"] ["row", "spots", "cells"] (defScope O2):=by ac_rfl
theorem EY:az ["row", "spots", "cells", "spot"] ["row", "spots", "cells"] (defScope ET):=by ac_rfl
theorem EZ:az ["row", "place", "spots", "kept"] ["row", "place", "spots", "kept"] (defScope sN):=by ac_rfl
theorem IT:az ["row", "shut"] ["row", "shut"] (defScope yl):=by ac_rfl
theorem IU:az ["row", "kept"] ["row", "kept"] (defScope ym):=by ac_rfl
theorem E1:az ["mill", "k"] ["mill", "k"] (defScope sO):=by ac_rfl
theorem IV:az ["mill", "state"] ["mill", "state"] (defScope yn):=by ac_rfl
theorem E2:az ["worths", "kind", "wrote", "at"] ["worths", "kind", "wrote"] (defScope EU):=by ac_rfl
theorem jJ:az ["mill", "state", "place", "spots", "cells", "kept", "row", "wrote", "behind"] ["mill", "state"] (defScope EV):=by ac_rfl
theorem O3:az ["mill", "state", "k"] ["mill", "state", "k"] (defScope EW):=by ac_rfl
noncomputable def ck:List (Str×wv):=[("put",["d", "worth"]),("sum",["d", "a", "b"]),("mul",["d", "a", "b"]),("less",["d", "a", "b"]),("take",["d", "a", "n"]),("lay",["b", "a", "n"]),("go",["a", "p"]),("shut",[]),("open",[]),("home",[])]
noncomputable def l6(x:Str):Option (List V):=(ck.lookup x).map fun ps=>ps.map V.str
theorem lookup_mem{J β:Type}[BEq J][LawfulBEq J]{a:J}{b:β}:∀{l:List (J×β)},l.lookup a=some b->(a,b)∈l
 | [],h=>by cases h
 | (x,y)::r,h=>by
  rw[abj]at h
  by_cases e:a == x
  .rw[e]at h;cases h;rw[acp.mp e];exact aaP ..
  .rw[Bool.not_eq_true _ |>.mp e]at h;exact aaI _ (lookup_mem h)
structure Parts(K:zn)(w:World)(a:Addr):Prop where
 ex:∃ kvs:List (Key×V),Bl K w a kvs/\(∀ x ps,ck.lookup x=some ps->∃ b,iz kvs (Sum.inr x)=some (.ref b)/\∀ H,fX K H b (ps.map V.str))/\∀ x,ck.lookup x=none->iz kvs (Sum.inr x)=none
theorem Parts.mt{K:zn}{a:Addr}(h:Parts K w a):ModT K w a l6:=by
 obtain⟨kvs,h1,h2,_⟩:=h.ex;refine⟨kvs,h1,fun x xs e=>?_⟩;unfold l6 at e;cases q:ck.lookup x with
 | none=>rw[q]at e;cases e
 | some ps=>rw[q]at e;cases e;exact h2 x ps q
noncomputable def dB(ps:wv)(ns:wn):Option Int:=((ps.zip ns).find? fun p=>decide (p.1=("d":Str))).map (·.2)
def gI(xs:wn)(i:Int):Int:=xs.getD i.toNat 0
theorem E3{i:Int}(h0:0<=i)(h1:i < xs.length):jb (xs.map PyData.int) i=some (.int (gI xs i)):=by
 obtain⟨n,rfl⟩:∃ n:Nat,i=(n:Int):=⟨i.toNat,@0⟩;refine bY ?_;have hn:n < xs.length:=by omega
 rw[aaz,aaT hn];unfold gI;simp[abf,hn]
theorem E4{i:Int}(h0:0<=i)(h1:i < xs.length):gI xs i∈xs:=by
 unfold gI;have hn:i.toNat < xs.length:=by omega
 rw[abf,aaT hn];exact abY hn
abbrev vx:=Option (Str×Int×Int)
noncomputable def gz:vx->PyData
 | none=>.none
 | some (k,a,w)=>.tuple [.str k,.int a,.int w]
structure BN where
 place:Int
 aL:List Int
 cells:List Int
 cJ:Bool
 kept:Option Int
noncomputable abbrev fE(s:BN):PyData:=stD s.place s.aL s.cells s.cJ s.kept
abbrev ke(n:Nat)(s:BN):Prop:=XG n s.place s.aL s.cells s.kept
noncomputable def O4(e:Int×vx):PyData:=.tuple [.int e.1,gz e.2]
def Rw.d?:Rw->Option Int
 | .put d _=>some d
 | .op _ d _ _=>some d
 | .mv x d _ _=>if x = "lay" then none else some d
 | _=>none
noncomputable def Rw.gives(sp ce:wn):Rw->Int
 | .put _ v=>v
 | .op x _ a b=>if x = "sum" then(gI sp a+gI sp b) % 4294967296 else if x = "mul" then gI sp a * gI sp b % 4294967296 else if gI sp a < gI sp b then 1 else 0
 | .mv _ _ a n=>gI ce ((gI sp a+n) % 16)
 | _=>0
noncomputable def Rw.wrote(sp ce:wn):Rw->vx
 | .mv x d a n=>if x = "lay" then some ("cell",(gI sp a+n) % 16,gI sp d)else some ("spot",d,Rw.gives sp ce (.mv x d a n))
 | .put d v=>some ("spot",d,v)
 | .op x d a b=>some ("spot",d,Rw.gives sp ce (.op x d a b))
 | _=>none
noncomputable def dM(sp:wn)(place:Int)(kept:v0):Rw->Int
 | .go a p=>if gI sp a=0 then place+1 else p
 | .one x=>if x = "home" then kept.getD (place+1)else place+1
 | _=>place+1
noncomputable def ll(cJ:Bool):Rw->Bool
 | .one x=>decide (x = "shut")
 | _=>cJ
noncomputable def jK(kept:v0):Rw->Option Int
 | .one x=>if x = "home" then none else kept
 | _=>kept
noncomputable def jL(kind:Str)(ws:wn):vx->List Int
 | none=>ws
 | some (k,a,w)=>if k=kind then ws.set a.toNat w else ws
def rowOf(rows:List Rw)(place:Int):Rw:=rows.getD place.toNat (.one "home")
noncomputable def dZ(r:Rw)(s:BN):BN:=⟨dM s.aL s.place s.kept r,jL "spot" s.aL (r.wrote s.aL s.cells),jL "cell" s.cells (r.wrote s.aL s.cells),ll s.cJ r,jK s.kept r⟩
noncomputable def mH(vA:wn)(k:Int)(s:BN):BN:=⟨gI vA k,s.aL,s.cells,true,some s.place⟩
theorem E5(n:Int):Wr (n % 4294967296):=⟨ab3 _ @1,abO _ @1⟩
def Aw:vx->Prop
 | none=>True
 | some (k,a,w)=>((k = "spot"/\0<=a/\a < 8)\/(k = "cell"/\0<=a/\a < 16))/\Wr w
theorem Ax(h:∀ z∈xs,Wr z)(i:Int):Wr (gI xs i):=by
 unfold gI;rw[abf];cases e:xs[i.toNat]? with
 | none=>exact⟨@1,@1⟩
 | some z=>exact h z (abQ e)
theorem gA{r:Rw}{ce:wn}(ok:iZ m r)(ws:∀ z∈sp,Wr z)(wc:∀ z∈ce,Wr z):Aw (r.wrote sp ce):=by
 cases r with
 | put d n=>exact⟨.inl ⟨rfl,ok.1⟩,ok.2⟩
 | op x d a b =>
  refine⟨.inl ⟨rfl,ok.2.1⟩,?_⟩;show Wr (if x = "sum" then(gI sp a+gI sp b) % 4294967296 else if x = "mul" then gI sp a * gI sp b % 4294967296 else if gI sp a < gI sp b then 1 else 0);split
  .exact E5 _
  split
  .exact E5 _
  split
  .exact⟨@1,@1⟩
  .exact⟨@1,@1⟩
 | mv x d a n =>
  show Aw (if x = "lay" then some ("cell",(gI sp a+n) % 16,gI sp d)else some ("spot",d,gI ce ((gI sp a+n) % 16)));split
  .exact⟨.inr ⟨rfl,ab3 _ @1,abO _ @1⟩,Ax ws _⟩
  .exact⟨.inl ⟨rfl,ok.2.1⟩,Ax wc _⟩
 | go a p=>trivial
 | one x=>trivial
theorem qP(k:Str)(ws:wn)(w:vx):(jL k ws w).length=ws.length:=by
 unfold jL;split
 .rfl
 .split
  .rw[adV]
  .rfl
theorem vB{k:Str}{ws:wn}{w:vx}(h:∀ z∈ws,Wr z)(ok:Aw w):∀ z∈jL k ws w,Wr z:=by
 unfold jL;split
 .exact h
 .split
  .intro z hz;rcases adA hz with hz | hz
   .exact h z hz
   .rw[hz];exact ok.2
  .exact h
theorem ff{rs:List Rw}{bs:wn}(h:sJ rs bs){place:Int}(h0:0<=place)(h1:place < rs.length):jb (rs.map dA) place=some (dA (rowOf rs place))/\iZ rs.length (rowOf rs place):=by
 have iM:place.toNat < rs.length:=by omega
 have e:rs[place.toNat]?=some rs[place.toNat]:=aaT iM;have e2:rowOf rs place=rs[place.toNat]:=by unfold rowOf;rw[abf,e];rfl
 rw[e2];refine⟨?_,h.rok _ (abY iM)⟩;have ha:jb (rs.map dA) ((place.toNat:Nat):Int)=some (dA rs[place.toNat]):=bY (by rw[aaz,e];rfl);rw[show((place.toNat:Nat):Int)=place by omega]at ha;exact ha
theorem IW{s:BN}{r:Rw}(h:ke n s)(hp:s.place < n)(ok:iZ n r):ke n (dZ r s):=by
 have O5:=gA ok h.sw h.cw;refine⟨?_,?_,by show(jL _ _ _).length=8;rw[qP];exact h.s8,vB h.sw O5,by show(jL _ _ _).length=16;rw[qP];exact h.IM,vB h.cw O5,?_⟩
 .show 0<=dM s.aL s.place s.kept r;have:=h.p0;unfold dM;split
  .split
   .omega
   .exact ok.2.1
  .split
   .cases e:s.kept with
    | none=>show 0<=s.place+1;omega
    | some k=>exact(h.kb k e).1
   .omega
  .omega
 .show dM s.aL s.place s.kept r<=n;unfold dM;split
  .split
   .omega
   .exact ok.2.2
  .split
   .cases e:s.kept with
    | none=>show s.place+1<=n;omega
    | some k=>exact(h.kb k e).2
   .omega
  .omega
 .intro k e;have e:jK s.kept r=some k:=e;unfold jK at e;split at e
  .split at e
   .cases e
   .exact h.kb k e
  .exact h.kb k e
theorem IY{s:BN}{vA:wn}{k:Int}(h:ke n s)(hb:∀ b∈vA,0<=b/\b<=(n:Int))(k0:0<=k)(k1:k < vA.length):ke n (mH vA k s) :=
 ⟨(hb _ (E4 k0 k1)).1,(hb _ (E4 k0 k1)).2,h.s8,h.sw,h.IM,h.cw,fun j e=>by cases e;exact⟨h.p0,h.p1⟩⟩
def Li:ku:=fun ds R _=>∃ i:Int,ds=[.int i]/\R (.im (.int (i % 4294967296)))
def sP:ku:=fun ds R _=>∃ a n:Int,ds=[.int a,.int n]/\R (.im (.int ((a+n) % 16)))
noncomputable def Ay:ku:=fun ds R _=>∃(x:Str) (ps:wv) (ns:wn),ds=[.tuple (.str x::ns.map .int)]/\ck.lookup x=some ps/\R (.im (qO (dB ps ns)))
def cB(xs:wn):PyData:=.tuple (xs.map .int)
noncomputable def Tg:ku:=fun ds R _=>∃(r:Rw) (m:Int) (sp ce:wn),ds=[dA r,cB sp,cB ce]/\iZ m r/\sp.length=8/\ce.length=16/\(∀ z∈sp,Wr z)/\r.d?.isSome=true/\R (.im (.int (r.gives sp ce)))
noncomputable def Lj:ku:=fun ds R _=>∃(r:Rw) (m:Int) (sp ce:wn),ds=[dA r,cB sp,cB ce]/\iZ m r/\sp.length=8/\ce.length=16/\(∀ z∈sp,Wr z)/\R (.im (gz (r.wrote sp ce)))
noncomputable def Az:ku:=fun ds R _=>∃(r:Rw) (m place:Int) (sp:wn) (kept:v0),ds=[dA r,.int place,cB sp,qO kept]/\iZ m r/\sp.length=8/\R (.im (.int (dM sp place kept r)))
noncomputable def E6:ku:=fun ds R _=>∃(r:Rw) (m:Int) (cJ:Bool),ds=[dA r,.bool cJ]/\iZ m r/\R (.im (.bool (ll cJ r)))
noncomputable def E7:ku:=fun ds R _=>∃(r:Rw) (m:Int) (kept:v0),ds=[dA r,qO kept]/\iZ m r/\R (.im (qO (jK kept r)))
noncomputable def AA:ku:=fun ds R _=>∃(rs:List Rw) (bs:wn) (k:Int),ds=[bz rs bs,.int k]/\R (.im (.bool (decide (0<=k)&&decide (k < bs.length))))
noncomputable def sQ:ku:=fun ds R _=>∃(rs:List Rw) (bs:wn) (pl:Int) (r:wE),ds=[bz rs bs,.tuple (.int pl::r)]/\R (.im (.bool (decide (pl=rs.length))))
noncomputable def Lk:ku:=fun ds R _=>∃(ws:wn) (kind:Str) (wr:vx),ds=[cB ws,.str kind,gz wr]/\2<=ws.length/\ws.length<=16/\(∀ a w,wr=some (kind,a,w)->0<=a/\a < ws.length)/\R (.im (cB (jL kind ws wr)))
noncomputable def SStep(aR:Addr):ku:=fun ds R X=>∃(rs:List Rw) (bs:wn) (s:BN),ds=[bz rs bs,fE s]/\sJ rs bs/\ke rs.length s /\
 (s.place < rs.length->R (.im (.tuple [fE (dZ (rowOf rs s.place) s),O4 (s.place,(rowOf rs s.place).wrote s.aL s.cells)])))/\(s.place=rs.length->X aR)
noncomputable def E8(aN aS:Addr):ku:=fun ds R X=>∃(rs:List Rw) (bs:wn) (s:BN) (k:Int),ds=[bz rs bs,fE s,.int k] /\
 (0<=k/\k < bs.length->s.cJ=false->R (.im (fE (mH bs k s))))/\(¬ (0<=k/\k < bs.length)->X aN)/\(0<=k/\k < bs.length->s.cJ=true->X aS)
theorem E9{x:PyData}{xs:wE}(h:Q (.im (.tuple xs)) W):Ic (.im (.tuple (x::xs))) (some 1) none W Q:=by
 have e:HT.dG (x::xs).length 0 (some 1)=1:=by
  rw[show(some 1:v0)=some ((1:Nat):Int) from rfl,HT.jR];show min 1 (xs.length+1)=1;omega
 refine⟨_,rfl,fun h=>by rw[e]at h;exact absurd h.1 @1,?_⟩;have e2:cutD (x::xs) (some 1) none=xs:=by
  unfold cutD;rw[e];show((x::xs).drop 1).take ((x::xs).length - 1)=_;rw[List.drop_one,List.tail_cons,aaX,Nat.add_sub_cancel,aa0]
 rw[e2];exact h
theorem O6{ws:wn}{k:Int}(h0:0<=k)(h1:k < ws.length)(h:Q (.im (cB (ws.take k.toNat))) W):Ic (.im (cB ws)) none (some k) W Q:=by
 have e:HT.dG (ws.map PyData.int).length (ws.map PyData.int).length (some k)=k.toNat:=by
  have ek:k=((k.toNat:Nat):Int):=by omega
  rw[ek,HT.jR,aav];simp only[abi];omega
 refine⟨_,rfl,fun h=>by rw[e,aav]at h;omega,?_⟩;have e2:cutD (ws.map PyData.int) none (some k)=(ws.take k.toNat).map .int:=by
  unfold cutD;rw[e,HT.ou,List.drop_zero,Nat.sub_zero,acW]
 rw[e2];exact h
theorem Fb{ws:wn}{k:Int}(h0:0 < k)(h1:k<=ws.length)(h:Q (.im (cB (ws.drop k.toNat))) W):Ic (.im (cB ws)) (some k) none W Q:=by
 have e:HT.dG (ws.map PyData.int).length 0 (some k)=k.toNat:=by
  have ek:k=((k.toNat:Nat):Int):=by omega
  rw[ek,HT.jR,aav];simp only[abi];omega
 refine⟨_,rfl,fun h=>by rw[e]at h;omega,?_⟩;have e2:cutD (ws.map PyData.int) (some k) none=(ws.drop k.toNat).map .int:=by
  unfold cutD;rw[e,HT.ou,acX];exact abA (by rw[abG];exact aaC _)
 rw[e2];exact h
theorem IZ{ws:wn}{k:Nat}{x:Int}(h:k < ws.length):ws.take k++[x]++ws.drop (k+1)=ws.set k x:=by
 rw[List.set_eq_take_append_cons_drop,aaO h,acB];rfl
theorem vC{a b:Str}:decide (a=b)=decide (b=a):=adT.mpr eq_comm
theorem jo{ws:wn}{k:Int}(h0:0<=k)(h1:k < ws.length)(h:Q (.im (.int (gI ws k))) W):NH (.im (cB ws)) (.im (.int k)) W Q:=bO (E3 h0 h1) h
section
variable {K:zn}
theorem yq{tk:Tok}(F:cR K "wrapped" "wrapped" o4 f fd)(o5:mg "WORTHS"=some (.int 4294967296 tk)):ba P w K mg base df 1 f fd ["number"] (eZ Li):=by
 refine F.pW BM (by nofun) fun bB A outer s H E hr=>?_;refine⟨_,!("aiaxbbgU0Kao5",0),?_⟩;symm;refine fun O X=>⟨_,inferInstance,?_⟩;rintro ds R ⟨i,rfl,q⟩
 rfl'
 exact q
theorem BO{tk:Tok}(F:cR K "cell_at" "cell_at" sM f fd)(sR:mg "CELLS"=some (.int 16 tk)):ba P w K mg base df 1 f fd ["worth", "n"] (eZ sP):=by
 refine F.pW EX (by nofun) fun bB A outer s H E hr=>?_;refine⟨_,!("aiaxbbgUbbbf01KasR",0),?_⟩;symm;refine fun O X=>⟨_,inferInstance,?_⟩;rintro ds R ⟨a,n,rfl,q⟩
 rfl'
 exact q
theorem I0{aP:Addr}(F:cR K "spot_written" "spot_written" ES f fd)(jY:mg "PARTS"=some (.ref aP))(hP:ModT K w aP l6)(qQ:mg "zip"=none):ba P w K mg base df 1 f fd ["row"] (eZ Ay):=by
 exact_mod_cast F.pW yo (by nofun);refine⟨_,!("aejy*jj*bSaX**bSaX**jdaiaTaAaJhu1ajaiax2awaiaxcY",(J9 .T .T qQ (aa (S1 jY hP (ak (ah 0) af)) (aa (jZ oy (ah 0) (eO af) fu) ag))),2,1,yo.nd,2,yo.nd),?_⟩
 push_cast;rintro ds R ⟨x,ps,ns,rfl,hx,q⟩;refine cA [_,none,none] rfl ?_;refine ao ?_
 rfl'
 refine bO (D:=.str x) (bY (j:=0) rfl) ?_;refine⟨x,_,rfl,by unfold l6;rw[hx];rfl,?_⟩
 rfl'
 refine E9 ?_
 rfl'
 have fl:(ps.map V.str).all eW=true:=by rw[List.all_map];exact abH.mpr fun _ _=>rfl
 refine KY (ds:=ps.map .str) (es:=ns.map .int) (by show kr (.cst _)=_;simp only[kr,fl,acT,acz];rfl) rfl ?_;refine Ad (fun i Y W=>∃ u v,Y=[some (.im (.tuple (.str x::ns.map .int))),u,v]/\((ps.zip ns).take i).find? (fun p=>decide (p.1=("d":Str)))=none) ⟨_,_,rfl,rfl⟩ (fun _ _ _ _=>⟨trivial,trivial⟩) ?_ ?_
 .rintro i a d Y W ha hd ⟨u,v,rfl,h4⟩;rw[aaz]at ha hd;obtain⟨pz,Th,rfl⟩:=aaB.mp ha;obtain⟨nz,UW,rfl⟩:=aaB.mp hd;have hz:(ps.zip ns)[i]?=some (pz,nz):=abD.mpr ⟨Th,UW⟩
  rfl'
  refine fi (fun c1=>?_) (fun c1=>?_)
  .rfl'
   have e:dB ps ns=some nz:=by
    unfold dB;have h5:((ps.zip ns).take (i+1)).find? (fun p=>decide (p.1=("d":Str)))=some (pz,nz):=by
     rw[aaU,hz,adH,h4,Option.none_or];show(List.find? _ [(pz,nz)])=_;rw[abL,show decide (((pz,nz):Str×Int).1=("d":Str))=true from aa2 c1]
    rw[<- ac4 (i+1) (ps.zip ns),adH,h5]
    rfl
   rw[e]at q;exact q
  .rfl'
   refine⟨_,_,rfl,?_⟩;rw[aaU,hz,adH,h4,Option.none_or];show(List.find? _ [(pz,nz)])=_;rw[abL,show decide (((pz,nz):Str×Int).1=("d":Str))=false from aaJ c1]
   rfl
 .rintro Y W ⟨u,v,rfl,h4⟩
  rfl'
  have e:dB ps ns=none:=by
   unfold dB;rw[abA (by rw[ad0,aav,aav];exact aaC _)]at h4;rw[h4]
   rfl
  rw[e]at q;exact q
theorem O7{fW fC:Addr}{XH:wT}(F:cR K "worth_got" "worth_got" O2 f fd)(vD:Dn P w K mg base 1 "wrapped" fW Ti ["number"] (eZ Li))(o6:Dn P w K mg base 1 "cell_at" fC XH ["worth", "n"] (eZ sP)):ba P w K mg base df 2 f fd ["row", "spots", "cells"] (eZ Tg):=by
 exact_mod_cast F.pW Av (by nofun);refine⟨_,!("aeaC**ak0afaeaTaAaJhu3ajaiaxak0afawaeaC**ak1ak0afaeaTaAaJhu3ajaiaxak2aqo6hraa4aaak0afagawaeaC**ak1ak0afaeaTaAaJhu3ajaiaxaqvDhraabbbf45agawaeaTaAaJhu3ajaiaxaqvDhraabbi845agawaiaxrYaAgL45afaf",3,Av.nd,4,Av.nd,5,Av.nd),?_⟩
 push_cast;rintro ds R ⟨r,m,sp,ce,rfl,ok,l8,GY,sw,hd,q⟩;refine cA [_,_,_,none,none,none] rfl ?_;cases r with
 | put d v =>
  dsimp only[dA];lia;refine ao ?_;lia;exact q
 | op x d a b =>
  obtain⟨hx,o1,o2,o3⟩:=ok;dsimp only[dA];lia;refine ao ?_;have ra:=Ax sw a;have ra0:=ra.1;have ra1:=ra.2;rcases hx with rfl | rfl | rfl
  .lia;refine jo o2.1 (by have:=o2.2;omega) ?_;lia;refine ao ?_;lia;refine jo o3.1 (by have:=o3.2;omega) ?_;lia;refine ao ?_;lia;exact bc (ds:=[.int _]) ⟨_,rfl,q⟩
  .lia;refine jo o2.1 (by have:=o2.2;omega) ?_;lia;refine ao ?_;lia;refine jo o3.1 (by have:=o3.2;omega) ?_;lia;refine ao ?_;lia;refine ao ?_;lia;exact bc (ds:=[.int _]) ⟨_,rfl,q⟩
  .lia;refine jo o2.1 (by have:=o2.2;omega) ?_;lia;refine ao ?_;lia;refine jo o3.1 (by have:=o3.2;omega) ?_;lia;refine ao ?_;lia;refine ao ?_;lia;have q':R (.im (.int (if gI sp a < gI sp b then 1 else 0))):=q;refine fi (fun h=>?_) (fun h=>?_)
   .rw[aaO h]at q';lia;exact q'
   .rw[aaD h]at q';lia;exact q'
 | mv x d a n =>
  obtain⟨hx,o1,o2,o3⟩:=ok;have hx':x = "take":=by
   rcases hx with h | h
   .exact h
   .subst h;cases hd
  subst hx';dsimp only[dA];lia;refine ao ?_;lia;refine jo o2.1 (by have:=o2.2;omega) ?_;lia;refine ao ?_;lia;refine bc (ds:=[.int _,.int _]) ⟨_,_,rfl,?_⟩;lia;refine jo (ab3 _ @1) (by rw[GY];exact abO _ @1) ?_;exact q
 | go a p=>cases hd
 | one x=>cases hd
theorem Ja{fC fS fG:Addr}{XH XI fdG:wT}(F:cR K "what_it_writes" "what_it_writes" ET f fd)(o6:Dn P w K mg base 1 "cell_at" fC XH ["worth", "n"] (eZ sP))(iO:Dn P w K mg base 1 "spot_written" fS XI ["row"] (eZ Ay))(yr:Dn P w K mg base 2 "worth_got" fG fdG ["row", "spots", "cells"] (eZ Tg)):ba P w K mg base df 3 f fd ["row", "spots", "cells"] (eZ Lj):=by
 exact_mod_cast F.pW EY (by nofun);refine⟨_,!("aeaTaAaJhuak0afajaiaxbraaajaaaqo6hraaak1ak0afaaak0afagaaak1ak0afagawaeaC**aqiOhraa0agaeaTgW3aiaxcYawaiaxbraaajaa3aaaqyrhraa0aa1aa2agag",3,EY.nd),?_⟩
 push_cast;rintro ds R ⟨r,m,sp,ce,rfl,ok,l8,GY,sw,q⟩;refine cA [_,_,_,none] rfl ?_;have hg:=ok;cases r with
 | put d v =>
  refine ao ?_;dsimp only[dA];lia;refine bc (ds:=[.tuple [.str "put",.int d,.int v]]) ⟨"put",["d", "worth"],[d,v],rfl,rfl,?_⟩;show j5 _ _ (.im (.int d));lia;refine ao ?_;lia;refine xH ?_;lia;refine bc (ds:=[dA (.put d v),cB sp,cB ce]) ⟨.put d v,m,sp,ce,rfl,hg,l8,GY,sw,rfl,?_⟩;lia;exact aH (ds:=[.str "spot",.int d,.int _]) (by show 3<=sizeLine;decide) q
 | op x d a b =>
  refine ao ?_;dsimp only[dA];have hw:∃ ps,ck.lookup x=some ps/\dB ps [d,a,b]=some d:=by
   rcases hg.1 with rfl | rfl | rfl
   .exact⟨_,rfl,rfl⟩
   .exact⟨_,rfl,rfl⟩
   .exact⟨_,rfl,rfl⟩
  obtain⟨ps,Tj,Up⟩:=hw;have nl:¬ (x = "lay"):=by rcases hg.1 with rfl | rfl | rfl<;>decide +kernel
  lia;refine bc (ds:=[.tuple [.str x,.int d,.int a,.int b]]) ⟨x,ps,[d,a,b],rfl,Tj,?_⟩;rw[Up];show j5 _ _ (.im (.int d));lia;refine ao ?_;lia;refine xH ?_;lia;refine bc (ds:=[dA (.op x d a b),cB sp,cB ce]) ⟨.op x d a b,m,sp,ce,rfl,hg,l8,GY,sw,rfl,?_⟩;lia;exact aH (ds:=[.str "spot",.int d,.int _]) (by show 3<=sizeLine;decide) q
 | mv x d a n =>
  obtain⟨hx,o1,o2,o3⟩:=ok;refine ao ?_;dsimp only[dA];rcases hx with rfl | rfl
  .lia;refine bc (ds:=[.tuple [.str "take",.int d,.int a,.int n]]) ⟨"take",_,[d,a,n],rfl,rfl,?_⟩;show j5 _ _ (.im (.int d));lia;refine ao ?_;lia;refine xH ?_;lia;refine bc (ds:=[dA (.mv "take" d a n),cB sp,cB ce]) ⟨.mv "take" d a n,m,sp,ce,rfl,hg,l8,GY,sw,rfl,?_⟩;lia;exact aH (ds:=[.str "spot",.int d,.int _]) (by show 3<=sizeLine;decide) q
  .lia;refine jo o2.1 (by have:=o2.2;omega) ?_;lia;refine bc (ds:=[.int _,.int _]) ⟨_,_,rfl,?_⟩;lia;refine jo o1.1 (by have:=o1.2;omega) ?_;lia;exact aH (ds:=[.str "cell",.int _,.int _]) (by show 3<=sizeLine;decide) q
 | go a p =>
  refine ao ?_;dsimp only[dA];lia;refine bc (ds:=[.tuple [.str "go",.int a,.int p]]) ⟨"go",_,[a,p],rfl,rfl,?_⟩;show j5 _ _ (.im .none);lia;refine ao ?_;lia;refine DL ?_;lia;exact q
 | one x =>
  refine ao ?_;dsimp only[dA];rcases (show x = "shut"\/x = "open"\/x = "home" from ok)with rfl | rfl | rfl
  all_goals
   lia
   refine bc (ds:=[.tuple [.str _]]) ⟨_,_,[],rfl,rfl,?_⟩
   show j5 _ _ (.im .none)
   lia
   refine ao ?_
   lia
   refine DL ?_
   lia
   exact q
theorem Fc(F:cR K "place_behind" "place_behind" sN f fd):ba P w K mg base df 1 f fd ["row", "place", "spots", "kept"] (eZ Az):=by
 exact_mod_cast F.pW EZ (by nofun);refine⟨_,!("aeaTiT.w_and aAaJhuak0afajbJaAbMhuak2ak0afafaiaxak0afawaeaTiT.w_and aAaJhuak0afajbJgE3aiax3awaiaxbbbf1af",0),?_⟩
 push_cast;rintro ds R ⟨r,m,place,sp,kept,rfl,ok,l8,q⟩;refine ao ?_;cases r with
 | put d v =>
  dsimp only[dA];lia;refine ao ?_;lia;exact q
 | op x d a b =>
  dsimp only[dA];rcases ok.1 with rfl | rfl | rfl
  all_goals
   lia
   refine ao ?_
   lia
   exact q
 | mv x d a n =>
  dsimp only[dA];rcases ok.1 with rfl | rfl
  all_goals
   lia
   refine ao ?_
   lia
   exact q
 | go a p =>
  obtain⟨o1,o2⟩:=ok;dsimp only[dA];lia;refine jo o1.1 (by have:=o1.2;omega) ?_;have q':R (.im (.int (if gI sp a=0 then place+1 else p))):=q;lia;refine oI (fun h=>?_) (fun h=>?_)
  .rw[aaD h]at q';lia;exact q'
  .rw[aaO h]at q';lia;refine ao ?_;lia;exact q'
 | one x =>
  dsimp only[dA];rcases (show x = "shut"\/x = "open"\/x = "home" from ok)with rfl | rfl | rfl
  .lia;refine ao ?_;lia;exact q
  .lia;refine ao ?_;lia;exact q
  .cases kept with
   | none =>
    lia;refine ao ?_;lia;refine xH ?_;lia;exact q
   | some k =>
    lia;refine ao ?_;lia;refine DL ?_;lia;exact q
theorem Fd(F:cR K "is_shut_behind" "is_shut_behind" yl f fd):ba P w K mg base df 1 f fd ["row", "shut"] (eZ E6):=by
 exact_mod_cast F.pW IT (by nofun);refine⟨_,!("aeaTaAaJhuak0afajaiaxkTawaeaTpSjhhuak0afbrcz.rfl aiaxkTawaiax1",0),?_⟩
 push_cast;rintro ds R ⟨r,m,cJ,rfl,ok,q⟩;have two:∀{W:Wd} {Q:DK} {x:Str},Q (.im (.bool (decide (x = "open")||decide (x = "home")))) W->uR false (.im (.str x)) (.im (.tuple [.str "open",.str "home"])) W Q:=fun{W Q x} h=>by
  refine⟨.str x,[.str "open",.str "home"],rfl,rfl,.inl ⟨rfl,rfl⟩,?_⟩;have e:(List.any [PyData.str "open",.str "home"] fun d=>PyData.eqv d (.str x))=(decide (x = "open")||decide (x = "home")):=by
   show(PyData.eqv (.str "open") (.str x)||(PyData.eqv (.str "home") (.str x)||false))=_;rw[kW,kW,Bool.or_false,vC,vC (b:=x)]
  rw[aaD @1,e];exact h
 refine ao ?_;cases r with
 | put d v =>
  dsimp only[dA];lia;refine ao ?_;lia;refine aH (ds:=[.str "open",.str "home"]) (by show 2<=sizeLine;decide) (two ?_)
  rfl'
  refine xH ?_;lia;exact q
 | op x d a b =>
  dsimp only[dA];rcases ok.1 with rfl | rfl | rfl
  all_goals
   lia
   refine ao ?_
   lia
   refine aH (ds:=[.str "open",.str "home"]) (by show 2<=sizeLine;decide) (two ?_)
   rfl'
   refine xH ?_
   lia
   exact q
 | mv x d a n =>
  dsimp only[dA];rcases ok.1 with rfl | rfl
  all_goals
   lia
   refine ao ?_
   lia
   refine aH (ds:=[.str "open",.str "home"]) (by show 2<=sizeLine;decide) (two ?_)
   rfl'
   refine xH ?_
   lia
   exact q
 | go a p =>
  dsimp only[dA];lia;refine ao ?_;lia;refine aH (ds:=[.str "open",.str "home"]) (by show 2<=sizeLine;decide) (two ?_)
  rfl'
  refine xH ?_;lia;exact q
 | one x =>
  dsimp only[dA];rcases (show x = "shut"\/x = "open"\/x = "home" from ok)with rfl | rfl | rfl
  .lia;exact q
  all_goals
   lia
   refine ao ?_
   lia
   refine aH (ds:=[.str "open",.str "home"]) (by show 2<=sizeLine;decide) (two ?_)
   rfl'
   refine DL ?_
   lia
   exact q
theorem Fe(F:cR K "kept_behind" "kept_behind" ym f fd):ba P w K mg base df 1 f fd ["row", "kept"] (eZ E7):=by
 exact_mod_cast F.pW IU (by nofun);refine⟨_,!("aiaxrYaAaJhuak0afajcY1",0),?_⟩;push_cast;rintro ds R ⟨r,m,kept,rfl,ok,q⟩;cases r with
 | put d v =>
  dsimp only[dA];lia;exact q
 | op x d a b =>
  dsimp only[dA];rcases ok.1 with rfl | rfl | rfl
  all_goals
   lia
   exact q
 | mv x d a n =>
  dsimp only[dA];rcases ok.1 with rfl | rfl
  all_goals
   lia
   exact q
 | go a p =>
  dsimp only[dA];lia;exact q
 | one x =>
  dsimp only[dA];rcases (show x = "shut"\/x = "open"\/x = "home" from ok)with rfl | rfl | rfl
  all_goals
   lia
   exact q
theorem BP(F:cR K "is_bell" "is_bell" sO f fd)(bh:mg "len"=none):ba P w K mg base df 1 f fd ["mill", "k"] (eZ AA):=by
 exact_mod_cast F.pW E1 (by nofun);refine⟨_,!("aiaxHHzogLaf1bEbjbh.aa4 aaak0afag",0),?_⟩;push_cast;rintro ds R ⟨rs,bs,k,rfl,q⟩
 rfl'
 by_cases h:(0:Int)<=k
 .rw[aa2 h]at q ⊢;refine DL ?_
  rfl'
  refine bO (D:=.tuple (bs.map .int)) rfl ?_
  rfl'
  rw[aav];exact q
 .rw[aaJ h]at q ⊢;refine xH ?_;exact q
theorem Ff(F:cR K "rests" "rests" yn f fd)(bh:mg "len"=none):ba P w K mg base df 1 f fd ["mill", "state"] (eZ sQ):=by
 exact_mod_cast F.pW IV (by nofun);refine⟨_,!("aiaxiDaJhuak1afbEbjbh.aa4 aaak0afag",0),?_⟩;push_cast;rintro ds R ⟨rs,bs,pl,r,rfl,q⟩
 rfl'
 refine bO (D:=.int pl) (Ov (k:=0) @1 @2) ?_
 rfl'
 refine bO (D:=.tuple (rs.map dA)) rfl ?_
 rfl'
 rw[aav];exact q
theorem Jb(F:cR K "with_written" "with_written" EU f fd):ba P w K mg base df 1 f fd ["worths", "kind", "wrote"] (eZ Lk):=by
 exact_mod_cast F.pW E2 (by nofun);refine⟨_,!("aeaTiT.w_or gW2mEaAbMhuak2af1aiax0awaeaC**ak2afaiaxbbiUbbiUjZoy0fueO3braaak2afagjZoy0eObbbf3affu",3,E2.nd),?_⟩
 push_cast;rintro ds R ⟨ws,kind,wr,rfl,l2,GY,hat,q⟩;refine cA [_,_,_,none] rfl ?_;refine ao ?_;cases wr with
 | none =>
  rfl'
  refine DL ?_
  rfl'
  exact q
 | some t =>
  obtain⟨k,a,x⟩:=t;dsimp only[gz]
  rfl'
  refine xH ?_
  rfl'
  refine bO (D:=.str k) rfl ?_
  rfl'
  have q':R (.im (cB (if k=kind then ws.set a.toNat x else ws))):=q;refine oI (fun h=>?_) (fun h=>?_)
  .rfl'
   rw[aaD h]at q';exact q'
  .subst h;rw[aaO rfl]at q';obtain⟨a0,a1⟩:=hat a x rfl
   rfl'
   refine bO (D:=.int a) rfl ?_
   rfl'
   refine O6 a0 a1 ?_
   rfl'
   refine bO (D:=.int x) rfl ?_
   rfl'
   refine aH (ds:=[.int x]) (by show 1<=sizeLine;decide) ?_;refine⟨_,_,rfl,rfl,aaQ (fw (by simp only[aav,abc,aaX,acj];omega)),?_⟩
   rfl'
   refine Fb @0 @0 ?_;refine⟨_,_,rfl,rfl,aaQ (fw (by simp only[aaV,aav,abc,abG,aaX,acj];omega)),?_⟩;have e:(ws.take a.toNat).map PyData.int++[PyData.int x]++(ws.drop (a+1).toNat).map PyData.int=(ws.set a.toNat x).map .int:=by
    rw[<- IZ (ws:=ws) (k:=a.toNat) (x:=x) @0,show(a+1).toNat=a.toNat+1 by omega];simp only[abt,aaM,acN]
   rw[e];exact q'
theorem Jc(BQ:sd K aR)(l7:mg "Resting"=some (.ref aR)){fR fH fP fW fS fK:Addr}{XJ fdH fdP XI fdK:wT}(F:cR K "step" "step" EV f fd)(yt:Dn P w K mg base 1 "rests" fR XJ ["mill", "state"] (eZ sQ))(mS:Dn P w K mg base 3 "what_it_writes" fH fdH ["row", "spots", "cells"] (eZ Lj))(pX:Dn P w K mg base 1 "place_behind" fP fdP ["row", "place", "spots", "kept"] (eZ Az))(kh:Dn P w K mg base 1 "with_written" fW Ti ["worths", "kind", "wrote"] (eZ Lk))(mU:Dn P w K mg base 1 "is_shut_behind" fS XI ["row", "shut"] (eZ E6))(sS:Dn P w K mg base 1 "kept_behind" fK fdK ["row", "kept"] (eZ E7)) :
  ba P w K mg base (wI P w) 4 f fd ["mill", "state"] (eZ (SStep aR)):=by
 exact_mod_cast F.RZ jJ (by nofun);refine⟨_,!("aeaTkGaqythraa0aa1agaiseBQl7aaajagawaeaC**ak1afaeaC**ak1afaeaC**ak1afaeaC**ak1afaeaC**akak0af2aeaC**aqmShraa6aa3aa4agaeaC**braaaqpXhraa6aa2aa3aa5agaaaqkhhraa3aaajaa7agaaaqkhhraa4aaajaa7agaaaqmUhraa6aaak1afagaaaqsShraa6aa5agagaiaxbraa8aabraa2aa7agag",2,jJ.nd,3,jJ.nd,4,jJ.nd,5,jJ.nd,6,jJ.nd,7,jJ.nd,8,jJ.nd),?_⟩
 push_cast;rintro ds R ⟨rs,bs,st,rfl,Tn,vE,q,qX⟩;refine cA [_,_,none,none,none,none,none,none,none] rfl ?_;refine ao ?_
 rfl'
 refine bc (ds:=[bz rs bs,fE st]) ⟨rs,bs,st.place,_,rfl,?_⟩
 rfl'
 refine fi (fun h=>?_) (fun h=>?_)
 .rfl'
  exact⟨by show 1<=sizeLine;decide,qX h⟩
 have hp:st.place < rs.length:=by have:=vE.p1;omega
 replace q:=q hp;obtain⟨er,lI⟩:=ff Tn vE.p0 hp;generalize rowOf rs st.place=r at er lI q;have O5:=gA lI vE.sw vE.cw
 rfl'
 refine bO (D:=.int st.place) rfl ?_
 rfl'
 refine bO (D:=cB st.aL) rfl ?_
 rfl'
 refine bO (D:=cB st.cells) rfl ?_
 rfl'
 refine bO (D:=qO st.kept) rfl ?_
 rfl'
 refine bO (D:=.tuple (rs.map dA)) rfl ?_
 rfl'
 refine bO er ?_
 rfl'
 refine bc (ds:=[dA r,cB st.aL,cB st.cells]) ⟨r,rs.length,st.aL,st.cells,rfl,lI,vE.s8,vE.IM,vE.sw,?_⟩
 rfl'
 refine bc (ds:=[dA r,.int st.place,cB st.aL,qO st.kept]) ⟨r,rs.length,st.place,st.aL,st.kept,rfl,lI,vE.s8,?_⟩
 rfl'
 refine bc (ds:=[cB st.aL,.str "spot",gz (r.wrote st.aL st.cells)]) ⟨st.aL, "spot",_,rfl,by rw[vE.s8];decide,by rw[vE.s8];decide,fun a w e=>?_,?_⟩
 .rw[e]at O5;rcases O5.1 with⟨_,z⟩ | ⟨z,_⟩
  .rw[vE.s8];exact z
  .exact absurd z (by decide +kernel)
 rfl'
 refine bc (ds:=[cB st.cells,.str "cell",gz (r.wrote st.aL st.cells)]) ⟨st.cells, "cell",_,rfl,by rw[vE.IM];decide,by rw[vE.IM];decide,fun a w e=>?_,?_⟩
 .rw[e]at O5;rcases O5.1 with⟨z,_⟩ | ⟨_,z⟩
  .exact absurd z (by decide +kernel)
  .rw[vE.IM];exact z
 rfl'
 refine bO (D:=.bool st.cJ) rfl ?_
 rfl'
 refine bc (ds:=[dA r,.bool st.cJ]) ⟨r,rs.length,st.cJ,rfl,lI,?_⟩
 rfl'
 refine bc (ds:=[dA r,qO st.kept]) ⟨r,rs.length,st.kept,rfl,lI,?_⟩
 rfl'
 refine aH (ds:=[.int (dM st.aL st.place st.kept r),cB (jL "spot" st.aL (r.wrote st.aL st.cells)),cB (jL "cell" st.cells (r.wrote st.aL st.cells)),.bool (ll st.cJ r),qO (jK st.kept r)]) (by show 5<=sizeLine;decide) ?_
 rfl'
 refine aH (ds:=[.int st.place,gz (r.wrote st.aL st.cells)]) (by show 2<=sizeLine;decide) ?_
 rfl'
 exact aH (ds:=[fE (dZ r st),O4 (st.place,r.wrote st.aL st.cells)]) (by show 2<=sizeLine;decide) q
theorem Jd{aN:Addr}(Fg:sd K aN)(o7:mg "NoBell"=some (.ref aN))(O8:sd K aS)(yu:mg "Shut"=some (.ref aS)){fI:Addr}{fdI:wT}(F:cR K "bell" "bell" EW f fd)(Fh:Dn P w K mg base 1 "is_bell" fI fdI ["mill", "k"] (eZ AA)) :
  ba P w K mg base (wI P w) 2 f fd ["mill", "state", "k"] (eZ (E8 aN aS)):=by
 exact_mod_cast F.RZ O3 (by nofun);refine⟨_,!("aeaTgwkGaqFhhraa0aa2agaiseFgo7aaajagawaeaTkGak1afaiseO8yuaaajagawaiaxbraaakak0af2aaak1afaaak1afaakTaaak1afag",0),?_⟩
 push_cast;rintro ds R ⟨rs,bs,st,k,rfl,q,qN,qS⟩;refine ao ?_
 rfl'
 refine bc (ds:=[bz rs bs,.int k]) ⟨rs,bs,k,rfl,?_⟩
 rfl'
 by_cases hk:0<=k/\k < bs.length
 .rw[show(decide (0<=k)&&decide (k < (bs.length:Int)))=true by simp[hk.1,hk.2]]
  rfl'
  refine ao ?_
  rfl'
  refine bO (D:=.bool st.cJ) rfl ?_
  rfl'
  cases e:st.cJ with
  | true =>
   rfl'
   exact⟨by show 1<=sizeLine;decide,qS hk e⟩
  | false =>
   rfl'
   refine bO (D:=cB bs) rfl ?_
   rfl'
   refine jo hk.1 hk.2 ?_
   rfl'
   refine bO (D:=cB st.aL) rfl ?_
   rfl'
   refine bO (D:=cB st.cells) rfl ?_
   rfl'
   refine bO (D:=.int st.place) rfl ?_
   rfl'
   exact aH (ds:=[.int (gI bs k),cB st.aL,cB st.cells,.bool true,.int st.place]) (by show 5<=sizeLine;decide) (q hk e)
 .rw[show(decide (0<=k)&&decide (k < (bs.length:Int)))=false by
   by_cases h:0<=k
   .rw[aa2 h,aaJ (fun z=>hk ⟨h,z⟩)];rfl
   .rw[aaJ h];rfl]
  rfl'
  exact⟨by show 1<=sizeLine;decide,qN hk⟩
end
def cf(ps:wv)(ns:wn):List Int:=(ps.zip ns).foldl (fun acc p=>if(p.1=("a":Str)\/p.1=("b":Str))/\p.2 ∉ acc then acc++[p.2]else acc) []
noncomputable def yv:ku:=fun ds R _=>∃(x:Str) (ps:wv) (ns:wn),ds=[.tuple (.str x::ns.map .int)]/\ck.lookup x=some ps/\R (.nw ((cf ps ns).map .int))
theorem sT{ps:wv}{i:Nat}{p:Str}{n:Int}(hp:ps[i]?=some p)(hn:ns[i]?=some n):cf (ps.take (i+1)) (ns.take (i+1))=if(p=("a":Str)\/p=("b":Str))/\n ∉ cf (ps.take i) (ns.take i)then cf (ps.take i) (ns.take i)++[n]else cf (ps.take i) (ns.take i):=by
 have e:(ps.take (i+1)).zip (ns.take (i+1))=(ps.take i).zip (ns.take i)++[(p,n)]:=by
  have h1:i < ps.length:=(aaH.mp hp).1;have h2:i < ns.length:=(aaH.mp hn).1;rw[aaU,hp,aaU,hn];exact List.zip_append (by rw[abc,abc];omega)
 unfold cf;rw[e,List.foldl_append]
 rfl
theorem vF{ps:wv}:cf (ps.take (min ps.length ns.length)) (ns.take (min ps.length ns.length))=cf ps ns:=by
 unfold cf;rw[<- List.zip_eq_zip_take_min]
def bZ(rs:ut)(au:Int):List Int:=(rs.filter fun r=>decide (r.1<=au)).map (·.2)
def AB(rs:ut)(tk:wn)(au:Int):List Int:=(bZ rs au).filter fun k=>decide (tk.count k < (bZ rs au).count k)
noncomputable def Ll:ku:=fun ds R _=>∃(rs:ut) (au:Int),ds=[.list (rs.map pairD),.int au]/\rs.length<=60/\R (.nw ((bZ rs au).map .int))
noncomputable def Fi:ku:=fun ds R _=>∃(rs:ut) (tk:wn) (au:Int),ds=[.list (rs.map pairD),.list (tk.map .int),.int au]/\rs.length<=60/\∀ ns:List Int,ns.Pairwise (· < ·)->(∀ k,k∈ns↔k∈AB rs tk au)->R (.nw (ns.map .int))
theorem BR(rs:ut)(au:Int):(bZ rs au).length<=rs.length:=by unfold bZ;rw[aav];exact abK ..
theorem qR{J:Type}[BEq J][LawfulBEq J]:∀{l l':List J},l.Nodup->(∀ x∈l,x∈l')->l.length<=l'.length
 | [],_,_,_=>aaY _
 | x::r,l',nd,h=>by
  have hx:=h x (aaP ..);have⟨n1,n2⟩:=acw.mp nd;have:=qR (l:=r) (l':=l'.erase x) n2 fun y hy=>(List.mem_erase_of_ne (show y≠x from fun z=>n1 (z▸hy))).mpr (h y (aaI _ hy));rw[List.length_erase_of_mem hx]at this;have hp:0 < l'.length:=acZ hx;rw[aaX];omega
theorem ty_list:xQ "list" (.im (.list ds)) W:=.inl ⟨rfl,_,rfl⟩
theorem nM:dX W (.im (.list (ns.map .int)))=some (ns.map fun i=>.im (.int i)):=by show some _=_;rw[acz];rfl
theorem o8:∀ ns:List Int,iF (ns.map PyData.int)=true
 | []=>rfl
 | n::r=>by rw[aaM];unfold iF;rw[o8 r];rfl
theorem dN{f:DV->Option PyData}{x:DV}{d:PyData}{r:List DV}(h:f x=some d)(hr:gx f r=some ds):gx f (x::r)=some (d::ds):=by unfold gx;rw[h,hr];rfl
theorem bK(h:n<=100000):n < sizeLine:=acU h @1
abbrev sU:=Option (Str×Int×v0)
noncomputable def iA:sU->PyData
 | none=>.none
 | some (k,x,v)=>.tuple [.str k,.int x,qO v]
set_option genInjectivity true in
inductive Ev where
 | fin (b pl:Int) (t:sU) | dQ (b n v:Int) | down (b n c v:Int) | eE (b k:Int)
variable {es:List Ev}
noncomputable def eB:Ev->PyData
 | .fin b pl t=>.tuple [.str "end",.int b,.int pl,iA t]
 | .dQ b n v=>.tuple [.str "late",.int b,.int n,.int v]
 | .down b n c v=>.tuple [.str "down",.int b,.int n,.int c,.int v]
 | .eE b k=>.tuple [.str "bell",.int b,.int k]
def Ev.au:Ev->Int
 | .fin b _ _=>b
 | .dQ b _ _=>b
 | .down b _ _ _=>b
 | .eE b _=>b
noncomputable def vG:Option (Str×Int)->PyData
 | none=>.none
 | some (k,n)=>.tuple [.str k,.int n]
noncomputable abbrev sU.pY(t:sU):Option (Str×Int):=t.map fun x=>(x.1,x.2.1)
noncomputable abbrev vx.told(t:vx):sU:=t.map fun x=>(x.1,x.2.1,some x.2.2)
theorem yw(t:vx):gz t=iA t.told:=by cases t<;>rfl
noncomputable def vH:Rw->Bool
 | .op x _ _ _=>decide (x = "mul")
 | .mv x _ _ _=>decide (x = "take")
 | _=>false
noncomputable def Fj:ku:=fun ds R _=>∃(r:Rw) (n:Int),ds=[dA r]/\iZ n r/\R (.im (.bool (vH r)))
noncomputable def yx:ku:=fun ds R _=>∃ t:sU,ds=[iA t]/\R (.im (vG t.pY))
structure HM where
 rows:List Rw
 bI:List Int
 rings:List (Int×Int)
 (width room queue cV longest:Int)
 st:BN
 (au events ends dR aF:Int)
 taken:List Int
 aZ:List (Int×Int×Int×Int)
 laid:List (Int×Int×Int)
 cause:Option Str
variable {h h':HM}
structure Fl where
 (p d tk ow la:Addr)
noncomputable def dD(x:Int×Int×Int×Int):PyData:=.tuple [.int x.1,.int x.2.1,.int x.2.2.1,.int x.2.2.2]
noncomputable def eY(x:Int×Int×Int):PyData:=.tuple [.int x.1,.int x.2.1,.int x.2.2]
noncomputable def mW:Option Str->PyData
 | none=>.none
 | some x=>.str x
noncomputable def bT:List Str:=["mill", "state", "rings", "terms", "width", "room", "queue", "patience", "longest", "beat", "events", "ends", "ends_of_beat", "pressed", "taken", "owed", "laid", "cause"]
noncomputable def uc(a:Fl)(h:HM):List (Str×DV):=[("mill",.im (bz h.rows h.bI)),("state",.im (fE h.st)),("rings",.im (.list (h.rings.map pairD))),("terms",.im (.tuple [.int h.width,.int h.room,.int h.queue,.int h.cV,.int h.longest])),("width",.im (.int h.width)),("room",.im (.int h.room)),("queue",.im (.int h.queue)),("patience",.im (.int h.cV)),("longest",.im (.int h.longest)),("beat",.im (.int h.au)),("events",.im (.int h.events)),("ends",.im (.int h.ends)),("ends_of_beat",.im (.int h.dR)),("pressed",.im (.int h.aF)),("taken",.pt a.tk),("owed",.pt a.ow),("laid",.pt a.la),("cause",.im (mW h.cause))]
def mI(ds:wE):Cell:=.lst (ds.map .im)
noncomputable def fe(kH:Addr)(a:Fl)(h:HM):Ws:=[(a.p,.ob kH a.d (uc a h)),(a.tk,mI (h.taken.map .int)),(a.ow,mI (h.aZ.map dD)),(a.la,mI (h.laid.map eY))]
theorem aW{a:Fl}:PlainL (fe kH a h)=true:=rfl
def Fl.on(a' a:Fl):Prop:=a'.p=a.p/\a'.d=a.d
section
variable {K:zn}{a:Fl}{f:Str}{v:DV}{Pr:Wd->Prop}
theorem Lm(h':HM)(hA:At W (fe kH a h))(c:gH K kH bT)(q:∀ W1,At W1 (fe kH a h')->Pr W1)(n:autoParam (f∈bT) ra10)(e:autoParam (putD f v (uc a h)=uc a h') ra2)(ht:autoParam ((fe kH a h').tail=(fe kH a h).tail) ra0):∃ p' k d fs,DV.pt a.p=.pt p'/\W p'=some (.ob k d fs)/\mP K k/\cM K k f/\fs.length < 1000/\Pr (aG W p' (.ob k d (putD f v fs))) :=
 sG hA c 0 rfl n (by show 18 < 1000;decide) fun W1 h1 f1=>q W1 (by rw[e]at h1;show At W1 ((a.p,.ob kH a.d (uc a h'))::(fe kH a h').tail);rw[ht];exact h1)
theorem XM(h':HM)(hA:At W (fe kH a h))(q:∀ W1,At W1 (fe kH a h')->Pr W1)(e:autoParam (putD f v (uc a h)=uc a h') ra2)(ht:autoParam ((fe kH a h').tail=(fe kH a h).tail) ra0):∃ d fs,W a.p=some (.ob kH d fs)/\fs.length < 1000/\Pr (aG W a.p (.ob kH d (putD f v fs))) :=
 ⟨_,_,hA.get 0 rfl,(by show 18 < 1000;decide),q _ (by rw[e];show At _ ((a.p,.ob kH a.d (uc a h'))::(fe kH a h').tail);rw[ht];exact hA.set 0 rfl)⟩
theorem Z2{q:Addr}{W0:Wd}{c':Cell}(i:Nat)(a':Fl)(h':HM)(hA:At W0 (fe kH a h))(c:gH K kH bT)(hq:W0 q=none)(fq:Fr q W0 W)(wq:W q=some c')(k:∀ W1,At W1 (fe kH a' h')->Pr W1)(e:((fe kH a h).set i (q,c')).set 0 (a.p,.ob kH a.d (putD f v (uc a h)))=fe kH a' h')(h0:autoParam (((fe kH a h).set i (q,c'))[0]?=some (a.p,.ob kH a.d (uc a h))) ra0)(n:autoParam (f∈bT) ra10):∃ p' k d fs,DV.pt a.p=.pt p'/\W p'=some (.ob k d fs)/\mP K k/\cM K k f/\fs.length < 1000/\Pr (aG W p' (.ob k d (putD f v fs))) :=
 sG (hA.swap i hq fq wq) c 0 h0 n (by show 18 < 1000;decide) fun W1 h1 _=>k W1 (by rw[e]at h1;exact h1)
theorem XN(hA:At W (fe kH a h))(f:Fr a.tk W W')(w:W' a.tk=some (.lst ((xs.map PyData.int).map .im))):At W' (fe kH a { h with taken:=xs }):=hA.iB 1 rfl f w
theorem XO{xs:List (Int×Int×Int×Int)}(hA:At W (fe kH a h))(f:Fr a.ow W W')(w:W' a.ow=some (.lst ((xs.map dD).map .im))):At W' (fe kH a { h with aZ:=xs }):=hA.iB 2 rfl f w
theorem XQ{xs:List (Int×Int×Int)}(hA:At W (fe kH a h))(f:Fr a.la W W')(w:W' a.la=some (.lst ((xs.map eY).map .im))):At W' (fe kH a { h with laid:=xs }):=hA.iB 3 rfl f w
theorem O9(hA:At W (fe kH a h)):W a.tk=some (.lst ((h.taken.map PyData.int).map .im)):=hA.get 1 rfl
theorem pZ(hA:At W (fe kH a h)):W a.ow=some (.lst ((h.aZ.map dD).map .im)):=hA.get 2 rfl
theorem Je(hA:At W (fe kH a h)):W a.la=some (.lst ((h.laid.map eY).map .im)):=hA.get 3 rfl
end
noncomputable def jM(rs:ut)(tk:wn)(au:Int):List Int:=([0,1,2,3]:wn).filter fun k=>decide (tk.count k < (bZ rs au).count k)
noncomputable def HM.bq(h:HM)(au:Int):List Int:=jM h.rings h.taken au
noncomputable def HM.aE(h:HM)(au:Int):Bool:=!h.st.cJ&&decide (0 < (h.bq au).length)
def HM.endsAt(h:HM)(au:Int):Int:=if au=h.au then h.dR else 0
abbrev HM.row(h:HM):Rw:=rowOf h.rows h.st.place
noncomputable def lp:Rw->List Int
 | .put d v=>[d,v]
 | .op _ d a b=>[d,a,b]
 | .mv _ d a n=>[d,a,n]
 | .go a p=>[a,p]
 | .one _=>[]
def Jf:Rw->Str
 | .put _ _ => "put"
 | .op x _ _ _=>x
 | .mv x _ _ _=>x
 | .go _ _ => "go"
 | .one x=>x
noncomputable def qa(r:Rw):List Str:=(ck.lookup (Jf r)).getD []
theorem lq{r:Rw}(ok:iZ m r):dA r=.tuple (.str (Jf r)::(lp r).map .int)/\ck.lookup (Jf r)=some (qa r):=by
 have k:∀ x∈ck.map (·.1),ck.lookup x=some ((ck.lookup x).getD []):=by decide +kernel
 have m1:("put":Str)∈ck.map (·.1)/\("go":Str)∈ck.map (·.1)/\("sum":Str)∈ck.map (·.1)/\("mul":Str)∈ck.map (·.1)/\("less":Str)∈ck.map (·.1)/\("take":Str)∈ck.map (·.1)/\("lay":Str)∈ck.map (·.1)/\("shut":Str)∈ck.map (·.1)/\("open":Str)∈ck.map (·.1)/\("home":Str)∈ck.map (·.1):=by decide +kernel
 obtain⟨h1,h2,h3,h4,h5,h6,h7,h8,h9,h0⟩:=m1;cases r with
 | put d v=>exact⟨rfl,k _ h1⟩
 | op x d a b=>exact⟨rfl,by rcases ok.1 with rfl | rfl | rfl;exact k _ h3;exact k _ h4;exact k _ h5⟩
 | mv x d a n=>exact⟨rfl,by rcases ok.1 with rfl | rfl;exact k _ h6;exact k _ h7⟩
 | go a p=>exact⟨rfl,k _ h2⟩
 | one x=>exact⟨rfl,by rcases ok with rfl | rfl | rfl;exact k _ h8;exact k _ h9;exact k _ h0⟩
noncomputable def fm(r:Rw)(To:Int):Bool:=decide (To∈cf (qa r) (lp r))||decide (some To=dB (qa r) (lp r))
noncomputable def HM.fO(h:HM)(r:Rw)(t:sU):Option Str :=
 if t.pY≠sU.pY (r.wrote h.st.aL h.st.cells).told then some "thing" else
 match t with
 | none=>none
 | some (k,_,none)=>if vH r=false then some "owed" else if h.room<=h.aZ.length then some "room" else if k = "cell"/\h.queue<=h.laid.length then some "room" else none
 | some (k,_,some v)=>if(r.wrote h.st.aL h.st.cells).map (·.2.2)≠some v then some "worth" else if k = "cell"/\h.queue<=h.laid.length then some "room" else none
noncomputable def HM.ik(h:HM)(b pl:Int)(t:sU):Option Str :=
 if h.st.place=h.rows.length then some "rest" else if pl≠h.st.place then some "place" else if h.width<=h.endsAt b then some "crowd" else if h.aE b=true/\h.cV<=h.aF then some "bell"
 else if h.aZ.any (fun o=>fm h.row o.2.1)=true then some "ahead" else h.fO h.row t
noncomputable def HM.gg(h:HM)(n v:Int):Option Str:=match h.aZ.filter fun o=>decide (o.1=n) with
 | []=>some "stray"
 | o::_=>if o.2.2.1=v then none else some "worth"
noncomputable def HM.ip(h:HM)(n c v:Int):Option Str:=match h.laid with
 | []=>some "stray"
 | l::_=>if l.1≠n then some "stray" else if l.2.1≠c then some "thing" else if l.2.2=v then none else some "worth"
noncomputable def HM.fQ(h:HM)(b k:Int):Option Str:=if k ∉ h.bq b then some "stray" else if h.st.cJ=true then some "shut" else if(h.bq b).head?=some k then none else some "order"
noncomputable def HM.aU(h:HM)(e:Ev):Option Str :=
 if e.au < h.au then some "beat" else if h.aZ.any (fun o=>decide (o.2.2.2+h.longest < e.au))=true then some "overdue" else
 match e with
 | .fin b pl t=>h.ik b pl t
 | .dQ _ n v=>h.gg n v
 | .down _ n c v=>h.ip n c v
 | .eE b k=>h.fQ b k
noncomputable def HM.bV(h:HM)(b:Int)(t:sU)(w:vx):HM:=match t,w with
 | some (_,_,none),some (_,x,v)=>{ h with aZ:=h.aZ++[(h.ends,x,v,b)] }
 | some (k,_,some _),some (_,x,v)=>if k = "cell" then{ h with laid:=h.laid++[(h.ends,x,v)] }else h
 | _,_=>h
noncomputable def HM.dE(h:HM)(b:Int)(t:sU):HM :=
 let h2:HM:=({ h with aF:=if h.aE b=true then h.aF+1 else 0 }:HM).bV b t (h.row.wrote h.st.aL h.st.cells)
 { h2 with st:=dZ h.row h.st,ends:=h2.ends+1,dR:=h2.dR+1 }
noncomputable def HM.yy(h:HM)(k:Int):HM:={ h with st:=mH h.bI k h.st,taken:=h.taken++[k],aF:=0 }
noncomputable def HM.bp(h:HM)(e:Ev):HM :=
 let h1:HM:={ h with dR:=h.endsAt e.au }
 let h2:HM:=match e with
  | .fin b _ t=>h1.dE b t
  | .dQ _ n _=>{ h1 with aZ:=h1.aZ.filter fun o=>decide (o.1≠n) }
  | .down _ _ _ _=>{ h1 with laid:=h1.laid.drop 1 }
  | .eE _ k=>h1.yy k
 { h2 with au:=e.au,events:=h2.events+1 }
noncomputable def HM.tell(h:HM)(e:Ev):HM:=match h.aU e with
 | some x=>{ h with cause:=some x }
 | none=>h.bp e
abbrev Fm:Stmt:=top 15
abbrev yz:Stmt:=top 13
abbrev Fn:Stmt:=top 23
abbrev Fo:Stmt:=top 24
abbrev yA:Stmt:=top 31
theorem Pa:az ["row"] ["row"] (defScope Fm):=by ac_rfl
theorem nN:az ["row", "spots", "part", "number"] ["row"] (defScope yz):=by ac_rfl
theorem Pb:az ["rings", "beat"] ["rings", "beat"] (defScope Fn):=by ac_rfl
theorem Fp:az ["rings", "taken", "beat", "rung"] ["rings", "taken", "beat"] (defScope Fo):=by ac_rfl
theorem Jg:az ["wrote"] ["wrote"] (defScope yA):=by ac_rfl
section
variable {K:zn}
theorem Jh(F:cR K "is_slow" "is_slow" Fm f fd)(jl:mg "SLOW_WORDS"=some (.ref aS))(sW:∀ H,fX K H aS [.str "mul",.str "take"]):ba P w K mg base df 1 f fd ["row"] (eZ Fj):=by
 exact_mod_cast F.pW Pa (by nofun);refine⟨_,!("aiaxRtjhhuak0afSxjlsW",0),?_⟩;push_cast;rintro ds R ⟨r,n,rfl,ok,q⟩;have two:∀{W:Wd} {Q:DK} {x:Str},Q (.im (.bool (decide (x∈[("mul":Str), "take"])))) W->uR false (.im (.str x)) (.cst [V.str "mul",V.str "take"]) W Q:=fun{W Q x} h=>lh (neg:=false) (xs:=["mul", "take"]) rfl h;cases r with
 | put d v =>
  dsimp only[dA];lia;exact two q
 | op x d a b =>
  dsimp only[dA];rcases ok.1 with rfl | rfl | rfl
  all_goals
   lia
   exact two q
 | mv x d a n =>
  dsimp only[dA];rcases ok.1 with rfl | rfl
  all_goals
   lia
   exact two q
 | go b p =>
  dsimp only[dA];lia;exact two q
 | one x =>
  dsimp only[dA];rcases ok with rfl | rfl | rfl
  all_goals
   lia
   exact two q
theorem Fq{aP:Addr}(F:cR K "spots_read" "spots_read" yz f fd)(jY:mg "PARTS"=some (.ref aP))(hP:ModT K w aP l6)(qQ:mg "zip"=none):ba P w K mg base df 1 f fd ["row"] (eZ yv):=by
 exact_mod_cast F.pW nN (by nofun);refine⟨_,!("aeaC**bDagaejy*jj*bSaX**bSaX**jdaiaTiT.w_and pSjhhu2brcz.rfl bJpSlWhu31aieMj1.aaZ .aa9 .aba dm1aa3agawaiax1",1,nN.nd,(J9 .T .T qQ (aa (S1 jY hP (ak (ah 0) af)) (aa (jZ oy (ah 0) (eO af) fu) ag))),2,2,nN.nd,3,nN.nd),?_⟩
 push_cast;rintro ds R ⟨x,ps,ns,rfl,hx,q⟩;refine cA [_,none,none,none] rfl ?_;have EA:ps.length<=3:=(show ∀ y∈ck,y.2.length<=3 by decide +kernel) _ (lookup_mem hx)
 rfl'
 refine gF (aaY _) fun l W0 hl wl fl=>?_
 rfl'
 refine ao ?_
 rfl'
 refine bO (D:=.str x) (bY (j:=0) rfl) ?_;refine⟨x,_,rfl,by unfold l6;rw[hx];rfl,?_⟩
 rfl'
 refine E9 ?_
 rfl'
 have fl:(ps.map V.str).all eW=true:=by rw[List.all_map];exact abH.mpr fun _ _=>rfl
 refine KY (ds:=ps.map .str) (es:=ns.map .int) (by show kr (.cst _)=_;simp only[kr,fl,acT,acz];rfl) rfl ?_;refine Ad (fun i Y W=>∃ u v,Y=[some (.im (.tuple (.str x::ns.map .int))),some (.pt l),u,v]/\W l=some (.lst (((cf (ps.take i) (ns.take i)).map PyData.int).map .im))/\(cf (ps.take i) (ns.take i)).length<=i) ⟨_,_,rfl,wl,aaC _⟩ (fun _ _ _ _=>⟨trivial,trivial⟩) ?_ ?_
 .rintro i a d Y W ha hd ⟨u,v,rfl,wl,II⟩;rw[aaz]at ha hd;obtain⟨pz,Th,rfl⟩:=aaB.mp ha;obtain⟨nz,UW,rfl⟩:=aaB.mp hd;have hz:(ps.zip ns)[i]?=some (pz,nz):=abD.mpr ⟨Th,UW⟩;have es:=sT Th UW
  rfl'
  refine aH (ds:=[.str "a",.str "b"]) (by show 2<=sizeLine;decide) (lh (neg:=false) (xs:=["a", "b"]) rfl ?_)
  rfl'
  by_cases GV:pz∈[("a":Str), "b"]
  .have Pc:pz=("a":Str)\/pz=("b":Str):=by simpa using GV
   refine pT GV ?_
   rfl'
   refine jI (neg:=true) (Td wl) ?_
   rfl'
   by_cases pL:nz∈cf (ps.take i) (ns.take i)
   .rw[aaD (fun z=>z.2 pL)]at es;rw[aaO rfl,aa2 pL]
    rfl'
    exact⟨_,_,rfl,by rw[es];exact wl,by rw[es];omega⟩
   .rw[aaO ⟨Pc,pL⟩]at es;rw[aaO rfl,aaJ pL]
    rfl'
    have Xj:=(aaH.mp Th).1;refine dS wl (by rw[aav,aav];exact bK @0) fun W3 w3 f3=>?_;exact⟨_,_,rfl,by rw[es,w3];simp,by rw[es,aaV];simp;omega⟩
  .have Pc:¬ (pz=("a":Str)\/pz=("b":Str)):=by simpa using GV
   rw[aaD (fun z=>Pc z.1)]at es;refine kl GV ?_
   rfl'
   exact⟨_,_,rfl,by rw[es];exact wl,by rw[es];omega⟩
 .rintro Y W ⟨u,v,rfl,wl,_⟩
  rfl'
  rw[aav,aav,vF]at wl;exact kx wl q
theorem Ji(F:cR K "bells_rung" "bells_rung" Fn f fd):ba P w K mg base df 1 f fd ["rings", "beat"] (eZ Ll):=by
 exact_mod_cast F.pW Pb (by nofun);refine⟨_,!("aiax&**^cX0?jj*bSaX*~bSaX*~jd?fJaAzo02?1",["rung", "k", "beat"],[none,none,some 1],2,0,1),?_⟩;push_cast;rintro ds R ⟨rs,au,rfl,hl,q⟩
 rfl'
 refine gm (fun i ys W=>ys=((bZ (rs.take i) au).map PyData.int).map .im) (by rw[aav];exact aaQ (bK @0)) rfl ?_ ?_
 .rintro i d ys W hd _ rfl;rw[aaz]at hd;obtain⟨r,hr,rfl⟩:=aaB.mp hd;have et:rs.take (i+1)=rs.take i++[r]:=by rw[aaU,hr];rfl
  unfold pairD
  rfl'
  rw[et];unfold bZ;rw[aa8];refine fi (fun h=>?_) (fun h=>?_)
  .rfl'
   simp[show r.1<=au from h]
  .rfl'
   simp[show ¬ r.1<=au from h]
 .rintro ys W rfl;rw[aav,aa0];refine jG fun p W1 hp wp fp=>?_;exact kx wp q
theorem Jj{fR:Addr}{XJ:wT}(F:cR K "bells_waiting" "bells_waiting" Fo f fd)(vI:Dn P w K mg base 1 "bells_rung" fR XJ ["rings", "beat"] (eZ Ll))(i5:mg "sorted"=none)(Fs:mg "set"=none):ba P w K mg base df 2 f fd ["rings", "taken", "beat"] (eZ Fi):=by
 exact_mod_cast F.pW Fp (by nofun);refine⟨_,!("aeaC**aqvIhraa0aa2agaiax&**^cXBL.rfl i5Fs3?aX*~?fJaAuoj1.aaZ **vo1aa0agj1.aaZ **vo2aa0ag?0",3,Fp.nd,["k", "rung", "taken"],[none,some 3,some 1],0,PySem.F.slot_list_count,PySem.F.type_list_count,PySem.F.slot_list_count,PySem.F.type_list_count),?_⟩
 push_cast;rintro ds R ⟨rs,tk,au,rfl,hl,q⟩;refine cA [_,_,_,none] rfl ?_;have XR:=BR rs au
 rfl'
 refine bc (ds:=[.list (rs.map pairD),.int au]) ⟨rs,au,rfl,hl,u0 ?_⟩
 rfl'
 refine⟨bZ rs au,nM,@0,fun ns hp hm=>?_⟩;rw[show(ns.map fun i=>DV.im (.int i))=(ns.map PyData.int).map .im by rw[acz];rfl];refine cj ?_
 rfl'
 have hnl:ns.length<=rs.length:=by
  exact aaE (qR (hp.imp fun h=>Int.ne_of_lt h) fun k hk=>(hm k).mp hk) XR
 refine gm (fun i ys W=>ys=((((ns.take i).filter fun k=>decide (tk.count k < (bZ rs au).count k))).map PyData.int).map .im) (by rw[aav];exact aaQ (bK @0)) rfl ?_ ?_
 .rintro i d ys W hd _ rfl;rw[aaz]at hd;obtain⟨k,hk,rfl⟩:=aaB.mp hd;have et:ns.take (i+1)=ns.take i++[k]:=by rw[aaU,hk];rfl
  rfl'
  refine⟨ty_list,?_⟩
  rfl'
  refine⟨_,k,rfl,nM,?_⟩
  rfl'
  refine⟨ty_list,?_⟩
  rfl'
  refine⟨_,k,rfl,nM,?_⟩
  rfl'
  rw[et,aa8];refine fi (fun h=>?_) (fun h=>?_)
  .rfl'
   have h':tk.count k < (bZ rs au).count k:=by omega
   simp[h']
  .rfl'
   have h':¬ tk.count k < (bZ rs au).count k:=by omega
   simp[h']
 .rintro ys W rfl;rw[aav,aa0];refine jG fun p W1 Tj wp fp=>?_;refine kx wp (q _ (hp.sublist (acM ..)) fun k=>?_);unfold AB;rw[abg,abg,hm]
theorem Ft(F:cR K "thing_of" "thing_of" yA f fd):ba P w K mg base df 1 f fd ["wrote"] (eZ yx):=by
 exact_mod_cast F.pW Jg (by nofun);refine⟨_,!("aiaxrYgW0cYbraaak0afaaak0afag",0),?_⟩;push_cast;rintro ds R ⟨t,rfl,q⟩;rcases t with _ | ⟨k,x,v⟩<;>dsimp only[iA]
 .ext
  exact q
 .ext
  exact aH (ds:=[.str k,.int x]) (by show 2<=sizeLine;decide) q
end
structure eV(h:HM):Prop where
 jr:sJ h.rows h.bI
 st:ke h.rows.length h.st
 rl:h.rings.length<=60
 rb:∀ r∈h.rings,0<=r.2/\r.2 < h.bI.length
 tk:h.taken.length<=5000
 ow:h.aZ.length<=5000
 la:h.laid.length<=5000
theorem AD:∀{l m:wn},l.Pairwise (· < ·)->m.Pairwise (· < ·)->(∀ k,k∈l↔k∈m)->l=m
 | [],[],_,_,_=>rfl
 | [],y::m,_,_,h=>by have:=(h y).mpr (aaP ..);cases this
 | x::l,[],_,_,h=>by have:=(h x).mp (aaP ..);cases this
 | x::l,y::m,hl,hm,h=>by
  obtain⟨l1,l2⟩:=abX.mp hl;obtain⟨m1,m2⟩:=abX.mp hm;have e:x=y:=by
   rcases aaA.mp ((h x).mp (aaP ..))with e | e
   .exact e
   rcases aaA.mp ((h y).mpr (aaP ..))with e' | e'
   .exact e'.symm
   have a1:=m1 x e;have a2:=l1 y e';omega
  subst e;rw[AD l2 m2 fun k=>⟨fun hk=>(aaA.mp ((h k).mp (aaI _ hk))).resolve_left fun z=>by have:=l1 k hk;omega,fun hk=>(aaA.mp ((h k).mpr (aaI _ hk))).resolve_left fun z=>by have:=m1 k hk;omega⟩]
theorem Fu{rs:ut}{tk:wn}{au:Int}(rb:∀ r∈rs,0<=r.2/\r.2 < 4)(hp:ns.Pairwise (· < ·))(hm:∀ k,k∈ns↔k∈AB rs tk au):ns=jM rs tk au:=by
 refine AD hp (ac5 (acM ..) @1) fun k=>?_;rw[hm];unfold AB jM;rw[abg,abg];refine⟨fun⟨h1,h2⟩=>⟨?_,h2⟩,fun⟨_,h2⟩=>⟨?_,h2⟩⟩
 .unfold bZ at h1;obtain⟨r,hr,rfl⟩:=abe.mp h1;have:=rb r (abg.mp hr).1;have:r.2=0\/r.2=1\/r.2=2\/r.2=3:=by omega
  simpa using this
 .have h3:=abV h2;exact List.count_pos_iff.mp @0
noncomputable def Fv(kH:Addr):kZ:=fun aK W R _=>∃ a h,aK=[.pt a.p]/\At W (fe kH a h)/\eV h/\h.st.place < h.rows.length/\∀ W',At W' (fe kH a h)->R (.im (dA h.row)) W'
noncomputable def nP(kH:Addr):kZ:=fun aK W R _=>∃ a h au,aK=[.pt a.p,.im (.int au)]/\At W (fe kH a h)/\eV h/\∀ W',At W' (fe kH a h)->R (.im (.list ((h.bq au).map .int))) W'
noncomputable def lr(kH:Addr):kZ:=fun aK W R _=>∃ a h au,aK=[.pt a.p,.im (.int au)]/\At W (fe kH a h)/\eV h/\∀ W',At W' (fe kH a h)->R (.im (.bool (h.aE au))) W'
noncomputable def nQ(kH:Addr):kZ:=fun aK W R _=>∃ a h au,aK=[.pt a.p,.im (.int au)]/\At W (fe kH a h)/\∀ W',At W' (fe kH a h)->R (.im (.int (h.endsAt au))) W'
noncomputable def sX(kH:Addr):kZ:=fun aK W R _=>∃ a h,aK=[.pt a.p]/\At W (fe kH a h)/\∀ W',At W' (fe kH a h)->R (.im (i4 (h.cause.map fun x=>(h.events,x)))) W'
noncomputable abbrev Fw:Stmt:=(met 33 8)
noncomputable abbrev sY:Stmt:=(met 33 9)
noncomputable abbrev o9:Stmt:=(met 33 10)
noncomputable abbrev sZ:Stmt:=(met 33 11)
noncomputable abbrev tf:Stmt:=(met 33 20)
theorem Pd:az ["self"] ["self"] (defScope Fw):=by ac_rfl
theorem Fx:az ["self", "beat"] ["self", "beat"] (defScope sY):=by ac_rfl
theorem BS:az ["self", "beat"] ["self", "beat"] (defScope o9):=by ac_rfl
theorem Fy:az ["self", "beat"] ["self", "beat"] (defScope sZ):=by ac_rfl
theorem FA:az ["self"] ["self"] (defScope tf):=by ac_rfl
section
variable {K:zn}
theorem Jk(F:cR K "row_now" "Holder.row_now" Fw f fd)(cN:gH K kH bT):ba P w K mg base df 1 f fd ["self"] (fY K (Fv kH)):=by
 exact_mod_cast F.wM Pd (fun aK W R X zz=>by obtain⟨a,b,e,_⟩:=zz; rw[e];rfl);refine⟨_,!("aiaxakakbC0afakbC0af",0),?_⟩;norm_cast;rintro aK R ⟨a,h,rfl,hA,ok,hp,qq⟩
 ext
 exact bO (ff ok.jr ok.st.p0 hp).1 (qq W hA)
theorem BU{fB:Addr}{fdB:wT}(F:cR K "waiting_by" "Holder.waiting_by" sY f fd)(cN:gH K kH bT)(pb:Dn P w K mg base 2 "bells_waiting" fB fdB ["rings", "taken", "beat"] (eZ Fi)):ba P w K mg base df 3 f fd ["self", "beat"] (fY K (nP kH)):=by
 exact_mod_cast F.wM Fx (fun aK W R X zz=>by obtain⟨a,b,c,e,_⟩:=zz; rw[e];rfl);refine⟨_,!("aiaxaqpbhraabC0aabC0aa1ag",0),?_⟩;norm_cast;rintro aK R ⟨a,h,au,rfl,hA,ok,qq⟩
 ext
 refine nK (ds:=[.list (h.rings.map pairD),.list (h.taken.map .int),.int au]) (dN bR (dN (fv (O9 hA)) (dN bR rfl))) ⟨h.rings,h.taken,au,rfl,ok.rl,fun ns hp hm=>⟨o8 ns,u0 ?_⟩⟩;rw[Fu (fun r hr=>⟨(ok.rb r hr).1,by have:=(ok.rb r hr).2;have:=ok.jr.b1;omega⟩) hp hm];exact qq W hA
theorem yB{fW:Addr}(F:cR K "is_pressed" "Holder.is_pressed" o9 f fd)(cN:gH K kH bT)(jN:jH P w K mg base 3 kH "waiting_by" fW Ti ["self", "beat"] (fY K (nP kH)))(bh:mg "len"=none):ba P w K mg base df 4 f fd ["self", "beat"] (fY K (lr kH)):=by
 exact_mod_cast F.wM BS (fun aK W R X zz=>by obtain⟨a,b,c,e,_⟩:=zz; rw[e];rfl);refine⟨_,!("aiaxuLKbakbC0afuKiDuobEbjbh.aa4 aafbjNhr0aa1agagaf",0),?_⟩;norm_cast;rintro aK R ⟨a,h,au,rfl,hA,ok,qq⟩;unfold HM.aE at qq
 ext
 cases e:h.st.cJ with
 | true =>
  rw[e]at qq;exact qq W hA
 | false =>
  rw[e]at qq
  ext
  refine cD hA aW fun W1 R' h1 g=>⟨a,h,au,rfl,h1,ok,fun W' h'=>g _ _ fun W2 t fr=>?_⟩;have fZ:=t _ h' aW
  ext
  have q:=qq W2 fZ;simp only[Bool.not_false,Bool.true_and]at q;rw[aav,show decide ((0:Int) < ((h.bq au).length:Int))=decide (0 < (h.bq au).length) by simp only[Int.natCast_pos]];exact q
theorem BV(F:cR K "ends_at" "Holder.ends_at" sZ f fd)(cN:gH K kH bT):ba P w K mg base df 1 f fd ["self", "beat"] (fY K (nQ kH)):=by
 exact_mod_cast F.wM Fy (fun aK W R X zz=>by obtain⟨a,b,c,e,_⟩:=zz; rw[e];rfl);refine⟨_,!("aiaxrYaAaJhu1bC0bC0af",0),?_⟩;norm_cast;rintro aK R ⟨a,h,au,rfl,hA,qq⟩;have q:=qq W hA;unfold HM.endsAt at q
 ext
 refine fi (fun e=>?_) (fun e=>?_)
 .rw[aaO e]at q
  ext
  exact q
 .rw[aaD e]at q
  ext
  exact q
theorem BW(F:cR K "parted" "Holder.parted" tf f fd)(cN:gH K kH bT):ba P w K mg base df 1 f fd ["self"] (fY K (sX kH)):=by
 exact_mod_cast F.wM FA (fun aK W R X zz=>by obtain⟨a,b,e,_⟩:=zz; rw[e];rfl);refine⟨_,!("aiaxrYgWbC0cYbraabC0aabC0ag",0),?_⟩;norm_cast;rintro aK R ⟨a,h,rfl,hA,qq⟩;have q:=qq W hA
 ext
 cases e:h.cause with
 | none =>
  rw[e]at q
  ext
  exact q
 | some x =>
  rw[e]at q
  ext
  rw[e];exact aH (ds:=[.int h.events,.str x]) (by show 2<=sizeLine;decide) q
end
def tj(a:Option (Str×Int)):Prop:=∀ k x,a=some (k,x)->k = "spot"\/k = "cell"
noncomputable def pd(kH:Addr):kZ:=fun aK W R _=>∃ a h t,aK=[.pt a.p,.im (dA h.row),.im (iA t)]/\At W (fe kH a h)/\eV h/\h.st.place < h.rows.length/\tj t.pY/\∀ W',At W' (fe kH a h)->R (.im (mW (h.fO h.row t))) W'
noncomputable def tq(kH:Addr):kZ:=fun aK W R _=>∃ a h b n v,aK=[.pt a.p,.im (eB (.dQ b n v))]/\At W (fe kH a h)/\eV h/\∀ W',At W' (fe kH a h)->R (.im (mW (h.gg n v))) W'
noncomputable def tD(kH:Addr):kZ:=fun aK W R _=>∃ a h b n c v,aK=[.pt a.p,.im (eB (.down b n c v))]/\At W (fe kH a h)/\eV h/\∀ W',At W' (fe kH a h)->R (.im (mW (h.ip n c v))) W'
noncomputable def tE(kH:Addr):kZ:=fun aK W R _=>∃ a h b k,aK=[.pt a.p,.im (eB (.eE b k))]/\At W (fe kH a h)/\eV h/\∀ W',At W' (fe kH a h)->R (.im (mW (h.fQ b k))) W'
noncomputable abbrev pe:Stmt:=(met 33 4)
noncomputable abbrev tF:Stmt:=(met 33 5)
noncomputable abbrev tG:Stmt:=(met 33 6)
noncomputable abbrev tH:Stmt:=(met 33 7)
theorem l9:az ["self", "row", "wrote", "right", "is_owed"] ["self", "row", "wrote"] (defScope pe):=by ac_rfl
theorem vJ:az ["self", "event", "found"] ["self", "event"] (defScope tF):=by ac_rfl
theorem FC:az ["self", "event"] ["self", "event"] (defScope tG):=by ac_rfl
theorem vK:az ["self", "event", "waiting"] ["self", "event"] (defScope tH):=by ac_rfl
section
variable {K:zn}
theorem tI:hV W (.im (.list ds))=some ds:=jT (fun _=>by rfl) ds
theorem Jl:∀ a b:Option (Str×Int),PyData.eqv (vG a) (vG b)=decide (a=b)
 | none,none=>rfl
 | none,some _=>rfl
 | some _,none=>rfl
 | some (k,n),some (k',n')=>by
  show(PyData.eqv (.str k) (.str k')&&(PyData.eqv (.int n) (.int n')&&true))=_;rw[kW,sx]
  by_cases h1:k=k'<;>by_cases h2:n=n'<;>simp[h1,h2]
theorem AE{a:Option (Str×Int)}(h:tj a):(vG a).canLay0=true:=by
 rcases a with _ | ⟨k,x⟩
 .rfl
 .rcases h k x rfl with rfl | rfl<;>(simp only[vG,PyData.canLay0,PyData.canLayAll0,Bool.and_true];decide +kernel)
theorem Ln{a b:Option (Str×Int)}(ha:tj a)(hb:tj b)(h:Q (.im (.bool (!decide (a=b)))) W):Bw (.im (vG a)) (.im (vG b)) W Q :=
 KU bR bR (.inr ⟨AE ha,AE hb,aaE (Nat.min_le_left ..) (by rcases a with _ | ⟨x,y⟩<;>simp[vG,PyData.depth,PyData.depthAll])⟩) (by rw[Jl];exact h)
theorem tJ{t:vx}(h:Aw t):tj t.told.pY:=by
 rintro k x e;rcases t with _ | ⟨k',x',v⟩
 .cases e
 .cases e;rcases h.1 with⟨z,_⟩ | ⟨z,_⟩
  .exact .inl z
  .exact .inr z
theorem yC(F:cR K "broken_by_wrote" "Holder.broken_by_wrote" pe f fd)(cN:gH K kH bT)(FD:Dn P w K mg base 4 "step" f1 d1 ["mill", "state"] (ky (eZ (SStep aR))))(qT:Dn P w K mg base 1 "thing_of" f2 d2 ["wrote"] (eZ yx))(FE:Dn P w K mg base 1 "is_slow" f3 d3 ["row"] (eZ Fj))(bh:mg "len"=none):ba P w K mg base df 5 f fd ["self", "row", "wrote"] (fY K (pd kH)):=by
 exact_mod_cast F.wM l9 (fun aK W R X zz=>by obtain⟨a,b,c,e,_⟩:=zz; rw[e];rfl);refine⟨_,!("aeaC**akakaqFDhraabC0aabC0agafafaeaTaAbMhuaqqThraa2agaqqThraa3agaiaxajawaeaTgW2aiaxcYawaeaC**zIak2afaeaTiT.w_and kG4bJgwkGaqFEhraa1agaiaxajawaeaTiT.w_and gwkG4bJaAbMhuak2afak3afaiaxajawaeaTiT.w_and kG4bJaAj9bEbjbh.aa4 aabC0agbC0aiaxajawaeaTiT.w_and aAaJhuak2afajbJaAj9bEbjbh.aa4 aabC0agbC0aiaxajawaiaxcY",3,l9.nd,4,l9.nd),?_⟩
 norm_cast;rintro aK R ⟨a,h,t,rfl,hA,ok,hp,hT,qq⟩;have q:=qq W hA;have wo:=pZ hA;have wl:=Je hA;have ro:=(ff ok.jr ok.st.p0 hp).2;unfold HM.fO at q
 ext
 refine bc (ds:=[bz h.rows h.bI,fE h.st]) ⟨h.rows,h.bI,h.st,rfl,ok.jr,ok.st,fun _=>cH ?_,fun z=>by omega⟩
 ext
 refine ao ?_
 ext
 refine bc (ds:=[iA t]) ⟨t,rfl,cH ?_⟩
 ext
 refine bc (ds:=[gz (h.row.wrote h.st.aL h.st.cells)]) ⟨_,by rw[yw],cH ?_⟩
 ext
 refine Ln hT (tJ (gA ro ok.st.sw ok.st.cw)) ?_
 ext
 refine oI (fun e=>?_) (fun e=>?_)
 .rw[aaO e]at q
  ext
  exact q
 rw[aaD (fun z=>z e)]at q
 ext
 refine ao ?_
 ext
 rcases t with _ | ⟨k,x,v⟩
 .ext
  exact q
 obtain⟨v',ew⟩:∃ v',h.row.wrote h.st.aL h.st.cells=some (k,x,v'):=by
  cases ew:h.row.wrote h.st.aL h.st.cells with
  | none=>rw[ew]at e;cases e
  | some y=>obtain⟨k',x',v'⟩:=y;rw[ew]at e;cases e;exact⟨v',rfl⟩
 rw[ew]at q;rw[ew];have ro':iZ h.rows.length h.row:=ro;dsimp only[iA]
 ext
 cases v with
 | none =>
  dsimp only at q
  ext
  refine ao ?_
  ext
  refine bc (ds:=[dA h.row]) ⟨h.row,_,rfl,ro',cH ?_⟩
  ext
  cases es:vH h.row with
  | false =>
   rw[es,aaO rfl]at q
   ext
   exact q
  | true =>
   rw[es,aaD @1]at q
   ext
   refine ao ?_
   ext
   refine ao ?_
   ext
   rw[aav,aav];refine fi (fun e=>?_) (fun e=>?_)
   .rw[aaO e]at q
    ext
    exact q
   rw[aaD e]at q
   ext
   refine ao ?_
   ext
   by_cases ek:k = "cell"
   .refine pT ek ?_
    ext
    rw[aav,aav];refine fi (fun e=>?_) (fun e=>?_)
    .rw[aaO ⟨ek,e⟩]at q
     ext
     exact q
    .rw[aaD (fun z=>e z.2)]at q
     ext
     exact q
   .refine kl ek ?_;rw[aaD (fun z=>ek z.1)]at q
    ext
    exact q
 | some v =>
  dsimp only at q
  ext
  refine ao ?_
  ext
  refine ao ?_
  ext
  dsimp only[qO]
  ext
  refine oI (fun e=>?_) (fun e=>?_)
  .rw[aaO (show Option.map (fun x:Str×Int×Int=>x.2.2) (some (k,x,v'))≠some v from fun z=>e (abb z).symm)]at q
   ext
   exact q
  rw[aaD (fun z=>z (by rw[e];rfl))]at q
  ext
  refine ao ?_
  ext
  refine ao ?_
  ext
  by_cases ek:k = "cell"
  .refine pT ek ?_
   ext
   rw[aav,aav];refine fi (fun e=>?_) (fun e=>?_)
   .rw[aaO ⟨ek,e⟩]at q
    ext
    exact q
   .rw[aaD (fun z=>e z.2)]at q
    ext
    exact q
  .refine kl ek ?_;rw[aaD (fun z=>ek z.1)]at q
   ext
   exact q
theorem BX(F:cR K "broken_by_late" "Holder.broken_by_late" tF f fd)(cN:gH K kH bT)(bh:mg "len"=none):ba P w K mg base df 1 f fd ["self", "event"] (fY K (tq kH)):=by
 exact_mod_cast F.wM vJ (fun aK W R X zz=>by obtain⟨a,b,c,d,g,e,_⟩:=zz; rw[e];rfl);refine⟨_,!("ae%***^*cXbC0?jj*bSaX*~bSaX*~bSaX*~bSaX*~jd?fJaAaJhu0ak4af?2aeaTaAaJhubEbjbh.aa4 aa2agafaiaxajawaiaxrYaAaJhuak2afak1afcYaj",2,["n", "spot", "worth", "told", "event"],[none,none,none,none,some 1],vJ.nd,4,0,1,2,3),?_⟩
 norm_cast;rintro aK R ⟨a,h,b,n,v,rfl,hA,ok,qq⟩;have q:=qq W hA;unfold HM.gg at q;dsimp only[eB]
 ext
 refine uX (pZ hA) ?_;refine gn (fun i ys W'=>W'=W/\ys=((((h.aZ.take i).filter fun o=>decide (o.1=n)).map fun o=>PyData.int o.2.2.1)).map .im) (by rw[aav];exact aaQ (bK (by have:=ok.ow;omega))) ⟨rfl,rfl⟩ (by rintro i ys _ ⟨rfl,_⟩;exact pZ hA) ?_ ?_
 .rintro i d ys _ hd _ ⟨rfl,rfl⟩;rw[aaz]at hd;obtain⟨r,hr,rfl⟩:=aaB.mp hd;have et:h.aZ.take (i+1)=h.aZ.take i++[r]:=by rw[aaU,hr];rfl
  unfold dD
  ext
  rw[et,aa8];refine fi (fun e=>?_) (fun e=>?_)
  .ext
   exact⟨rfl,by simp[show r.1=n from e]⟩
  .exact⟨rfl,by simp[show ¬ r.1=n from e]⟩
 .rintro ys _ ⟨rfl,rfl⟩;rw[aav,aa0];refine cj ?_
  ext
  refine ao ?_
  ext
  rw[aav];cases e:h.aZ.filter fun o=>decide (o.1=n) with
  | nil =>
   rw[e]at q
   ext
   exact q
  | cons o r =>
   rw[e]at q;refine kl (by rw[aaX];omega) ?_
   ext
   refine gN (D:=.int o.2.2.1) (bY (j:=0) rfl) ?_
   ext
   dsimp only at q;refine fi (fun e=>?_) (fun e=>?_)
   .rw[aaO e]at q
    ext
    exact q
   .rw[aaD e]at q
    ext
    exact q
theorem BY(F:cR K "broken_by_down" "Holder.broken_by_down" tG f fd)(cN:gH K kH bT)(bh:mg "len"=none):ba P w K mg base df 1 f fd ["self", "event"] (fY K (tD kH)):=by
 exact_mod_cast F.wM FC (fun aK W R X zz=>by obtain⟨a,b,c,d,g,i,e,_⟩:=zz; rw[e];rfl);refine⟨_,!("aeaTiT.w_or aAaJhubEbjbh.aa4 aabC0agafmEaAbMhuakakbC0afafak1afaiaxajawaeaTaAbMhuakakbC0afafak1afaiaxajawaiaxrYaAaJhuakakbC0afafak1afcYaj",0),?_⟩
 norm_cast;rintro aK R ⟨a,h,b,n,c,v,rfl,hA,ok,qq⟩;have q:=qq W hA;have wl:=Je hA;unfold HM.ip at q;dsimp only[eB];refine ao ?_
 ext
 rw[aav,aav];cases e:h.laid with
 | nil =>
  rw[e]at q
  ext
  exact q
 | cons l r =>
  rw[e]at q wl;refine kl (by rw[aaX];omega) ?_;dsimp only at q
  ext
  refine eQ (v:=.im (eY l)) wl (bY (j:=0) rfl) ?_
  ext
  refine oI (fun e=>?_) (fun e=>?_)
  .rw[aaO e]at q
   ext
   exact q
  rw[aaD (fun z=>z e)]at q
  ext
  refine ao ?_
  ext
  refine eQ (v:=.im (eY l)) wl (bY (j:=0) rfl) ?_
  ext
  refine oI (fun e=>?_) (fun e=>?_)
  .rw[aaO e]at q
   ext
   exact q
  rw[aaD (fun z=>z e)]at q
  ext
  refine eQ (v:=.im (eY l)) wl (bY (j:=0) rfl) ?_
  ext
  refine fi (fun e=>?_) (fun e=>?_)
  .rw[aaO e]at q
   ext
   exact q
  .rw[aaD e]at q
   ext
   exact q
theorem BZ(F:cR K "broken_by_bell" "Holder.broken_by_bell" tH f fd)(cN:gH K kH bT)(jN:jH P w K mg base 3 kH "waiting_by" f1 d1 ["self", "beat"] (fY K (nP kH))):ba P w K mg base df 4 f fd ["self", "event"] (fY K (tE kH)):=by
 exact_mod_cast F.wM vK (fun aK W R X zz=>by obtain⟨a,b,c,d,e,_⟩:=zz; rw[e];rfl);refine⟨_,!("aeaC**fbjNhr0aaak1afagaeaTpSlWhuak1af2aiaxajawaeaTkGakbC0afaiaxajawaiaxrYaAaJhuak2afak1afcYaj",2,vK.nd),?_⟩
 norm_cast;rintro aK R ⟨a,h,b,k,rfl,hA,ok,qq⟩;unfold HM.fQ at qq;dsimp only[eB]
 ext
 refine cD hA aW fun W1 R' h1 g=>⟨a,h,b,rfl,h1,ok,fun W' h'=>g _ _ fun W2 t fr=>?_⟩;have fZ:=t _ h' aW;have q:=qq W2 fZ;clear fr t h' h1 g hA qq
 ext
 refine ao ?_
 ext
 refine jI (neg:=true) tI ?_
 ext
 by_cases e:k∈h.bq b
 .rw[aaD (fun z=>z e)]at q;rw[aaO rfl,aa2 e]
  ext
  refine ao ?_
  ext
  cases es:h.st.cJ with
  | true =>
   rw[es,aaO rfl]at q
   ext
   exact q
  | false =>
   rw[es,aaD @1]at q
   ext
   cases ew:h.bq b with
   | nil=>rw[ew]at e;cases e
   | cons x r =>
    rw[ew]at q;refine gN (D:=.int x) (bY (j:=0) rfl) ?_
    ext
    rw[List.head?_cons]at q;refine fi (fun e=>?_) (fun e=>?_)
    .rw[aaO (by rw[e])]at q
     ext
     exact q
    .rw[aaD (fun z=>e (abb z))]at q
     ext
     exact q
 .rw[aaO e]at q;rw[aaO rfl,aaJ e]
  ext
  exact q
end
noncomputable def yD(kH:Addr):kZ:=fun aK W R _=>∃ a h b pl t,aK=[.pt a.p,.im (eB (.fin b pl t))]/\At W (fe kH a h)/\eV h/\tj t.pY/\∀ W',At W' (fe kH a h)->R (.im (mW (h.ik b pl t))) W'
noncomputable def lx:Ev->Prop
 | .fin _ _ t=>tj t.pY
 | _=>True
noncomputable def tL(kH:Addr):kZ:=fun aK W R _=>∃ a h e,aK=[.pt a.p,.im (eB e)]/\At W (fe kH a h)/\eV h/\lx e/\∀ W',At W' (fe kH a h)->R (.im (mW (h.aU e))) W'
noncomputable abbrev yE:Stmt:=(met 33 3)
noncomputable abbrev tM:Stmt:=(met 33 2)
theorem tN:az ["self", "event", "beat", "row"] ["self", "event"] (defScope yE):=by ac_rfl
theorem vL:az ["self", "event", "beat"] ["self", "event"] (defScope tM):=by ac_rfl
section
variable {K:zn}
theorem Jm(x:Int)(o:v0):PyData.eqv (.int x) (qO o)=decide (some x=o):=by
 cases o with
 | none=>rfl
 | some y=>show(x == y)=_;by_cases e:x=y<;>simp[e]
theorem Jn{x:Int}{o:v0}(h:Q (.im (.bool (decide (some x=o)))) W):DW (.im (.int x)) (.im (qO o)) W Q:=by
 refine⟨_,_,bR,bR,.inr ⟨rfl,by cases o<;>rfl,by cases o<;>exact aaY _⟩,?_⟩;rw[Jm];exact h
theorem qU(bs:List Bool):jD ((bs.map PyData.bool).map .im)=some bs:=by rw[acz];exact xP bs
theorem FF{f5 f6 f7:Addr}{d6 d7:wT}(F:cR K "broken_by_end" "Holder.broken_by_end" yE f fd)(cN:gH K kH bT)(yt:Dn P w K mg base 1 "rests" f1 d1 ["mill", "state"] (eZ sQ))(pf:jH P w K mg base 1 kH "ends_at" f2 d2 ["self", "beat"] (fY K (nQ kH)))(jO:jH P w K mg base 4 kH "is_pressed" f3 d3 ["self", "beat"] (fY K (lr kH)))(FG:jH P w K mg base 1 kH "row_now" f4 d4 ["self"] (fY K (Fv kH)))(vM:Dn P w K mg base 1 "spots_read" f5 d5 ["row"] (eZ yv))(iO:Dn P w K mg base 1 "spot_written" f6 d6 ["row"] (eZ Ay))(md:jH P w K mg base 5 kH "broken_by_wrote" f7 d7 ["self", "row", "wrote"] (fY K (pd kH)))(mJ:mg "any"=none):ba P w K mg base df 6 f fd ["self", "event"] (fY K (yD kH)):=by
 exact_mod_cast F.wM tN (fun aK W R X zz=>by obtain⟨a,b,c,d,g,e,_⟩:=zz; rw[e];rfl);refine⟨_,!("aeaC**ak1afaeaTkGaqythraabC0aabC0agaiaxajawaeaTaAbMhuak1afakbC0afaiaxajawaeaTaAj9fbpfhr0aa2agbC0aiaxajawaeaTiT.w_and kGfbjOhr0aa2agbJaAj9bC0bC0aiaxajawaeaC**AlFGhr0aeaTkGbEqx.rfl mJ*aa&**^cXbC0?jj*bSaX*~bSaX*~bSaX*~bSaX*~jd?gX?VZRtjhhu1aqvMhraa4aguKiDaJhu1aqiOhraa4agagaiaxajawaiaxfbmdhr0aa3aaak1afag",2,tN.nd,3,tN.nd,PyProof.Rows.boot_any,["n", "spot", "worth", "told", "row"],[none,none,none,none,some 3],4,0,1,2,3),?_⟩
 norm_cast;rintro aK R ⟨a,h,b,pl,t,rfl,hA,ok,hT,qq⟩;unfold HM.ik at qq;dsimp only[eB]
 ext
 refine ao ?_
 ext
 refine bc (ds:=[bz h.rows h.bI,fE h.st]) ⟨h.rows,h.bI,h.st.place,_,rfl,cH ?_⟩
 ext
 refine fi (fun e=>?_) (fun e=>?_)
 .rw[aaO e]at qq
  ext
  exact qq W hA
 rw[aaD e]at qq;have hp:h.st.place < h.rows.length:=by have:=ok.st.p1;omega
 have ro:=(ff ok.jr ok.st.p0 hp).2
 ext
 refine ao ?_
 ext
 refine oI (fun e=>?_) (fun e=>?_)
 .rw[aaO e]at qq
  ext
  exact qq W hA
 rw[aaD (fun z=>z e)]at qq
 ext
 refine ao ?_
 ext
 refine cD hA aW fun W1 R' h1 g=>⟨a,h,b,rfl,h1,fun W' h'=>g _ _ fun W2 t fr=>?_⟩;have fZ:=t _ h' aW;clear fr t h' h1 g hA
 ext
 refine fi (fun e=>?_) (fun e=>?_)
 .rw[aaO e]at qq
  ext
  exact qq _ fZ
 rw[aaD e]at qq
 ext
 refine gf (fun Y W=>¬ (h.aE b=true/\h.cV<=h.aF)/\At W (fe kH a h)/\Y=[some (.pt a.p),some (.im (eB (.fin b pl t))),some (.im (.int b)),none]) (fun k hk=>?_) ?_
 .ext
  refine cD fZ aW fun W1 R' h1 g=>⟨a,h,b,rfl,h1,ok,fun W' h'=>g _ _ fun W2 t fr=>?_⟩;have hA:=t _ h' aW;clear fr t h' h1 g fZ
  ext
  cases ep:h.aE b with
  | false =>
   ext
   exact hk _ _ ⟨fun z=>(aaK (ep.symm.trans z.1)),hA,rfl⟩
  | true =>
   ext
   refine fi (fun e=>?_) (fun e=>?_)
   .rw[aaO ⟨ep,e⟩]at qq
    ext
    exact qq _ hA
   .ext
    exact hk _ _ ⟨fun z=>e z.2,hA,rfl⟩
 clear fZ;rintro Y W ⟨hn,hA,rfl⟩;rw[aaD hn]at qq;obtain⟨hx,EA⟩:=lq ro
 ext
 refine cD hA aW fun W1 R' h1 g=>⟨a,h,rfl,h1,ok,hp,fun W' h'=>g _ _ fun W2 t fr=>?_⟩;have fZ:=t _ h' aW;clear fr t h' h1 g hA
 ext
 refine ao ?_
 ext
 refine uX (pZ fZ) ?_
 ext
 refine gn (fun i ys W=>ys=(((h.aZ.take i).map fun o=>fm h.row o.2.1).map PyData.bool).map .im/\At W (fe kH a h)) (by rw[aav];exact aaQ (bK (by have:=ok.ow;omega))) ⟨rfl,fZ⟩ (fun i ys W ⟨_,h⟩=>pZ h) ?_ ?_
 .rintro i d ys W hd _ ⟨rfl,hA⟩;rw[aaz]at hd;obtain⟨o,hl,rfl⟩:=aaB.mp hd;have et:h.aZ.take (i+1)=h.aZ.take i++[o]:=by rw[aaU,hl];rfl
  unfold dD
  ext
  refine bc (ds:=[dA h.row]) ⟨Jf h.row,qa h.row,lp h.row,by rw[hx],EA,u0 ?_⟩;refine jI (neg:=false) (b:=.im (.list ((cf (qa h.row) (lp h.row)).map .int))) tI ?_
  ext
  rw[et,abt]
  by_cases e:o.2.1∈cf (qa h.row) (lp h.row)
  .refine pT e ?_
   ext
   exact⟨by simp[fm,e],hA⟩
  .refine kl e ?_
   ext
   refine bc (ds:=[dA h.row]) ⟨Jf h.row,qa h.row,lp h.row,by rw[hx],EA,cH (Jn ?_)⟩;exact⟨by simp[fm,e],hA⟩
 .rintro ys W4 ⟨rfl,hA⟩;rw[aav,aa0];refine cj ?_
  ext
  refine⟨_,_,_,rfl,rfl,qU _,?_⟩
  ext
  rw[show(List.map (fun o=>fm h.row o.2.1) h.aZ).any id=h.aZ.any (fun o=>fm h.row o.2.1) by rw[ad2];rfl];cases eo:h.aZ.any (fun o=>fm h.row o.2.1) with
  | true =>
   rw[eo,aaO rfl]at qq
   ext
   exact qq _ hA
  | false =>
   rw[eo,aaD @1]at qq
   ext
   refine cD hA aW fun W1 R' h1 g=>⟨a,h,t,rfl,h1,ok,hp,hT,fun W' h'=>g _ _ fun W2 t fr=>?_⟩;exact qq _ (t _ h' aW)
theorem B0(F:cR K "first_broken" "Holder.first_broken" tM f fd)(cN:gH K kH bT)(ph:jH P w K mg base 6 kH "broken_by_end" f1 d1 ["self", "event"] (fY K (yD kH)))(mX:jH P w K mg base 1 kH "broken_by_late" f2 d2 ["self", "event"] (fY K (tq kH)))(mY:jH P w K mg base 1 kH "broken_by_down" f3 d3 ["self", "event"] (fY K (tD kH)))(mZ:jH P w K mg base 4 kH "broken_by_bell" f4 d4 ["self", "event"] (fY K (tE kH)))(mJ:mg "any"=none):ba P w K mg base df 7 f fd ["self", "event"] (fY K (tL kH)):=by
 exact_mod_cast F.wM vL (fun aK W R X zz=>by obtain⟨a,b,c,e,_⟩:=zz; rw[e];rfl);refine⟨_,!("aeaC**ak1afaeaTaAgL2bC0aiaxajawaeaTkGbEqx.rfl mJ*aa&**^cXbC0?jj*bSaX*~bSaX*~bSaX*~bSaX*~jd?gX?iDgLbbbf3bC54agaiaxajawaeaTaAaJhuak1afajaiaxfbphhr0aa1agawaeaTaAaJhuak1afajaiaxfbmXhr0aa1agawaeaTaAaJhuak1afajaiaxfbmYhr0aa1agawaiaxfbmZhr0aa1ag",2,vL.nd,PyProof.Rows.boot_any,["n", "spot", "worth", "told", "beat", "self"],[none,none,none,none,some 2,some 0],4,0,1,2,3),?_⟩
 norm_cast;rintro aK R ⟨a,h,e,rfl,hA,ok,hE,qq⟩;unfold HM.aU at qq;have e1:∃ x r,eB e=.tuple (.str x::.int e.au::r):=by cases e<;>exact⟨_,_,rfl⟩
 obtain⟨x,r,e1⟩:=e1;rw[e1]
 ext
 refine bO (D:=.int e.au) (bY (j:=1) rfl) ?_
 ext
 refine ao ?_
 ext
 refine fi (fun z=>?_) (fun z=>?_)
 .rw[aaO z]at qq
  ext
  exact qq W hA
 rw[aaD z]at qq
 ext
 refine ao ?_
 ext
 refine uX (pZ hA) ?_
 ext
 refine gn (fun i ys W=>ys=(((h.aZ.take i).map fun o=>decide (o.2.2.2+h.longest < e.au)).map PyData.bool).map .im/\At W (fe kH a h)) (by rw[aav];exact aaQ (bK (by have:=ok.ow;omega))) ⟨rfl,hA⟩ (fun i ys W ⟨_,h⟩=>pZ h) ?_ ?_
 .clear hA;rintro i d ys W hd _ ⟨rfl,hA⟩;rw[aaz]at hd;obtain⟨o,hl,rfl⟩:=aaB.mp hd;have et:h.aZ.take (i+1)=h.aZ.take i++[o]:=by rw[aaU,hl];rfl
  unfold dD
  ext
  rw[et,abt];exact⟨@2,hA⟩
 clear hA;rintro ys W ⟨rfl,hA⟩;rw[aav,aa0];refine cj ?_
 ext
 refine⟨_,_,_,rfl,rfl,qU _,?_⟩
 ext
 rw[show(List.map (fun o:Int×Int×Int×Int=>decide (o.2.2.2+h.longest < e.au)) h.aZ).any id=h.aZ.any (fun o=>decide (o.2.2.2+h.longest < e.au)) by rw[ad2];rfl];cases eo:h.aZ.any (fun o=>decide (o.2.2.2+h.longest < e.au)) with
 | true =>
  rw[eo,aaO rfl]at qq
  ext
  exact qq _ hA
 | false =>
  rw[eo,aaD @1]at qq
  ext
  refine ao ?_;cases e with
  | fin b pl t =>
   cases e1
   ext
   refine cD hA aW fun W1 R' h1 g=>⟨a,h,b,pl,t,rfl,h1,ok,hE,fun W' h'=>g _ _ fun W2 t fr=>?_⟩;exact qq _ (t _ h' aW)
  | dQ b n v =>
   cases e1
   ext
   refine ao ?_
   ext
   refine cD hA aW fun W1 R' h1 g=>⟨a,h,b,n,v,rfl,h1,ok,fun W' h'=>g _ _ fun W2 t fr=>?_⟩;exact qq _ (t _ h' aW)
  | down b n c v =>
   cases e1
   ext
   refine ao ?_
   ext
   refine ao ?_
   ext
   refine cD hA aW fun W1 R' h1 g=>⟨a,h,b,n,c,v,rfl,h1,ok,fun W' h'=>g _ _ fun W2 t fr=>?_⟩;exact qq _ (t _ h' aW)
  | eE b k =>
   cases e1
   ext
   refine ao ?_
   ext
   refine ao ?_
   ext
   refine cD hA aW fun W1 R' h1 g=>⟨a,h,b,k,rfl,h1,ok,fun W' h'=>g _ _ fun W2 t fr=>?_⟩;exact qq _ (t _ h' aW)
end
noncomputable def pj(kH:Addr):kZ:=fun aK W R _=>∃ a h b t,aK=[.pt a.p,.im (.int b),.im (iA t)]/\At W (fe kH a h)/\eV h/\h.st.place < h.rows.length/\t.pY=sU.pY (h.row.wrote h.st.aL h.st.cells).told/\∀ W',At W' (fe kH a (h.dE b t))->R (.im .none) W'
noncomputable def mf(kH:Addr):kZ:=fun aK W R _=>∃ a h k,aK=[.pt a.p,.im (.int k)]/\At W (fe kH a h)/\eV h/\0<=k/\k < h.bI.length/\h.st.cJ=false/\∀ W',At W' (fe kH a (h.yy k))->R (.im .none) W'
noncomputable abbrev pk:Stmt:=(met 33 13)
noncomputable abbrev mh:Stmt:=(met 33 14)
theorem mj:az ["self", "beat", "wrote", "done", "right"] ["self", "beat", "wrote"] (defScope pk):=by ac_rfl
theorem yF:az ["self", "k"] ["self", "k"] (defScope mh):=by ac_rfl
section
variable {K:zn}
theorem vN{aN:Addr}(F:cR K "take_bell" "Holder.take_bell" mh f fd)(cN:gH K kH bT)(Tq:Dn P w K mg base 2 "bell" f1 d1 ["mill", "state", "k"] (ky (eZ (E8 aN aS)))):ba P w K mg base df 3 f fd ["self", "k"] (fY K (mf kH)):=by
 exact_mod_cast F.wM yF (fun aK W R X zz=>by obtain⟨a,b,c,e,_⟩:=zz; rw[e];rfl);refine⟨_,!("aedq0aqTqhraabC0aabC0aa1agaeeMj1.aaZ .aa9 .aba dmbC0aa1agaidq0af",0),?_⟩
 norm_cast;rintro aK R ⟨a,h,k,rfl,hA,ok,k0,k1,hs,qq⟩
 ext
 refine bc (ds:=[bz h.rows h.bI,fE h.st,.int k]) ⟨h.rows,h.bI,h.st,k,rfl,fun _ _=>cH ?_,fun z=>absurd ⟨k0,k1⟩ z,fun _ z=>absurd (hs.symm.trans z) aaK⟩
 ext
 refine Lm { h with st:=mH h.bI k h.st } hA cN fun W1 vO=>?_;have wk:=O9 vO
 ext
 refine dS (O9 vO) (by rw[aav,aav];exact bK (by have:=ok.tk;exact aaE this @1)) fun W2 w2 f2=>?_;have fZ:=XN (xs:=h.taken++[k]) vO f2 (by rw[w2];simp)
 ext
 refine Lm (h.yy k) fZ cN fun W3 j7=>?_;exact qq _ j7
theorem yG(F:cR K "take_end" "Holder.take_end" pk f fd)(cN:gH K kH bT)(jO:jH P w K mg base 4 kH "is_pressed" f1 d1 ["self", "beat"] (fY K (lr kH)))(FD:Dn P w K mg base 4 "step" f2 d2 ["mill", "state"] (ky (eZ (SStep aR)))):ba P w K mg base df 5 f fd ["self", "beat", "wrote"] (fY K (pj kH)):=by
 exact_mod_cast F.wM mj (fun aK W R X zz=>by obtain⟨a,b,c,d,e,_⟩:=zz; rw[e];rfl);refine⟨_,!("aedq0rYkGfbjOhr0aa1agbbbfbC0afafaeaC**aqFDhraabC0aabC0agaeaC**akak3afafaeaTiT.w_and gE2bJgWak2afaieMj1.aaZ .aa9 .aba dmbC0aabraabC0aaak4afaaak4afaa1agagaiaTiT.w_and gE2bJaAaJhuak2afajaieMj1.aaZ .aa9 .aba dmbC0aabraabC0aaak4afaaak4afagagawaedq0ak3afaeoRrG0afaioRrG0af",3,mj.nd,4,mj.nd),?_⟩
 norm_cast;rintro aK R ⟨a,h,b,t,rfl,hA,ok,hp,hT,qq⟩;have ro:=(ff ok.jr ok.st.p0 hp).2;refine cA [_,_,_,none,none] rfl ?_;refine gf (fun Y W=>At W (fe kH a { h with aF:=if h.aE b=true then h.aF+1 else 0 })/\Y=[some (.pt a.p),some (.im (.int b)),some (.im (iA t)),none,none]) (fun k hk=>?_) ?_
 .ext
  refine cD hA aW fun W1 R' h1 g=>⟨a,h,b,rfl,h1,ok,fun W' h'=>g _ _ fun W2 t fr=>?_⟩;have vO:=t _ h' aW;clear fr t h' h1 g hA
  ext
  cases ep:h.aE b with
  | true =>
   ext
   refine Lm { h with aF:=h.aF+1 } vO cN fun W3 j7=>?_;exact hk _ _ ⟨by rw[ep];exact j7,rfl⟩
  | false =>
   ext
   refine Lm { h with aF:=0 } vO cN fun W3 j7=>?_;exact hk _ _ ⟨by rw[ep];exact j7,rfl⟩
 clear hA;rintro Y W ⟨hA,rfl⟩;generalize Pe:(if h.aE b=true then h.aF+1 else 0)=pr at hA
 ext
 refine bc (ds:=[bz h.rows h.bI,fE h.st]) ⟨h.rows,h.bI,h.st,rfl,ok.jr,ok.st,fun _=>cH ?_,fun z=>by omega⟩
 ext
 have Tr:∀ h2:HM,h2=({ h with aF:=pr }:HM).bV b t (h.row.wrote h.st.aL h.st.cells)->h.dE b t={ h2 with st:=dZ h.row h.st,ends:=h2.ends+1,dR:=h2.dR+1 }:=fun h2 e=>by subst e;subst Pe;rfl
 refine gf (fun Y W=>∃ h2:HM,h.dE b t={ h2 with st:=dZ h.row h.st,ends:=h2.ends+1,dR:=h2.dR+1 }/\At W (fe kH a h2)/\∃ u,Y=[some (.pt a.p),some (.im (.int b)),some (.im (iA t)),some (.im (.tuple [fE (dZ h.row h.st),O4 (h.st.place,h.row.wrote h.st.aL h.st.cells)])),u]) (fun k hk=>?_) ?_
 .have wo:=pZ hA;have wl:=Je hA;rcases t with _ | ⟨k',x',v'⟩
  .ext
   exact hk _ _ ⟨_,Tr _ (by unfold HM.bV;rfl),hA,_,rfl⟩
  obtain⟨v,ew⟩:∃ v,h.row.wrote h.st.aL h.st.cells=some (k',x',v):=by
   cases ew:h.row.wrote h.st.aL h.st.cells with
   | none=>rw[ew]at hT;cases hT
   | some y=>obtain⟨k',x',v'⟩:=y;rw[ew]at hT;cases hT;exact⟨v',rfl⟩
  rw[ew]at Tr ⊢;dsimp only[iA]
  ext
  cases v' with
  | none =>
   ext
   refine aH (ds:=[.int h.ends,.int x',.int v,.int b]) (by show 4<=sizeLine;decide) ?_
   ext
   refine dS wo (by rw[aav,aav];exact bK (by have:=ok.ow;exact aaE this @1)) fun W2 w2 f2=>?_;exact hk _ _ ⟨_,Tr _ rfl,XO (xs:=h.aZ++[(h.ends,x',v,b)]) hA f2 (by rw[w2];simp[dD]),some (.im (gz (some (k',x',v)))),by rw[ew];rfl⟩
  | some v' =>
   ext
   by_cases ek:k' = "cell"
   .refine pT ek ?_
    ext
    refine aH (ds:=[.int h.ends,.int x',.int v]) (by show 3<=sizeLine;decide) ?_
    ext
    refine dS wl (by rw[aav,aav];exact bK (by have:=ok.la;exact aaE this @1)) fun W2 w2 f2=>?_;exact hk _ _ ⟨_,Tr _ (by unfold HM.bV;dsimp only;rw[aaO ek]),XQ (xs:=h.laid++[(h.ends,x',v)]) hA f2 (by rw[w2];simp[eY]),some (.im (gz (some (k',x',v)))),by rw[ew];rfl⟩
   .refine kl ek ?_
    ext
    exact hk _ _ ⟨_,Tr _ (by unfold HM.bV;dsimp only;rw[aaD ek]),hA,some (.im (gz (some (k',x',v)))),by rw[ew];rfl⟩
 rintro Y W ⟨h2,e2,hA,u,rfl⟩;rw[e2]at qq
 ext
 refine Lm { h2 with st:=dZ h.row h.st } hA cN fun W3 j7=>?_
 ext
 refine XM { h2 with st:=dZ h.row h.st,ends:=h2.ends+1 } j7 fun W4 kI=>?_
 ext
 refine XM { h2 with st:=dZ h.row h.st,ends:=h2.ends+1,dR:=h2.dR+1 } kI fun W5 nh=>?_;exact qq _ nh
end
noncomputable def tO(kH:Addr):kZ:=fun aK W R _=>∃ a h e,aK=[.pt a.p,.im (eB e)]/\At W (fe kH a h)/\eV h/\h.aU e=none/\∀ a' W',a'.on a->At W' (fe kH a' (h.bp e))->R (.im .none) W'
noncomputable def FH(kH:Addr):kZ:=fun aK W R _=>∃ a h e,aK=[.pt a.p,.im (eB e)]/\At W (fe kH a h)/\eV h/\lx e/\h.cause=none/\∀ a' W',a'.on a->At W' (fe kH a' (h.tell e))->R (.im (mW (h.tell e).cause)) W'
theorem qV{e:Ev}(z:h.aU e=none):¬ e.au < h.au/\(match e with
  | .fin b pl t=>h.ik b pl t
  | .dQ _ n v=>h.gg n v
  | .down _ n c v=>h.ip n c v
  | .eE b k=>h.fQ b k)=none:=by
 unfold HM.aU at z;split at z
 .cases z
 .rename_i hb;split at z
  .cases z
  .exact⟨hb,z⟩
theorem FI{pl:Int}{t:sU}(ok:eV h)(z:h.ik b pl t=none):h.st.place < h.rows.length/\pl=h.st.place/\t.pY=sU.pY (h.row.wrote h.st.aL h.st.cells).told:=by
 unfold HM.ik at z;split at z
 .cases z
 rename_i h1;have:=ok.st.p1;refine⟨@0,?_⟩;split at z
 .cases z
 rename_i h2;refine⟨adI.mp h2,?_⟩;split at z
 .cases z
 split at z
 .cases z
 split at z
 .cases z
 unfold HM.fO at z;split at z
 .cases z
 .rename_i h3;exact adI.mp h3
theorem qW{k:Int}(ok:eV h)(m:k∈h.bq b):0<=k/\k < h.bI.length:=by
 unfold HM.bq jM at m;have h2:=abV (abg.mp m).2;have h3:k∈bZ h.rings b:=List.count_pos_iff.mp @0;unfold bZ at h3;obtain⟨r,hr,rfl⟩:=abe.mp h3;exact ok.rb r (abg.mp hr).1
theorem AF{k:Int}(ok:eV h)(z:h.fQ b k=none):0<=k/\k < h.bI.length/\h.st.cJ=false:=by
 unfold HM.fQ at z;split at z
 .cases z
 rename_i h1;split at z
 .cases z
 rename_i h2;obtain⟨a,b⟩:=qW ok (adI.mp h1);exact⟨a,b,by simpa using h2⟩
noncomputable abbrev tP:Stmt:=(met 33 12)
noncomputable abbrev FJ:Stmt:=(met 33 1)
theorem vP:az ["self", "event", "beat"] ["self", "event"] (defScope tP):=by ac_rfl
theorem Pf:az ["self", "event"] ["self", "event"] (defScope FJ):=by ac_rfl
section
variable {K:zn}
theorem Jo(xs:List J):cutD xs (some 1) none=xs.drop 1:=by
 have e:HT.dG xs.length 0 (some 1)=min 1 xs.length:=by rw[show(some 1:v0)=some ((1:Nat):Int) from rfl,HT.jR]
 unfold cutD;rw[e,HT.ou];cases xs with
 | nil=>rfl
 | cons x r=>show((x::r).drop (min 1 (r.length+1))).take ((r.length+1) - min 1 (r.length+1))=r;rw[adn @0];simp
theorem B1(F:cR K "take_up" "Holder.take_up" tP f fd)(cN:gH K kH bT)(pf:jH P w K mg base 1 kH "ends_at" f1 d1 ["self", "beat"] (fY K (nQ kH)))(B2:jH P w K mg base 5 kH "take_end" f2 d2 ["self", "beat", "wrote"] (fY K (pj kH)))(yH:jH P w K mg base 3 kH "take_bell" f3 d3 ["self", "k"] (fY K (mf kH))):ba P w K mg base df 6 f fd ["self", "event"] (fY K (tO kH)):=by
 exact_mod_cast F.wM vP (fun aK W R X zz=>by obtain⟨a,b,c,e,_⟩:=zz; rw[e];rfl);refine⟨_,!("aeaC**ak1afaedq0fbpfhr0aa2agaeaTaAaJhuak1afajaieMfbB2hr0aa2aaak1afagaiaTaAaJhuak1afajaidq0&**^cXbC0?aX*~?fJaAbMhuak0afak1af?0aiaTaAaJhuak1afajaidq0jZjcbC0eOaffuaieMfbyHhr0aaak1afagaedq02aioRrG0af",2,vP.nd,["one", "event"],[none,some 1],0),?_⟩
 norm_cast;rintro aK R ⟨a,h,e,rfl,hA,ok,hb,qq⟩;obtain⟨_,hb⟩:=qV hb;have e1:∃ x r,eB e=.tuple (.str x::.int e.au::r):=by cases e<;>exact⟨_,_,rfl⟩
 obtain⟨x,r,e1⟩:=e1;rw[e1];refine cA [_,_,none] rfl ?_
 ext
 refine bO (D:=.int e.au) (bY (j:=1) rfl) ?_
 ext
 refine cD hA aW fun W1 R' h1 g=>⟨a,h,e.au,rfl,h1,fun W' h'=>g _ _ fun W2 t fr=>?_⟩;have fZ:=t _ h' aW;clear fr t h' h1 g hA
 ext
 refine Lm { h with dR:=h.endsAt e.au } fZ cN fun W3 hA=>?_;clear fZ;have Z3:eV { h with dR:=h.endsAt e.au }:=⟨ok.jr,ok.st,ok.rl,ok.rb,ok.tk,ok.ow,ok.la⟩;refine gf (fun Y W=>∃ a' h2,a'.on a/\At W (fe kH a' h2)/\h.bp e={ h2 with au:=e.au,events:=h2.events+1 }/\Y=[some (.pt a.p),some (.im (eB e)),some (.im (.int e.au))]) (fun k hk=>?_) ?_
 .cases e with
  | fin b pl t =>
   obtain⟨z1,z2,z3⟩:=FI ok hb;cases e1
   ext
   refine cD hA aW fun W1 R' h1 g=>⟨a,_,b,t,rfl,h1,Z3,z1,z3,fun W' h'=>g _ _ fun W2 t fr=>?_⟩;exact hk _ _ ⟨a,_,⟨rfl,rfl⟩,t _ h' aW,rfl,rfl⟩
  | dQ b n v =>
   cases e1
   ext
   refine uX (pZ hA) ?_
   ext
   refine gn (fun i ys W'=>W'=W3/\ys=((((h.aZ.take i).filter fun o=>decide (o.1≠n)).map dD)).map .im) (by rw[aav];exact aaQ (bK (by have:=ok.ow;exact aaE this @1))) ⟨rfl,rfl⟩ (by rintro i ys _ ⟨rfl,_⟩;exact pZ hA) ?_ ?_
   .rintro i d ys _ hd _ ⟨rfl,rfl⟩;rw[aaz]at hd;obtain⟨o,hl,rfl⟩:=aaB.mp hd;have et:h.aZ.take (i+1)=h.aZ.take i++[o]:=by
     have UU:h.aZ[i]?=some o:=hl;rw[aaU,UU];rfl
    ext
    rw[et,aa8];refine oI (fun z=>?_) (fun z=>?_)
    .ext
     exact⟨rfl,by simp[show ¬ o.1=n from z]⟩
    .exact⟨rfl,by simp[show o.1=n from z]⟩
   .rintro ys _ ⟨rfl,rfl⟩;rw[aav];refine jG fun q W4 hq wq fq=>?_
    ext
    refine Z2 2 { a with ow:=q } { h with dR:=h.endsAt b,aZ:=h.aZ.filter fun o=>decide (o.1≠n) } hA cN hq fq wq (fun W5 nh=>hk _ _ ⟨{ a with ow:=q },_,⟨rfl,rfl⟩,nh,rfl,rfl⟩) ?_;rw[show(h.aZ.take h.aZ.length)=h.aZ from aa0 ..]
    with_unfolding_all rfl
  | down b n c v =>
   cases e1
   ext
   refine uY (Je hA) ?_;rw[Jo];refine jG fun q W4 hq wq fq=>?_
   ext
   refine Z2 3 { a with la:=q } { h with dR:=h.endsAt b,laid:=h.laid.drop 1 } hA cN hq fq wq (fun W5 nh=>hk _ _ ⟨{ a with la:=q },_,⟨rfl,rfl⟩,nh,rfl,rfl⟩) ?_;rw[<- acX,<- acX]
   with_unfolding_all rfl
  | eE b k =>
   obtain⟨z1,z2,z3⟩:=AF ok hb;cases e1
   ext
   refine cD hA aW fun W1 R' h1 g=>⟨a,_,k,rfl,h1,Z3,z1,z2,z3,fun W' h'=>g _ _ fun W2 t fr=>?_⟩;exact hk _ _ ⟨a,_,⟨rfl,rfl⟩,t _ h' aW,rfl,rfl⟩
 clear hA;rintro Y W ⟨a',h2,⟨o1,o2⟩,hA,e2,rfl⟩;rw[e2]at qq;rw[<- o1]
 ext
 refine Lm { h2 with au:=e.au } hA cN fun W3 j7=>?_
 ext
 refine XM { h2 with au:=e.au,events:=h2.events+1 } j7 fun W4 kI=>?_;exact qq a' _ ⟨o1,o2⟩ kI
theorem Jp(F:cR K "tell" "Holder.tell" FJ f fd)(cN:gH K kH bT)(qb:jH P w K mg base 7 kH "first_broken" f1 d1 ["self", "event"] (fY K (tL kH)))(FK:jH P w K mg base 6 kH "take_up" f2 d2 ["self", "event"] (fY K (tO kH))):ba P w K mg base df 8 f fd ["self", "event"] (fY K (FH kH)):=by
 exact_mod_cast F.wM Pf (fun aK W R X zz=>by obtain⟨a,b,c,e,_⟩:=zz; rw[e];rfl);refine⟨_,!("aeaTgWbC0aedq0fbqbhr0aa1agaiaTgWbC0aieMfbFKhr0aa1agawawaiaxbC0",0),?_⟩
 norm_cast;rintro aK R ⟨a,h,e,rfl,hA,ok,hE,hc,qq⟩;unfold HM.tell at qq;refine ao ?_
 ext
 rw[hc]
 ext
 refine cD hA aW fun W1 R' h1 g=>⟨a,h,e,rfl,h1,ok,hE,fun W' h'=>g _ _ fun W2 t fr=>?_⟩;have fZ:=t _ h' aW;clear fr t h' h1 g hA
 ext
 refine Lm { h with cause:=h.aU e } fZ cN fun W3 hA=>?_;clear fZ;cases eb:h.aU e with
 | some x =>
  rw[eb]at qq hA
  ext
  exact qq a _ ⟨rfl,rfl⟩ hA
 | none =>
  rw[eb]at qq hA;have eh:({ h with cause:=none }:HM)=h:=by cases h;cases hc;rfl
  rw[eh]at hA
  ext
  rw[hc]
  ext
  refine cD hA aW fun W1 R' h1 g=>⟨a,h,e,rfl,h1,ok,eb,fun a' W' o h'=>g _ _ fun W2 t fr=>?_⟩;have fZ:=t _ h' aW;have q:=qq a' _ o fZ;obtain⟨o1,o2⟩:=o;rw[<- o1]
  ext
  exact q
end
structure UX where
 (width room queue cV longest:Int)
noncomputable def j8(t:UX):PyData:=.tuple [.int t.width,.int t.room,.int t.queue,.int t.cV,.int t.longest]
noncomputable def qc(rs:List Rw)(bs:wn)(st:BN)(ps:ut)(t:UX):HM:=⟨rs,bs,ps,t.width,t.room,t.queue,t.cV,t.longest,st,0,0,0,0,0,[],[],[],none⟩
noncomputable def yI(kH:Addr):kZ:=fun aK W R _=>∃ p d rs bs st ps t,aK=[.pt p,.im (bz rs bs),.im (fE st),.im (.list (ps.map pairD)),.im (j8 t)]/\At W [(p,.ob kH d [])]/\ps.length<=1000/\∀ a W',a.p=p->At W' (fe kH a (qc rs bs st ps t))->R (.im .none) W'
noncomputable def fT:HM->List Ev->Option (Int×Str)
 | _,[]=>none
 | h,e::r=>match (h.tell e).cause with
  | some x=>some ((h.tell e).events,x)
  | none=>fT (h.tell e) r
noncomputable def pv:ku:=fun ds R _=>∃ rs bs st ps t es,ds=[bz rs bs,fE st,.list (ps.map pairD),j8 t,.list (es.map eB)]/\eV (qc rs bs st ps t)/\(∀ e∈es,lx e)/\es.length<=4000/\R (.im (i4 (fT (qc rs bs st ps t) es)))
structure vQ(h:HM)(n:Nat):Prop where
 tk:h.taken.length<=n
 ow:h.aZ.length<=n
 la:h.laid.length<=n
theorem B3(l:vQ h n)(b:Int)(t:sU)(w:vx):vQ (h.bV b t w) (n+1)/\∃ o la,h.bV b t w={ h with aZ:=o,laid:=la }:=by
 have h1:=l.tk;have h2:=l.ow;have h3:=l.la;unfold HM.bV;split
 .exact⟨⟨aa5 h1,by simp only[aaV,aaX,acj];omega,aa5 h3⟩,_,_,rfl⟩
 .split
  .exact⟨⟨aa5 h1,aa5 h2,by simp only[aaV,aaX,acj];omega⟩,_,_,rfl⟩
  .exact⟨⟨aa5 h1,aa5 h2,aa5 h3⟩,_,_,rfl⟩
 .exact⟨⟨aa5 h1,aa5 h2,aa5 h3⟩,_,_,rfl⟩
theorem Lo{e:Ev}(ok:eV h)(hb:h.aU e=none)(l:vQ h n)(hn:n < 5000):eV (h.bp e)/\vQ (h.bp e) (n+1)/\(h.bp e).cause=h.cause/\(h.bp e).events=h.events+1:=by
 obtain⟨_,hb⟩:=qV hb;cases e with
 | fin b pl t =>
  obtain⟨z1,z2,z3⟩:=FI ok hb;have ro:=(ff ok.jr ok.st.p0 z1).2;have l1:vQ { h with dR:=h.endsAt b,aF:=if({ h with dR:=h.endsAt b }:HM).aE b=true then h.aF+1 else 0 } n:=⟨l.tk,l.ow,l.la⟩;obtain⟨l2,o,la,e2⟩:=B3 l1 b t (h.row.wrote h.st.aL h.st.cells);have eu:h.bp (.fin b pl t)={ ({ h with dR:=h.endsAt b,aF:=if({ h with dR:=h.endsAt b }:HM).aE b=true then h.aF+1 else 0 }:HM).bV b t (h.row.wrote h.st.aL h.st.cells)with st:=dZ h.row h.st,ends:=(({ h with dR:=h.endsAt b,aF:=if({ h with dR:=h.endsAt b }:HM).aE b=true then h.aF+1 else 0 }:HM).bV b t (h.row.wrote h.st.aL h.st.cells)).ends+1,dR:=(({ h with dR:=h.endsAt b,aF:=if({ h with dR:=h.endsAt b }:HM).aE b=true then h.aF+1 else 0 }:HM).bV b t (h.row.wrote h.st.aL h.st.cells)).dR+1,au:=b,events:=(({ h with dR:=h.endsAt b,aF:=if({ h with dR:=h.endsAt b }:HM).aE b=true then h.aF+1 else 0 }:HM).bV b t (h.row.wrote h.st.aL h.st.cells)).events+1 }:=rfl;rw[eu];rw[e2]at l2 ⊢;have k1:=l2.tk;have k2:=l2.ow;have k3:=l2.la;exact⟨⟨ok.jr,IW ok.st z1 ro,ok.rl,ok.rb,aaE k1 hn,aaE k2 hn,aaE k3 hn⟩,⟨k1,k2,k3⟩,rfl,rfl⟩
 | dQ b m v =>
  have k:=l.ow;have k2:(h.aZ.filter fun o=>decide (o.1≠m)).length<=n:=aaE (abK ..) k;exact⟨⟨ok.jr,ok.st,ok.rl,ok.rb,ok.tk,aaE k2 (aaQ hn),ok.la⟩,⟨aa5 l.tk,aa5 k2,aa5 l.la⟩,rfl,rfl⟩
 | down b m c v =>
  have k:=l.la;have k2:(h.laid.drop 1).length<=n:=by rw[abG];omega
  exact⟨⟨ok.jr,ok.st,ok.rl,ok.rb,ok.tk,ok.ow,aaE k2 (aaQ hn)⟩,⟨aa5 l.tk,aa5 l.ow,aa5 k2⟩,rfl,rfl⟩
 | eE b k =>
  obtain⟨z1,z2,z3⟩:=AF ok hb;have k2:(h.taken++[k]).length<=n+1:=by have:=l.tk;simp only[aaV,aaX,acj];omega
  exact⟨⟨ok.jr,IY ok.st ok.jr.bok z1 z2,ok.rl,ok.rb,aaE k2 hn,ok.ow,ok.la⟩,⟨k2,aa5 l.ow,aa5 l.la⟩,rfl,rfl⟩
section
variable {K:zn}{a:Fl}{f:Str}{v:DV}{Pr:Wd->Prop}
theorem ud(i:Nat)(hA:At W ((a.p,.ob kH a.d ((uc a h).take i))::L))(c:gH K kH bT)(q:∀ W1,At W1 ((a.p,.ob kH a.d ((uc a h).take (i+1)))::L)->Pr W1)(n:autoParam (f∈bT) ra10)(e:autoParam (putD f v ((uc a h).take i)=(uc a h).take (i+1)) ra2):∃ p' k d fs,DV.pt a.p=.pt p'/\W p'=some (.ob k d fs)/\mP K k/\cM K k f/\fs.length < 1000/\Pr (aG W p' (.ob k d (putD f v fs))) :=
 sG hA c 0 rfl n (by rw[abc];exact acU (ac7 ..) (by show 18 < 1000;decide)) fun W1 h1 f1=>q W1 (by rw[e]at h1;exact h1)
theorem XS{q:Addr}{x:Cell}(a':Fl)(i:Nat)(hA:At W ((a.p,.ob kH a.d ((uc a h).take i))::L))(hq:W q=none)(fq:Fr q W W')(wq:W' q=some x)(e1:autoParam ((a'.p,Cell.ob kH a'.d ((uc a' h).take i))=(a.p,.ob kH a.d ((uc a h).take i))) ra0):At W' ((a'.p,.ob kH a'.d ((uc a' h).take i))::(q,x)::L):=by
 rw[e1];exact(hA.cons hq fq wq).perm (List.Perm.swap ..)
end
noncomputable abbrev yJ:Stmt:=(met 33 0)
abbrev ly:Stmt:=top 34
theorem Jq:az ["self", "mill", "state", "rings", "terms"] ["self", "mill", "state", "rings", "terms"] (defScope yJ):=by ac_rfl
theorem ml:az ["mill", "state", "rings", "terms", "diary", "holder", "event"] ["mill", "state", "rings", "terms", "diary"] (defScope ly):=by ac_rfl
section
variable {K:zn}
theorem FL(F:cR K "__init__" "Holder.__init__" yJ f fd)(cN:gH K kH bT)(fc:mg "list"=none):ba P w K mg base df 1 f fd ["self", "mill", "state", "rings", "terms"] (fY K (yI kH)):=by
 exact_mod_cast F.wM Jq (fun aK W R X zz=>by obtain⟨a,b,c,d,g,i,j,e,_⟩:=zz; rw[e];rfl);refine⟨_,!("aedq01aedq02aedq0cKgdfc.abR aa3agaedq04aedq0ak4afaedq0ak4afaedq0ak4afaedq0ak4afaedq0ak4afaedq0afaedq0afaedq0afaedq0afaedq0afaedq0bDagaedq0bDagaedq0bDagaidq0cY",0),?_⟩
 norm_cast;rintro aK R ⟨p,d,rs,bs,st,ps,t,rfl,hA,EA,qq⟩;unfold j8;replace hA:At W [((⟨p,d,p,p,p⟩:Fl).p,.ob kH (⟨p,d,p,p,p⟩:Fl).d ((uc ⟨p,d,p,p,p⟩ (qc rs bs st ps t)).take 0))]:=hA
 ext
 refine ud 0 hA cN fun W0 hB=>?_;clear hA;have hA:=hB;clear hB
 ext
 refine ud 1 hA cN fun W1 hB=>?_;clear hA;have hA:=hB;clear hB
 ext
 refine sA (cj ?_)
 ext
 refine ud 2 hA cN fun W2 hB=>?_;clear hA;have hA:=hB;clear hB
 ext
 refine ud 3 hA cN fun W3 hB=>?_;clear hA;have hA:=hB;clear hB
 ext
 refine ud 4 hA cN fun W4 hB=>?_;clear hA;have hA:=hB;clear hB
 ext
 refine ud 5 hA cN fun W5 hB=>?_;clear hA;have hA:=hB;clear hB
 ext
 refine ud 6 hA cN fun W6 hB=>?_;clear hA;have hA:=hB;clear hB
 ext
 refine ud 7 hA cN fun W7 hB=>?_;clear hA;have hA:=hB;clear hB
 ext
 refine ud 8 hA cN fun W8 hB=>?_;clear hA;have hA:=hB;clear hB
 ext
 refine ud 9 hA cN fun W9 hB=>?_;clear hA;have hA:=hB;clear hB
 ext
 refine ud 10 hA cN fun W10 hB=>?_;clear hA;have hA:=hB;clear hB
 ext
 refine ud 11 hA cN fun XT hB=>?_;clear hA;have hA:=hB;clear hB
 ext
 refine ud 12 hA cN fun W12 hB=>?_;clear hA;have hA:=hB;clear hB
 ext
 refine ud 13 hA cN fun W13 hB=>?_;clear hA;have hA:=hB;clear hB
 ext
 refine gF (aaY _) fun Ts V14 hq wq fq=>?_;replace hA:=XS ⟨p,d,Ts,p,p⟩ 14 hA hq fq wq;clear hq fq wq
 ext
 refine ud 14 hA cN fun W14 hB=>?_;clear hA;have hA:=hB;clear hB
 ext
 refine gF (aaY _) fun UY V15 hq wq fq=>?_;replace hA:=XS ⟨p,d,Ts,UY,p⟩ 15 hA hq fq wq;clear hq fq wq
 ext
 refine ud 15 hA cN fun W15 hB=>?_;clear hA;have hA:=hB;clear hB
 ext
 refine gF (aaY _) fun XU V16 hq wq fq=>?_;replace hA:=XS ⟨p,d,Ts,UY,XU⟩ 16 hA hq fq wq;clear hq fq wq
 ext
 refine ud 16 hA cN fun W16 hB=>?_;clear hA;have hA:=hB;clear hB
 ext
 refine ud 17 hA cN fun W17 hB=>?_;clear hA;have hA:=hB;clear hB;refine qq ⟨p,d,Ts,UY,XU⟩ _ rfl ?_;refine hA.perm ?_;exact .cons _ (List.reverse_perm [(Ts,Cell.lst []),(UY,Cell.lst []),(XU,Cell.lst [])])
theorem yK(F:cR K "parting" "parting" ly f fd)(cN:gH K kH bT)(Jr:Xi P w K mg base 1 kH "Holder" f1 d1 ["self", "mill", "state", "rings", "terms"] (fY K (yI kH)))(Tt:jH P w K mg base 8 kH "tell" f2 d2 ["self", "event"] (fY K (FH kH)))(Js:jH P w K mg base 1 kH "parted" f3 d3 ["self"] (fY K (sX kH))):ba P w K mg base df 9 f fd ["mill", "state", "rings", "terms", "diary"] (eZ pv):=by
 exact_mod_cast F.pW ml (by nofun);refine⟨_,!("aeaC**OEJrhraa0aa1aa2aa3agaejycX4aX**aiaTgEfbTthr5aa6agaiaxAlJshr5awaiaxcY",5,ml.nd,6,ml.nd),?_⟩
 push_cast;rintro ds R ⟨rs,bs,st,ps,t,es,rfl,ok,hE,hl,q⟩;refine cA [_,_,_,_,_,none,none] rfl ?_
 ext
 intro p d hp hd jx;have Lp:At (aG W0 p (.ob kH d [])) [(p,.ob kH d [])]:=⟨@2,fun x hx=>by rw[abk]at hx;subst hx;exact av⟩;refine cD Lp rfl fun W1 R' h1 g=>⟨p,d,rs,bs,st,ps,t,rfl,h1,aaE ok.rl @1,fun a W' Qc h'=>g _ _ fun W2 t fr=>?_⟩;have hA:=t _ h' aW;clear fr t h' h1 g Lp;refine⟨rfl,?_⟩;subst Qc
 ext
 refine ao ?_
 ext
 refine Ir (fun i Y W=>∃ h a' u,a'.p=a.p/\At W (fe kH a' h)/\eV h/\vQ h i/\h.cause=none/\fT (qc rs bs st ps t) es=fT h (es.drop i)/\Y=[some (.im (bz rs bs)),some (.im (fE st)),some (.im (.list (ps.map pairD))),some (.im (j8 t)),some (.im (.list (es.map eB))),some (.pt a.p),u]) ⟨_,a,_,rfl,hA,ok,⟨aaC _,aaC _,aaC _⟩,rfl,rfl,rfl⟩ ?_ ?_
 .clear hA;rintro i d Y W hd ⟨h,a',u,o1,hA,ok,ln,hc,ep,rfl⟩;rw[aaz]at hd;obtain⟨e,he,rfl⟩:=aaB.mp hd;have Z1:=(aaH.mp he).1;have ed:es.drop i=e::es.drop (i+1):=by rw[adz Z1,(aaH.mp he).2]
  have hEe:=hE e (abQ he);rw[ed,show fT h (e::es.drop (i+1))=(match (h.tell e).cause with | some x=>some ((h.tell e).events,x) | none=>fT (h.tell e) (es.drop (i+1))) from rfl]at ep;rw[<- o1]at *
  ext
  refine cD hA aW fun W1 R' h1 g=>⟨a',h,e,rfl,h1,ok,hEe,hc,fun a2 W' o h'=>g _ _ fun W2 t fr=>?_⟩;have fZ:=t _ h' aW;clear fr t h' h1 g hA;obtain⟨o2,_⟩:=o;rw[<- o2]at *
  ext
  cases ec:(h.tell e).cause with
  | some x =>
   rw[ec]at ep;rw[ep]at q
   ext
   refine cD fZ aW fun W1 R' h1 g=>⟨a2,_,rfl,h1,fun W' h'=>g _ _ fun W2 t fr=>?_⟩;rw[ec];exact q
  | none =>
   rw[ec]at ep
   ext
   have eb:h.aU e=none:=by
    cases eb:h.aU e with
    | none=>rfl
    | some x=>unfold HM.tell at ec;rw[eb]at ec;cases ec
   have et:h.tell e=h.bp e:=by unfold HM.tell;rw[eb]
   obtain⟨k1,k2,k3,_⟩:=Lo ok eb ln @0;rw[et]at fZ ep;exact⟨_,a2,_,rfl,fZ,k1,k2,k3.trans hc,ep,rfl⟩
 .clear hA;rintro Y W ⟨h,a',u,o1,hA,ok,ln,hc,ep,rfl⟩;rw[aav,List.drop_length]at ep;rw[ep]at q
  ext
  exact q
end
theorem Pg{e:Ev}(h:lx e):(eB e).canLay0=true/\(eB e).depth<=2:=by
 have c:(PyData.str "end").canLay0=true/\(PyData.str "late").canLay0=true/\(PyData.str "down").canLay0=true/\(PyData.str "bell").canLay0=true/\(PyData.str "spot").canLay0=true/\(PyData.str "cell").canLay0=true:=by decide +kernel
 obtain⟨c1,c2,c3,c4,c5,c6⟩:=c;simp only[PyData.canLay0]at c1 c2 c3 c4 c5 c6;have k:∀ o:Option Int,(qO o).canLay0=true/\(qO o).depth=0:=fun o=>by cases o<;>exact⟨rfl,rfl⟩
 cases e with
 | fin b pl t =>
  rcases t with _ | ⟨w,x,v⟩
  .exact⟨by simp[eB,iA,PyData.canLay0,PyData.canLayAll0,c1],by simp[eB,iA,PyData.depth,PyData.depthAll]⟩
  .refine⟨?_,by simp[eB,iA,PyData.depth,PyData.depthAll,(k v).2]⟩;rcases h w x rfl with rfl | rfl<;>simp[eB,iA,PyData.canLay0,PyData.canLayAll0,c1,c5,c6,(k v).1]
 | dQ b n v=>exact⟨by simp[eB,PyData.canLay0,PyData.canLayAll0,c2],by simp[eB,PyData.depth,PyData.depthAll]⟩
 | down b n c v=>exact⟨by simp[eB,PyData.canLay0,PyData.canLayAll0,c3],by simp[eB,PyData.depth,PyData.depthAll]⟩
 | eE b k=>exact⟨by simp[eB,PyData.canLay0,PyData.canLayAll0,c4],by simp[eB,PyData.depth,PyData.depthAll]⟩
theorem vR(h:∀ d∈ds,d.canLay0=true/\d.depth<=2):(PyData.list ds).canLay0=true/\(PyData.list ds).depth<=64:=by
 have:PyData.canLayAll0 ds=true/\PyData.depthAll ds<=2:=by
  induction ds with
  | nil=>exact⟨rfl,aaY _⟩
  | cons d r ih =>
   obtain⟨h1,h2⟩:=h d (aaP ..);obtain⟨i1,i2⟩:=ih fun x hx=>h x (aaI _ hx);exact⟨by rw[PyData.canLayAll0,h1,i1];rfl,by rw[PyData.depthAll];omega⟩
 exact⟨this.1,by rw[PyData.depth];omega⟩
theorem AG(h:∀ e∈es,lx e):(PyData.list (es.map eB)).canLay0=true/\(PyData.list (es.map eB)).depth<=64:=vR fun d hd=>by obtain⟨e,he,rfl⟩:=abe.mp hd;exact Pg (h e he)
theorem AH(ps:ut):(PyData.list (ps.map pairD)).canLay0=true/\(PyData.list (ps.map pairD)).depth<=64:=vR fun d hd=>by obtain⟨e,he,rfl⟩:=abe.mp hd;exact⟨rfl,by simp[pairD,PyData.depth,PyData.depthAll]⟩
noncomputable def bQ:HM->List Ev->Option HM
 | h,[]=>some h
 | h,e::r=>match h.aU e with
  | none=>bQ (h.bp e) r
  | some _=>none
theorem qY{e:Ev}(b:h.aU e=none):h.tell e=h.bp e:=by unfold HM.tell;rw[b]
theorem B4{e:Ev}{x:Str}(b:h.aU e=some x):h.tell e={ h with cause:=some x }:=by unfold HM.tell;rw[b]
theorem qZ:∀{es:List Ev} {h h1:HM} {e:Ev},bQ h es=some h1->h1.aU e=none->bQ h (es++[e])=some (h1.bp e)
 | [],h,h1,e,f,b=>by cases f;show(match h.aU e with | none=>bQ (h.bp e) [] | some _=>none)=_;rw[b];rfl
 | a::r,h,h1,e,f,b=>by
  show(match h.aU a with | none=>bQ (h.bp a) (r++[e]) | some _=>none)=_;have f':(match h.aU a with | none=>bQ (h.bp a) r | some _=>none)=some h1:=f;cases q:h.aU a with
  | some x=>rw[q]at f';cases f'
  | none=>rw[q]at f';exact qZ f' b
theorem vS(h:HM)(e:Ev):(h.bp e).cause=h.cause:=by
 cases e with
 | fin b pl t=>show(HM.dE _ b t).cause=_;unfold HM.dE HM.bV;dsimp only;split<;>(try split)<;>rfl
 | dQ b n v=>rfl
 | down b n c v=>rfl
 | eE b k=>rfl
theorem mm:∀{es:List Ev} {h h1:HM} {r:List Ev},h.cause=none->bQ h es=some h1->fT h (es++r)=fT h1 r/\h1.cause=none
 | [],h,h1,r,c,f=>by cases f;exact⟨rfl,c⟩
 | a::es,h,h1,r,c,f=>by
  have f':(match h.aU a with | none=>bQ (h.bp a) es | some _=>none)=some h1:=f;cases q:h.aU a with
  | some x=>rw[q]at f';cases f'
  | none =>
   rw[q]at f';have c1:(h.tell a).cause=none:=by rw[qY q,vS];exact c
   show(match (h.tell a).cause with | some x=>some ((h.tell a).events,x) | none=>fT (h.tell a) (es++r))=_/\_;rw[c1,qY q];exact mm (by rw[vS];exact c) f'
theorem vT{e:Ev}{x:Str}{r:List Ev}(b:h.aU e=some x):fT h (e::r)=some (h.events,x):=by
 show(match (h.tell e).cause with | some x=>some ((h.tell e).events,x) | none=>fT (h.tell e) r)=_;rw[B4 b]
abbrev Ph:Stmt:=top 40
abbrev FN:Stmt:=top 41
abbrev yL:Stmt:=top 42
theorem rg:az ["bag", "many", "spots", "kind", "d", "a", "b", "n"] ["bag", "many", "spots"] (defScope Ph):=by ac_rfl
theorem tQ:az ["bag", "many", "spots", "bells"] ["bag"] (defScope FN):=by ac_rfl
theorem lz:az ["bag", "mill", "place", "kept", "spots", "cells"] ["bag", "mill"] (defScope yL):=by ac_rfl
noncomputable def Tu:uU:=fun n ds R=>∃ m s:Int,ds=[.int m,.int s]/\0<=m/\m<=40/\1<=s/\s<=8/\n<=998000000/\∀(r:Rw) (n':Nat),iZ m r->n'<=n+9->R (.im (dA r)) n'
noncomputable def Lq:uU:=fun n ds R=>ds=[]/\n<=990000000/\∀(rs:List Rw) (bs:wn) (n':Nat),sJ rs bs->n'<=n+1000->R (.im (bz rs bs)) n'
noncomputable def FO:uU:=fun n ds R=>∃(rs:List Rw) (bs:wn),ds=[bz rs bs]/\rs.length<=40/\n<=990000000/\∀(st:BN) (n':Nat),ke rs.length st->n'<=n+1000->R (.im (fE st)) n'
def Pj(g t:Addr)(n c:Nat)(Pr:Int->Prop)(i:Nat)(ys:List DV)(W:Wd):Prop:=∃(sp:wn) (k:Nat),ys=(sp.map PyData.int).map .im/\sp.length=i/\(∀ z∈sp,Pr z)/\W t=some (.aI g k)/\k<=n+c * i
theorem Pj.nil{g t:Addr}{c:Nat}{Pr:Int->Prop}{k:Nat}(h:W t=some (.aI g k))(hk:k<=n):Pj g t n c Pr 0 [] W:=⟨[],k,rfl,rfl,(fun b hb=>by cases hb),h,@0⟩
theorem Pj.more{g t:Addr}{c:Nat}{Pr:Int->Prop}{k i:Nat}{z:Int}(hl:sp.length=i)(hb:∀ z∈sp,Pr z)(hz:Pr z)(h:W t=some (.aI g k))(hk:k<=n+c * i+c):Pj g t n c Pr (i+1) ((sp.map PyData.int).map .im++[.im (.int z)]) W :=
 ⟨sp++[z],k,@2,by simp[hl],fun b m=>by
  rcases abn.mp m with c | c
  .exact hb b c
  .rw[abk.mp c];exact hz,h,by rw[Nat.mul_add];omega⟩
section
variable {K:zn}
theorem Pk(F:cR K "_law_row" "_law_row" Ph f fd)(ar:Dn P w K mg base 1 "_law_draw" f1 d1 ["bag", "many"] (spT (bN Bg) iY))(fA:Dn P w K mg base 2 "_law_worth" f2 d2 ["bag"] (spT (bN Bg) sL)):ba P w K mg base df 3 f fd ["bag", "many", "spots"] (spT (bN Bg) Tu):=by
 exact_mod_cast F.KR rg cn rfl (by nofun);refine⟨_,!("aeaC**akbDcz.rfl aqarhraa0aaafagaeaC**aqarhraa0aa2agaeaC**aqarhraa0aa2agaeaC**aqarhraa0aa2agaeaC**aqarhraa0aaafagaeaTaAaJhu3afaiaxbraaajaa4aaaqfAhraa0agagawaeaTaAgL3afaiaxbraaakbDcz.rfl bbkj3afaa4aa5aa6agawaeaTaAgL3afaiaxakbDaabraaajaa4aa5aa7agaabraaajaa6aa5aa7agagbbkj3afawaeaTaAaJhu3afaiaxbraaajaa5aaaqarhraa0aabbbf1afagagawaiaxbraaakbDcz.rfl bbkj3afag",3,rg.nd,4,rg.nd,5,rg.nd,6,rg.nd,7,rg.nd),?_⟩
 clear hu;symm;refine fun t g O=>⟨_,inferInstance,?_⟩;rintro n ds R ⟨m,s,rfl,m0,m1,s0,s1,hn,q⟩;refine cA [_,_,_,none,none,none,none,none] rfl ?_;have wt:WT t g n t=some (.aI g n):=av;generalize WT t g n=W at wt
 ext
 refine cO (ds:=[0,1,2,3,3,4,4,5,5,6,7,8,9].map PyData.int) (by show 13<=sizeLine;decide) ?_
 ext
 refine aY wt @0 @0 @0 fun k0 W1 XW XX wt _=>?_;refine fk XW (by simpa using XX) fun kd GZ=>?_;have GZ:0<=kd/\kd<=9:=by simp at GZ;omega
 ext
 refine aY wt @0 @0 @0 fun d W1 a0 a1 wt _=>?_
 ext
 refine aY wt @0 @0 @0 fun a W1 b0 b1 wt _=>?_
 ext
 refine aY wt @0 @0 @0 fun b W1 c0 c1 wt _=>?_
 ext
 refine aY wt @0 @0 @0 fun nn W1 e0 e1 wt _=>?_;have od:GX d:=⟨a0,@0⟩;have oa:GX a:=⟨b0,@0⟩;have ob:GX b:=⟨c0,@0⟩
 ext
 refine ao ?_
 ext
 refine fi (fun z=>?_) (fun z=>?_)
 .ext
  refine cT (ds:=[]) wt ⟨rfl,@0,fun v n' hv Qr=>cH ?_⟩;have G0:aG W1 t (.aI g n') t=some (.aI g n'):=av
  ext
  refine aH (ds:=[.str "put",.int d,.int v]) (by show 3<=sizeLine;decide) ?_;exact⟨_,G0,q (.put d v) _ ⟨od,hv⟩ @0⟩
 ext
 refine ao ?_
 ext
 refine fi (fun z2=>?_) (fun z2=>?_)
 .ext
  refine cO (ds:=[.str "sum",.str "less",.str "mul"]) (by show 3<=sizeLine;decide) ?_
  ext
  obtain⟨x,hx,ok⟩:∃ x:Str,jb [PyData.str "sum",.str "less",.str "mul"] (kd - 1)=some (.str x)/\(x = "sum"\/x = "mul"\/x = "less"):=by
   obtain rfl | rfl | rfl:kd=1\/kd=2\/kd=3:=by omega
   all_goals exact⟨_,rfl,@2⟩
  refine gN hx ?_
  ext
  refine aH (ds:=[.str x,.int d,.int a,.int b]) (by show 4<=sizeLine;decide) ?_;exact⟨_,wt,q (.op x d a b) _ ⟨ok,od,oa,ob⟩ @0⟩
 ext
 refine ao ?_
 ext
 refine fi (fun z3=>?_) (fun z3=>?_)
 .ext
  refine aH (ds:=[.str "take",.int d,.int a,.int nn]) (by show 4<=sizeLine;decide) ?_
  ext
  refine aH (ds:=[.str "lay",.int b,.int a,.int nn]) (by show 4<=sizeLine;decide) ?_
  ext
  refine cO (ds:=[dA (.mv "take" d a nn),dA (.mv "lay" b a nn)]) (by show 2<=sizeLine;decide) ?_
  ext
  obtain rfl | rfl:kd=4\/kd=5:=by omega
  .refine gN (D:=dA (.mv "take" d a nn)) rfl ?_;exact⟨_,wt,q (.mv "take" d a nn) _ ⟨.inl rfl,od,oa,e0,e1⟩ @0⟩
  .refine gN (D:=dA (.mv "lay" b a nn)) rfl ?_;exact⟨_,wt,q (.mv "lay" b a nn) _ ⟨.inr rfl,ob,oa,e0,e1⟩ @0⟩
 ext
 refine ao ?_
 ext
 refine fi (fun z4=>?_) (fun z4=>?_)
 .ext
  refine aY wt @0 @0 @0 fun p W1 p0 p1 wt _=>?_
  ext
  refine aH (ds:=[.str "go",.int a,.int p]) (by show 3<=sizeLine;decide) ?_;exact⟨_,wt,q (.go a p) _ ⟨oa,p0,@0⟩ @0⟩
 ext
 refine cO (ds:=[.str "shut",.str "open",.str "home"]) (by show 3<=sizeLine;decide) ?_
 ext
 obtain⟨x,hx,ok⟩:∃ x:Str,jb [PyData.str "shut",.str "open",.str "home"] (kd - 7)=some (.str x)/\(x = "shut"\/x = "open"\/x = "home"):=by
  obtain rfl | rfl | rfl:kd=7\/kd=8\/kd=9:=by omega
  all_goals exact⟨_,rfl,@2⟩
 refine gN hx ?_
 ext
 refine aH (ds:=[.str x]) (by show 1<=sizeLine;decide) ?_;exact⟨_,wt,q (.one x) _ ok @0⟩
theorem Jt(F:cR K "_law_mill" "_law_mill" FN f fd)(ar:Dn P w K mg base 1 "_law_draw" f1 d1 ["bag", "many"] (spT (bN Bg) iY))(B5:Dn P w K mg base 3 "_law_row" f2 d2 ["bag", "many", "spots"] (spT (bN Bg) Tu))(bo:mg "range"=none)(cU:mg "tuple"=none):ba P w K mg base df 4 f fd ["bag"] (spT (bN Bg) Lq):=by
 exact_mod_cast F.KR tQ cn rfl (by nofun);refine⟨_,!("aeaC**bbbfafaqarhraa0aaakbDcz.rfl aqarhraa0aaafagagaeaC**akbDcz.rfl aqarhraa0aaafagaeaC**cKgScU.abz aa&**^dPboaaaqarhraa0aaafagag?aX*~?gX?aqarhraa1aabbbf2afagagaiaxbraacKgScU.abz aa&**^dPboaa1ag?aX*~?gX?aqB5hraa1aa2aa3agagaa3ag",1,tQ.nd,2,tQ.nd,3,tQ.nd,["k", "bag", "many"],[none,some 0,some 1],0,["k", "bag", "many", "spots"],[none,some 0,some 1,some 2],0),?_⟩
 clear hu;symm;refine fun t g O=>⟨_,inferInstance,?_⟩;rintro n ds R ⟨rfl,hn,q⟩;refine cA [_,none,none,none] rfl ?_;have wt:WT t g n t=some (.aI g n):=av;generalize WT t g n=W at wt
 ext
 refine cO (ds:=[8,12,40].map PyData.int) (by show 3<=sizeLine;decide) ?_
 ext
 refine aY wt @0 @0 @0 fun k0 W1 XW XX wt _=>?_;refine fk XW (by simpa using XX) fun kd GZ=>?_;have GZ:1<=kd/\kd<=40:=by simp at GZ;omega
 ext
 refine aY wt @0 @0 @0 fun m W2 m0 m1 wt _=>?_
 ext
 refine cO (ds:=[8,3].map PyData.int) (by show 2<=sizeLine;decide) ?_
 ext
 refine aY wt @0 @0 @0 fun k1 W3 Tv UZ wt _=>?_;refine fk Tv (by simpa using UZ) fun sp xm=>?_;have xm:1<=sp/\sp<=8:=by simp at xm;omega
 ext
 refine aY wt @0 @0 @0 fun nb W4 b0 b1 wt _=>?_
 ext
 refine kX (Pj g t (n+4) 1 fun z=>0<=z/\z<=1+m) (aaQ (fw @0)) (.nil wt @0) ?_ ?_
 .rintro i ys W hi _ ⟨bs,k,rfl,hl,hb,wt,hk⟩
  ext
  refine aY wt @0 @0 @0 fun z W5 z0 z1 wt _=>?_;exact .more hl hb ⟨z0,@0⟩ wt @0
 clear wt;rintro ys W5 ⟨bs,k5,rfl,hbl,hbs,wt,Z4⟩;refine cj ?_
 ext
 refine⟨_,rfl,.inl ⟨_,bs.map .int,_,rfl,fL (fun _ _=>rfl) _,?_⟩⟩
 ext
 refine kX (fun i ys W=>∃(rs:List Rw) (k:Nat),ys=(rs.map dA).map .im/\rs.length=i/\(∀ r∈rs,iZ (1+m) r)/\W t=some (.aI g k)/\k<=n+10+9 * i) (aaQ (fw @0)) ⟨[],k5,rfl,rfl,(fun b hb=>by cases hb),wt,@0⟩ ?_ ?_
 .rintro i ys W hi _ ⟨rs,k,rfl,hl,hb,wt,hk⟩
  ext
  refine cT (ds:=[.int (1+m),.int sp]) wt ⟨1+m,sp,rfl,@0,@0,xm.1,xm.2,@0,fun r n' lI Qr=>cH ?_⟩;refine⟨rs++[r],n',@2,by simp[hl],fun b mb=>?_,av,@0⟩;rcases abn.mp mb with c | c
  .exact hb b c
  .rw[abk.mp c];exact lI
 clear wt;rintro ys W6 ⟨rs,k6,rfl,XR,hrs,wt,U0⟩;refine cj ?_
 ext
 refine⟨_,rfl,.inl ⟨_,rs.map dA,_,rfl,fL (fun _ _=>rfl) _,?_⟩⟩
 ext
 refine aH (ds:=[.tuple (rs.map dA),.tuple (bs.map .int)]) (by show 2<=sizeLine;decide) ?_;have e:(rs.length:Int)=1+m:=by omega
 exact⟨_,wt,q rs bs k6 ⟨@0,@0,by rw[e];exact hrs,@0,fun b hb=>by have:=hbs b hb;omega⟩ @0⟩
theorem FP(F:cR K "_law_state" "_law_state" yL f fd)(ar:Dn P w K mg base 1 "_law_draw" f1 d1 ["bag", "many"] (spT (bN Bg) iY))(fA:Dn P w K mg base 2 "_law_worth" f2 d2 ["bag"] (spT (bN Bg) sL))(bo:mg "range"=none)(cU:mg "tuple"=none)(bh:mg "len"=none):ba P w K mg base df 3 f fd ["bag", "mill"] (spT (bN Bg) FO):=by
 exact_mod_cast F.KR lz cn rfl (by nofun);refine⟨_,!("aeaC**bbi8aqarhraa0aabbbfbEbjbh.aa4 aaak1afagafagaqarhraa0aaafagaeaC**akbDaacYaacYaaaqarhraa0aabbbfbEbjbh.aa4 aaak1afagafagagaqarhraa0aaafagaeaC**cKgScU.abz aa&**^dPboaaafag?aX*~?gX?aqfAhraa1agagaeaC**cKgScU.abz aabbMS&**^dPboaaafag?aX*~?gX?aqfAhraa1agafagaiaxbraa2aa4aa5aaiDaJhuaqarhraa0aaafagafaa3ag",2,lz.nd,3,lz.nd,4,lz.nd,["k", "bag"],[none,some 0],0,5,lz.nd,["k", "bag"],[none,some 0],0),?_⟩
 clear hu;symm;refine fun t g O=>⟨_,inferInstance,?_⟩;rintro n ds R ⟨rs,bs,rfl,aal,hn,q⟩;refine cA [_,_,none,none,none,none] rfl ?_;have wt:WT t g n t=some (.aI g n):=av;generalize WT t g n=W at wt
 ext
 rw[aav];refine aY wt @0 @0 @0 fun p1 W1 U1 p11 wt _=>?_
 ext
 refine aY wt @0 @0 @0 fun p2 W2 p20 p21 wt _=>?_;obtain⟨pl,oo,p0,p1'⟩:∃ pl:Int,p1 * p2=pl/\0<=pl/\pl<=rs.length:=by
  obtain rfl | rfl:p2=0\/p2=1:=by omega
  .exact⟨0,@0,@0,@0⟩
  .exact⟨p1,@0,@0,@0⟩
 refine Zr (Or.inr ⟨@0,@0⟩) ?_;rw[oo]
 ext
 rw[aav];refine aY wt @0 @0 @0 fun kp W3 kp0 kp1 wt _=>?_
 ext
 refine cO (ds:=[.none,.none,.int kp]) (by show 3<=sizeLine;decide) ?_
 ext
 refine aY wt @0 @0 @0 fun kk W4 kk0 kk1 wt _=>?_;obtain⟨kt,hk,ok⟩:∃ kt:Option Int,jb [PyData.none,.none,.int kp] kk=some (qO kt)/\∀ k,kt=some k->0<=k/\k<=(rs.length:Int):=by
  obtain rfl | rfl | rfl:kk=0\/kk=1\/kk=2:=by omega
  .exact⟨none,rfl,fun _ e=>by cases e⟩
  .exact⟨none,rfl,fun _ e=>by cases e⟩
  .exact⟨some kp,rfl,fun _ e=>by cases e;omega⟩
 refine gN hk ?_
 ext
 refine kX (Pj g t (n+4) 3 Wr) (aaQ (fw @0)) (.nil wt @0) ?_ ?_
 .rintro i ys W hi _ ⟨sp,k,rfl,hl,hb,wt,hk⟩
  ext
  refine cT (ds:=[]) wt ⟨rfl,@0,fun wr n' Pl Qr=>cH ?_⟩;exact .more hl hb Pl av @0
 clear wt;rintro ys W5 ⟨sp,k5,rfl,HP,RD,wt,Z4⟩;refine cj ?_
 ext
 refine⟨_,rfl,.inl ⟨_,sp.map .int,_,rfl,fL (fun _ _=>rfl) _,?_⟩⟩
 ext
 refine kX (Pj g t (n+30) 3 Wr) (aaQ (fw @0)) (.nil wt (by have:(8:Int).toNat=8:=rfl;omega)) ?_ ?_
 .rintro i ys W hi _ ⟨sp,k,rfl,hl,hb,wt,hk⟩
  ext
  refine cT (ds:=[]) wt ⟨rfl,@0,fun wr n' Pl Qr=>cH ?_⟩;exact .more hl hb Pl av @0
 clear wt;rintro ys W6 ⟨ce,k6,rfl,V0,hcw,wt,U0⟩;have c4:ce.length=4:=V0;refine cj ?_
 ext
 refine SM rfl @1 @1 (by rw[aav,aav,c4];decide) ?_;rw[show(List.replicate (4:Int).toNat ((ce.map PyData.int).map DV.im)).flatten=((ce++ce++ce++ce).map PyData.int).map .im by show(List.replicate 4 _).flatten=_;simp[List.replicate]];refine cj ?_
 ext
 refine⟨_,rfl,.inl ⟨_,(ce++ce++ce++ce).map .int,_,rfl,fL (fun _ _=>rfl) _,?_⟩⟩
 ext
 refine aY wt (by have:(4:Int).toNat=4:=rfl;omega) @0 @0 fun z W7 _ _ wt _=>?_
 ext
 refine aH (ds:=[.int pl,.tuple (sp.map .int),.tuple ((ce++ce++ce++ce).map .int),.bool (decide (z=3)),qO kt]) (by show 5<=sizeLine;decide) ?_;refine⟨_,wt,q ⟨pl,sp,ce++ce++ce++ce,decide (z=3),kt⟩ _ ⟨p0,p1',HP,RD,by simp[c4],fun z hz=>?_,ok⟩ (by have:(4:Int).toNat=4:=rfl;omega)⟩;simp only[abn]at hz;exact hcw z (by rcases hz with((h | h) | h) | h<;>exact h)
end
section
variable {a b c d e g h i j:j3}{Y:bW}{nx bk ct:bW->Wd->Prop}{rt:DV->Wd->Prop}
theorem Lr(N:bW->Wd->Prop)(h1:∀ k:bW->Wd->Prop,(∀ Y W,N Y W->k Y W)->j4 a (j4 b c) ⟨k,rt,bk,ct⟩ Y W)(h2:∀ Y W,N Y W->d ⟨nx,rt,bk,ct⟩ Y W):j4 a (j4 b (j4 c d)) ⟨nx,rt,bk,ct⟩ Y W:=h1 _ h2
end
abbrev Pm:Stmt:=top 45
abbrev FQ:Stmt:=top 46
abbrev yM:Stmt:=top 47
abbrev yN:Stmt:=top 48
theorem vU:az ["row", "now", "spots", "one", "other", "worths"] ["row", "now"] (defScope Pm):=by ac_rfl
theorem px:az ["row", "now", "wrote", "after"] ["row", "now"] (defScope FQ):=by ac_rfl
theorem nR:az ["rings", "now", "beat", "found", "k", "rung"] ["rings", "now", "beat"] (defScope yM):=by ac_rfl
theorem tR:az ["state", "found", "more"] ["state"] (defScope yN):=by ac_rfl
structure vV where
 (p sp ce ow la tk:Addr)
noncomputable def nj(a:vV)(h:HM):List (Key×DV):=[(.inr "place",.im (.int h.st.place)),(.inr "spots",.pt a.sp),(.inr "cells",.pt a.ce),(.inr "shut",.im (.bool h.st.cJ)),(.inr "kept",.im (qO h.st.kept)),(.inr "beat",.im (.int h.au)),(.inr "crowd",.im (.int h.dR)),(.inr "pressed",.im (.int h.aF)),(.inr "owed",.pt a.ow),(.inr "laid",.pt a.la),(.inr "took",.pt a.tk),(.inr "ends",.im (.int h.ends))]
noncomputable def cQ(a:vV)(h:HM):Ws:=[(a.p,.dk (nj a h)),(a.sp,mI (h.st.aL.map .int)),(a.ce,mI (h.st.cells.map .int)),(a.ow,mI (h.aZ.map dD)),(a.la,mI (h.laid.map eY)),(a.tk,mI (h.taken.map .int))]
def Ks(W W':Wd):Prop:=∀ z c,W z=some c->W' z=some c
def Ko(L:Ws)(W W':Wd):Prop:=∀ z c,W z=some c->z ∉ L.map (·.1)->W' z=some c
section
variable {W1:Wd}{a:vV}
theorem Ks.trans(h:Ks W W')(h':Ks W' W1):Ks W W1:=fun z c e=>h' z c (h z c e)
theorem Ks.new(h:Ks W W')(hn:W' p=none)(f:Fr p W' W1):Ks W W1:=fun z c e=>f.at (fun q=>by have:=h z c e;rw[q,hn]at this;cases this) (h z c e)
theorem Ks.old(h:Ks W W')(hn:W p=none)(f:Fr p W' W1):Ks W W1:=fun z c e=>f.at (fun q=>by rw[q,hn]at e;cases e) (h z c e)
theorem Ks.no(h:Ks W W')(hn:W' p=none):W p=none:=by
 cases e:W p with
 | none=>rfl
 | some c=>rw[h p c e]at hn;cases hn
theorem Ks.at_(h:At W L)(k:Ks W W'):At W' L:=h.mono fun x _ e=>k _ _ e
theorem Ko.of(k:Ks W W'):Ko L W W':=fun z c e _=>k z c e
theorem Ko.ks(h:Ko L W W')(k:Ks W' W1):Ko L W W1:=fun z c e n=>k z c (h z c e n)
theorem Ko.fr(h:Ko L W W')(f:Fr p W' W1)(hp:p∈L.map (·.1)):Ko L W W1:=fun z c e n=>f.at (fun q=>n (q▸hp)) (h z c e n)
theorem Ko.new(h:Ko L W W')(hn:W' p=none)(f:Fr p W' W1):Ko L W W1:=fun z c e n=>f.at (fun q=>by have:=h z c e n;rw[q,hn]at this;cases this) (h z c e n)
theorem fg(hA:At W (cQ a h)):W a.p=some (.dk (nj a h)):=hA.get 0 rfl
theorem Ju:iN (nj a h) (.inr "place")=some (.im (.int h.st.place)):=by with_unfolding_all rfl
theorem Jv:iN (nj a h) (.inr "spots")=some (.pt a.sp):=by with_unfolding_all rfl
theorem Jw:iN (nj a h) (.inr "cells")=some (.pt a.ce):=by with_unfolding_all rfl
theorem Pn:iN (nj a h) (.inr "shut")=some (.im (.bool h.st.cJ)):=by with_unfolding_all rfl
theorem Po:iN (nj a h) (.inr "kept")=some (.im (qO h.st.kept)):=by with_unfolding_all rfl
theorem Pp:iN (nj a h) (.inr "beat")=some (.im (.int h.au)):=by with_unfolding_all rfl
theorem Jx:iN (nj a h) (.inr "crowd")=some (.im (.int h.dR)):=by with_unfolding_all rfl
theorem B6:iN (nj a h) (.inr "pressed")=some (.im (.int h.aF)):=by with_unfolding_all rfl
theorem Pq:iN (nj a h) (.inr "owed")=some (.pt a.ow):=by with_unfolding_all rfl
theorem Pt:iN (nj a h) (.inr "laid")=some (.pt a.la):=by with_unfolding_all rfl
theorem Pu:iN (nj a h) (.inr "took")=some (.pt a.tk):=by with_unfolding_all rfl
theorem Pw:iN (nj a h) (.inr "ends")=some (.im (.int h.ends)):=by with_unfolding_all rfl
theorem fU{f:Str}{v:DV}(h':HM)(hA:At W (cQ a h))(k:∀ W1,At W1 (cQ a h')->Fr a.p W W1->Kc W1)(e:autoParam (oP (nj a h) (.inr f) v=nj a h') ra2)(ht:autoParam ((cQ a h').tail=(cQ a h).tail) ra0):dput W (.pt a.p) (.im (.str f)) v Kc :=
 Ai (fg hA) rfl (show 12 < sizeLine by decide) fun W1 w1 f1=>k W1 (by have:=hA.iB 0 rfl f1 w1;rw[e]at this;show At W1 ((a.p,.dk (nj a h'))::(cQ a h').tail);rw[ht];exact this) f1
theorem Ls{f:Str}{q:Addr}{W0:Wd}{c':Cell}(i:Nat)(a':vV)(h':HM)(hA:At W0 (cQ a h))(hq:W0 q=none)(fq:Fr q W0 W)(wq:W q=some c')(k:∀ W1,At W1 (cQ a' h')->Fr a.p W W1->Kc W1)(hp:a'.p=a.p)(h0:autoParam (((cQ a h).set i (q,c'))[0]?=some (a.p,.dk (nj a h))) ra0)(e:autoParam (oP (nj a h) (.inr f) (.pt q)=nj a' h') ra2)(ht:autoParam (((cQ a h).set i (q,c')).tail=(cQ a' h').tail) ra0):dput W (.pt a.p) (.im (.str f)) (.pt q) Kc :=
 have h1:=hA.swap i hq fq wq
 Ai (h1.get 0 h0) rfl (show 12 < sizeLine by decide) fun W1 w1 f1=>k W1 (by
  have h2:=h1.iB 0 h0 f1 w1;rw[e]at h2;have:((cQ a h).set i (q,c')).set 0 (a.p,.dk (nj a' h'))=cQ a' h':=by
   cases g:(cQ a h).set i (q,c') with
   | nil=>rw[g]at h0;cases h0
   | cons x r=>rw[g]at ht;rw[<- hp];show _::r=(a'.p,Cell.dk (nj a' h'))::(cQ a' h').tail;rw[<- ht];rfl
  rw[this]at h2;exact h2) f1
end
local macro_rules|`(tactic|ext)=>do
 let o0<-`(Lean.Parser.Tactic.tacticSeq|array_mem_dec)
 let o1<-`(Lean.Parser.Tactic.tacticSeq|with_reducible refine Ah (by assumption) rfl (by first | exact Ju | exact Jv | exact Jw | exact Pn | exact Po | exact Pp | exact Jx | exact B6 | exact Pq | exact Pt | exact Pu | exact Pw) ?_)
 let a<-_root_.mS #[o0,o1] ("0;r L2.bO;mr L2.eQ;rd L2.OT;rd L2.OU;rd L2.OV;1;d L2.pT;d L2.kl;d L2.xI;d L2.xJ;er L2.bO;f L2.DL;f L2.xH".splitOn ";") #[]
 `(tactic|repeat first $[|$a]*)
theorem rh{k:Int}(w:W p=some (mI (xs.map .int)))(h0:0<=k)(h1:k < xs.length)(h:Q (.im (.int (gI xs k))) W):NH (.pt p) (.im (.int k)) W Q:=eQ (vs:=(xs.map PyData.int).map .im) w (sy (E3 h0 h1)) h
noncomputable def FR:wO:=fun as W R=>∃(r:Rw) (m:Int) (n:Nat) (a:vV) (h:HM),as=[.im (dA r),.pt a.p]/\iZ m r/\At W (cQ a h)/\ke n h.st/\∀ W',Ks W W'->R (.im (gz (r.wrote h.st.aL h.st.cells))) W'
noncomputable def Lu:wO:=fun as W R=>∃(r:Rw) (m:Int) (n:Nat) (a:vV) (h:HM),as=[.im (dA r),.pt a.p]/\iZ m r/\At W (cQ a h)/\ke n h.st/\∀ W',At W' (cQ a { h with st:=dZ r h.st })->Ko (cQ a h) W W'->R (.im (gz (r.wrote h.st.aL h.st.cells))) W'
noncomputable def mn:wO:=fun as W R=>∃(a:vV) (h:HM) (au:Int),as=[.im (.list (h.rings.map pairD)),.pt a.p,.im (.int au)]/\h.rings.length<=60/\h.taken.length<=5000/\At W (cQ a h)/\∀ W' p,Ks W W'->W p=none->W' p=some (mI ((h.bq au).map .int))->R (.pt p) W'
theorem yO{k v:Int}(w:W p=some (mI (xs.map .int)))(h0:0<=k)(h1:k < xs.length)(h:∀ W',W' p=some (mI ((xs.set k.toNat v).map .int))->Fr p W W'->Kc W'):zS (.pt p) (.im (.int k)) (.im (.int v)) W Kc :=
 Ou (vs:=(xs.map PyData.int).map .im) w (j:=k.toNat) (xY h0 (by rw[aav,aav];exact h1)) fun W' w' f'=>h W' (by rw[w'];unfold mI;rw[ad1,ad1]) f'
theorem pA(ps:ut)(au k:Int):(bZ ps au).count k=(ps.filter fun r=>decide (r.2=k)&&decide (r.1<=au)).length:=by
 unfold bZ;induction ps with
 | nil=>rfl
 | cons r ps ih =>
  rw[acK,acK]
  by_cases h1:r.1<=au<;>by_cases h2:r.2=k<;>simp[h1,h2,ih]
theorem FT{a:vV}{x y z:DV}:gG (gG ([]:List (Key×DV)) [(.inr "place",x),(.inr "spots",.pt a.sp),(.inr "cells",.pt a.ce),(.inr "shut",y),(.inr "kept",z)]) (gG [] [(.inr "beat",.im (.int 0)),(.inr "crowd",.im (.int 0)),(.inr "pressed",.im (.int 0)),(.inr "owed",.pt a.ow),(.inr "laid",.pt a.la),(.inr "took",.pt a.tk),(.inr "ends",.im (.int 0))])=[(.inr "place",x),(.inr "spots",.pt a.sp),(.inr "cells",.pt a.ce),(.inr "shut",y),(.inr "kept",z),(.inr "beat",.im (.int 0)),(.inr "crowd",.im (.int 0)),(.inr "pressed",.im (.int 0)),(.inr "owed",.pt a.ow),(.inr "laid",.pt a.la),(.inr "took",.pt a.tk),(.inr "ends",.im (.int 0))]:=by
 kernel_rfl
noncomputable def FU:wO:=fun as W R=>∃ h:HM,as=[.im (fE h.st)]/\h.au=0/\h.dR=0/\h.aF=0/\h.aZ=[]/\h.laid=[]/\h.taken=[]/\h.ends=0/\ke h.rows.length h.st/\∀ W' a,Ks W W'->(∀ x∈cQ a h,W x.1=none)->At W' (cQ a h)->R (.pt a.p) W'
section
variable {K:zn}
theorem Px(F:cR K "_law_due" "_law_due" Pm f fd)(jm:mg "int"=none):ba P w K mg base df 1 f fd ["row", "now"] (kD K (bN Bg) FR):=by
 exact_mod_cast F.GW vU cn (fun aK W R zz=>by obtain⟨a,b,c,d,g,e,_⟩:=zz; rw[e];rfl);refine⟨_,!("aeaC**aMhr1ajaeaTpSjhhuak0afbrcz.rfl aiaxcYawaeaTaAaJhuak0afajaiaxbraaajaaak0afaaak0afagawaeaC**ak2ak0afaeaTaAaJhuak0afajaiaxbraaajaabbgUbbbf3ak0afafaaak2ak0afagawaeaTaAaJhuak0afajaiaxbraaajaaak0afaaakaMhr1ajbbgUbbbf3ak0afafagawaeaC**ak2ak0afaeaC**sDdJajbbbf34dJajbbi834dJajcKlTjm.acA aaiDgL34agAgaiaxbraaajaaak0afaabbgUaMhr5ak0afafag",2,vU.nd,3,vU.nd,4,vU.nd,5,vU.nd),?_⟩
 clear hu;symm;refine fun O W=>⟨_,inferInstance,?_⟩;rintro aK R ⟨r,m,n0,a,h,rfl,ok,hA,hs,q⟩;have l8:=hs.s8;have sw:=hs.sw;have GY:=hs.IM;refine cA [_,_,none,none,none,none] rfl ?_;have w0:=fg hA;have w1:W a.sp=some (mI (h.st.aL.map .int)):=hA.get 1 rfl;have w2:W a.ce=some (mI (h.st.cells.map .int)):=hA.get 2 rfl;have q0:=q W fun _ _ e=>e;cases r with
 | put d v =>
  dsimp only[dA]
  ext
  refine ao ?_
  ext
  refine ao ?_
  ext
  exact aH (ds:=[.str "spot",.int d,.int v]) (by show 3<=sizeLine;decide) q0
 | op x d b c =>
  obtain⟨hx,o1,o2,o3⟩:=ok;dsimp only[dA];have fin:∀ W',Ks W W'->∀ v,v % 4294967296=Rw.gives h.st.aL h.st.cells (.op x d b c)->oK [.im (.str "spot"),.im (.int d),.im (.int (v % 4294967296))] W' R:=fun W' k v e=>by
   rw[e];exact aH (ds:=[.str "spot",.int d,.int _]) (by show 3<=sizeLine;decide) (q W' k)
  obtain⟨c1,c2⟩:=Ax sw c;rcases hx with rfl | rfl | rfl
  all_goals
   ext
   refine ao ?_
   ext
   refine ao ?_
   ext
   refine rh w1 o2.1 (by have:=o2.2;omega) ?_
   ext
   refine ao ?_
   ext
   refine ao ?_
   ext
   refine rh w1 o3.1 (by have:=o3.2;omega) ?_
   ext
   intro p hp
   have k1:∀ c,Ks W (aG (aG W p (.dk [])) p c):=fun c=>Ks.new (fun _ _ e=>e) hp fun z hz=>by rw[aB hz,aB hz]
   ext
   refine⟨av,by show 3<=15;decide,?_⟩
   ext
   refine Ah av rfl (by with_unfolding_all rfl) ?_
   ext
  .exact fin _ (k1 _) _ rfl
  .exact fin _ (k1 _) _ rfl
  .refine fin _ (k1 _) _ ?_;show _=if gI h.st.aL b < gI h.st.aL c then(1:Int)else 0;split<;>simp_all
 | mv x d b n =>
  obtain⟨hx,o1,o2,o3⟩:=ok;dsimp only[dA];rcases hx with rfl | rfl
  all_goals
   ext
   refine ao ?_
   ext
   refine ao ?_
   ext
   refine rh w1 o2.1 (by have:=o2.2;omega) ?_
   ext
   refine ao ?_
   ext
  .refine ao ?_
   ext
   refine rh w2 (ab3 _ @1) (by rw[GY];exact abO _ @1) ?_
   ext
   exact aH (ds:=[.str "spot",.int d,.int _]) (by show 3<=sizeLine;decide) q0
  .refine rh w1 o1.1 (by have:=o1.2;omega) ?_
   ext
   exact aH (ds:=[.str "cell",.int _,.int _]) (by show 3<=sizeLine;decide) q0
 | go b p =>
  dsimp only[dA]
  ext
  refine ao ?_
  ext
  exact q0
 | one x =>
  dsimp only[dA];rcases ok with rfl | rfl | rfl
  all_goals
   ext
   refine ao ?_
   ext
   exact q0
theorem Jy(F:cR K "_law_goes" "_law_goes" FQ f fd)(gh:Dn P w K mg base 1 "_law_due" f1 d1 ["row", "now"] (kD K (bN Bg) FR))(jm:mg "int"=none):ba P w K mg base df 2 f fd ["row", "now"] (kD K (bN Bg) Lu):=by
 exact_mod_cast F.GW px cn (fun aK W R zz=>by obtain⟨a,b,c,d,g,e,_⟩:=zz; rw[e];rfl);refine⟨_,!("aeaC**aqghhraa0aa1agaeaC**bbbfaMhr1ajafaeaTiT.w_and aAaJhuak0afajbJaAbMhuakaMhr1ajak0afafaiaC**ak0afawaeaTaAaJhuak0afajaeaTgEaMhr1ajaiaC**aMhr1ajawaifMhr1ajcYawaeaTpSjhhuak0afbrcz.rfl aifMhr1ajiDaJhuak0afajawaeaTgE2aizGak2afzHaMhr1akbDcz.rfl cKlTjm.acA aaiDaJhuak2afajagak2af.set_list awaefMhr1aj3aiax2",2,px.nd,3,px.nd,3,px.nd,3,px.nd),?_⟩
 clear hu;symm;refine fun O W=>⟨_,inferInstance,?_⟩;rintro aK R ⟨r,m,n0,a,h,rfl,ok,hA,hs,q⟩;refine cA [_,_,none,none] rfl ?_
 ext
 refine cE ⟨r,m,n0,a,h,rfl,ok,hA,hs,fun W1 k1=>?_⟩;have vO:=k1.at_ hA;have w0:=fg vO;have w1:W1 a.sp=some (mI (h.st.aL.map .int)):=vO.get 1 rfl;have Pl:=gA ok hs.sw hs.cw;have q1:∀ W',At W' (cQ a { h with st:=dZ r h.st })->Ko (cQ a h) W1 W'->R (.im (gz (r.wrote h.st.aL h.st.cells))) W':=fun W' h1 h2=>q W' h1 fun z c e n=>h2 z c (k1 z c e) n;unfold dZ at q1;generalize r.wrote h.st.aL h.st.cells=wr at *;clear q hA
 ext
 refine Lr (fun Y W'=>At W' (cQ a { h with st:={ h.st with cJ:=ll h.st.cJ r,kept:=jK h.st.kept r } })/\Ko (cQ a h) W1 W'/\Y=[some (.im (dA r)),some (.pt a.p),some (.im (gz wr)),some (.im (.int (dM h.st.aL h.st.place h.st.kept r)))]) (fun kk jn=>?_) ?_
 .cases r with
  | put d v =>
   dsimp only[dA]
   ext
   refine ao ?_
   ext
   refine ao ?_
   ext
   exact jn _ W1 ⟨vO,Ko.of fun _ _ e=>e,rfl⟩
  | op x d b c =>
   dsimp only[dA];rcases ok.1 with rfl | rfl | rfl
   all_goals
    ext
    refine ao ?_
    ext
    refine ao ?_
    ext
    exact jn _ W1 ⟨vO,Ko.of fun _ _ e=>e,rfl⟩
  | mv x d b n =>
   dsimp only[dA];rcases ok.1 with rfl | rfl
   all_goals
    ext
    refine ao ?_
    ext
    refine ao ?_
    ext
    exact jn _ W1 ⟨vO,Ko.of fun _ _ e=>e,rfl⟩
  | go b p =>
   dsimp only[dA];have hl:=hs.s8
   ext
   refine gf (fun Y W'=>W1=W'/\Y=[some (.im (dA (.go b p))),some (.pt a.p),some (.im (gz wr)),some (.im (.int (dM h.st.aL h.st.place h.st.kept (.go b p))))]) (fun k2 wQ=>?_) ?_
   .ext
    refine rh w1 ok.1.1 (by have:=ok.1.2;omega) ?_
    ext
    refine oI (fun e=>?_) (fun e=>?_)
    .ext
     exact wQ _ _ ⟨rfl,by rw[show dM h.st.aL h.st.place h.st.kept (.go b p)=p from aaD e];rfl⟩
    .exact wQ _ _ ⟨rfl,by rw[show dM h.st.aL h.st.place h.st.kept (.go b p)=h.st.place+1 from aaO e];rfl⟩
   rintro Y _ ⟨rfl,rfl⟩;dsimp only[dA]
   ext
   refine ao ?_
   ext
   exact jn _ W1 ⟨vO,Ko.of fun _ _ e=>e,rfl⟩
  | one x =>
   dsimp only[dA];rcases ok with rfl | rfl | rfl
   .ext
    refine ao ?_
    ext
    refine ao ?_
    ext
    refine fU { h with st:={ h.st with cJ:=true } } vO fun W2 fZ f2=>?_;exact jn _ W2 ⟨fZ,(Ko.of fun _ _ e=>e).fr f2 (by simp[cQ]),rfl⟩
   .ext
    refine ao ?_
    ext
    refine ao ?_
    ext
    refine fU { h with st:={ h.st with cJ:=false } } vO fun W2 fZ f2=>?_;exact jn _ W2 ⟨fZ,(Ko.of fun _ _ e=>e).fr f2 (by simp[cQ]),rfl⟩
   .ext
    refine ao ?_
    ext
    refine ao ?_
    ext
    refine gf (fun Y W'=>W1=W'/\Y=[some (.im (dA (.one "home"))),some (.pt a.p),some (.im (gz wr)),some (.im (.int (dM h.st.aL h.st.place h.st.kept (.one "home"))))]) (fun k2 wQ=>?_) ?_
    .ext
     cases ek:h.st.kept with
     | none =>
      ext
      exact wQ _ _ ⟨rfl,by rw[show dM h.st.aL h.st.place h.st.kept (.one "home")=h.st.place+1 by simp[dM,ek]];rfl⟩
     | some v =>
      ext
      rw[ek];exact wQ _ _ ⟨rfl,by rw[show dM h.st.aL h.st.place h.st.kept (.one "home")=v by simp[dM,ek]];rfl⟩
    rintro Y _ ⟨rfl,rfl⟩;dsimp only[dA]
    ext
    refine fU { h with st:={ h.st with kept:=none } } vO fun W2 fZ f2=>?_
    ext
    refine fU { h with st:={ h.st with kept:=none,cJ:=false } } fZ fun W3 j7 f3=>?_;exact jn _ W3 ⟨j7,((Ko.of fun _ _ e=>e).fr f2 (by simp[cQ])).fr f3 (by simp[cQ]),rfl⟩
 clear w0 w1 vO;rintro Y W2 ⟨hA,ko,rfl⟩;have w0:=fg hA;have w1:W2 a.sp=some (mI (h.st.aL.map .int)):=hA.get 1 rfl;have w2:W2 a.ce=some (mI (h.st.cells.map .int)):=hA.get 2 rfl;have l8:=hs.s8;have GY:=hs.IM;refine ao ?_;cases wr with
 | none =>
  ext
  refine fU { h with st:={ h.st with cJ:=ll h.st.cJ r,kept:=jK h.st.kept r,place:=dM h.st.aL h.st.place h.st.kept r } } hA fun W3 j7 f3=>?_
  ext
  exact q1 W3 j7 (ko.fr f3 (by simp[cQ]))
 | some t =>
  obtain⟨k,i,v⟩:=t;dsimp only[gz];obtain⟨⟨rfl,i0,i1⟩ | ⟨rfl,i0,i1⟩,_⟩:=Pl
  .ext
   refine cO (ds:=[.str "spots",.str "cells"]) (by show 2<=sizeLine;decide) ?_
   ext
   refine gN (D:=.str "spots") rfl ?_
   ext
   refine yO w1 i0 @0 fun W3 w3 f3=>?_;have j7:At W3 (cQ a { h with st:={ h.st with cJ:=ll h.st.cJ r,kept:=jK h.st.kept r,aL:=h.st.aL.set i.toNat v } }):=hA.iB 1 rfl f3 w3;have w4:=fg j7
   ext
   refine fU { h with st:={ h.st with cJ:=ll h.st.cJ r,kept:=jK h.st.kept r,aL:=h.st.aL.set i.toNat v,place:=dM h.st.aL h.st.place h.st.kept r } } j7 fun W4 kI f4=>?_
   ext
   exact q1 W4 kI ((ko.fr f3 (by simp[cQ])).fr f4 (by simp[cQ]))
  .ext
   refine cO (ds:=[.str "spots",.str "cells"]) (by show 2<=sizeLine;decide) ?_
   ext
   refine gN (D:=.str "cells") rfl ?_
   ext
   refine yO w2 i0 @0 fun W3 w3 f3=>?_;have j7:At W3 (cQ a { h with st:={ h.st with cJ:=ll h.st.cJ r,kept:=jK h.st.kept r,cells:=h.st.cells.set i.toNat v } }):=hA.iB 2 rfl f3 w3;have w4:=fg j7
   ext
   refine fU { h with st:={ h.st with cJ:=ll h.st.cJ r,kept:=jK h.st.kept r,cells:=h.st.cells.set i.toNat v,place:=dM h.st.aL h.st.place h.st.kept r } } j7 fun W4 kI f4=>?_
   ext
   exact q1 W4 kI ((ko.fr f3 (by simp[cQ])).fr f4 (by simp[cQ]))
theorem FV(F:cR K "_law_waits" "_law_waits" yM f fd)(bo:mg "range"=none)(bh:mg "len"=none):ba P w K mg base df 1 f fd ["rings", "now", "beat"] (kD K (bN Bg) mn):=by
 exact_mod_cast F.GW nR cn (fun aK W R zz=>by obtain⟨a,b,c,e,_⟩:=zz; rw[e];rfl);refine⟨_,!("aeaC**bDagaejydPboaaafagaX**aeaC**bEbjbh.aa4 aa&**^cX0?jj*bSaX*~bSaX*~jd?fJiT.w_and aAaJhu12bJaAzo03?afagaiaTaAuo5bEbjbh.aa4 aa&**^cXaMhr1aj?aX*~?fJaAaJhu01?afagaieMj1.aaZ .aa9 .aba dm3aa4agawaiax3",3,nR.nd,4,nR.nd,5,nR.nd,["at", "one", "k", "beat"],[none,none,some 4,some 2],2,0,1,["one", "k"],[none,some 4],0),?_⟩
 clear hu;symm;refine fun O W=>⟨_,inferInstance,?_⟩;rintro aK R ⟨a,h,au,rfl,XR,UP,hA,q⟩;refine cA [_,_,_,none,none,none] rfl ?_
 ext
 refine gF (aaY _) fun p W1 hp wp fp=>?_;have k1:Ks W W1:=Ks.new (fun _ _ e=>e) hp fp;clear fp
 ext
 refine ao ?_
 ext
 refine ji (fun i Y W'=>∃ u4 u5,Y=[some (.im (.list (h.rings.map pairD))),some (.pt a.p),some (.im (.int au)),some (.pt p),u4,u5]/\Ks W W'/\W' p=some (.lst (((([0,1,2,3]:wn).take i).filter (fun k=>decide (h.taken.count k < (bZ h.rings au).count k))).map PyData.int |>.map .im))) ⟨_,_,rfl,k1,wp⟩ ?_ ?_
 .clear wp k1;rintro i Y W1 hi ⟨u3,u4,rfl,k1,wp⟩;have w0:=fg (k1.at_ hA);have wk:W1 a.tk=some (.lst ((h.taken.map PyData.int).map .im)):=(k1.at_ hA).get 5 rfl;have hi4:i < 4:=by omega
  have ei:([0,1,2,3]:wn).take (i+1)=([0,1,2,3]:wn).take i++[((i:Nat):Int)]:=by
   obtain rfl | rfl | rfl | rfl:i=0\/i=1\/i=2\/i=3:=by omega
   all_goals rfl
  rw[Int.zero_add];generalize ((i:Nat):Int)=k at ei
  ext
  refine gm (fun i ys W'=>W'=W1/\ys=(List.replicate ((h.rings.take i).filter fun r=>decide (r.2=k)&&decide (r.1<=au)).length (PyData.int 1)).map .im) (by rw[aav];exact aaQ (bK @0)) ⟨rfl,rfl⟩ ?_ ?_
  .rintro j d ys _ hd _ ⟨rfl,rfl⟩;rw[aaz]at hd;obtain⟨r,hr,rfl⟩:=aaB.mp hd;have et:h.rings.take (j+1)=h.rings.take j++[r]:=by rw[aaU,hr];rfl
   unfold pairD;rw[et,aa8]
   ext
   refine fi (fun e1=>?_) (fun e1=>?_)
   .ext
    refine fi (fun e2=>?_) (fun e2=>?_)
    .ext
     exact⟨rfl,by simp[show r.2=k from e1,show r.1<=au from e2,adf]⟩
    .exact⟨rfl,by simp[show ¬ r.1<=au from e2]⟩
   .exact⟨rfl,by simp[show ¬ r.2=k from e1]⟩
  .rintro ys _ ⟨rfl,rfl⟩;rw[aav,aa0,<- pA];refine cj ?_
   ext
   refine gn (fun i ys W'=>W'=_/\ys=(List.replicate ((h.taken.take i).count k) (PyData.int 1)).map .im) (by rw[aav];exact aaQ (bK @0)) ⟨rfl,rfl⟩ (by rintro _ _ _ ⟨rfl,_⟩;exact wk) ?_ ?_
   .rintro j d ys _ hd _ ⟨rfl,rfl⟩;rw[aaz]at hd;obtain⟨r,hr,rfl⟩:=aaB.mp hd;have et:h.taken.take (j+1)=h.taken.take j++[r]:=by rw[aaU,hr];rfl
    rw[et,adJ]
    ext
    refine fi (fun e1=>?_) (fun e1=>?_)
    .ext
     exact⟨rfl,by simp[show r=k from e1,adf]⟩
    .exact⟨rfl,by simp[show ¬ r=k from e1]⟩
   .rintro ys _ ⟨rfl,rfl⟩;rw[aav,aa0];refine cj ?_
    ext
    rw[acx,acx]
    ext
    rw[ei];refine fi (fun e1=>?_) (fun e1=>?_)
    .ext
     refine dS wp (by rw[aav,aav];exact bK (aaE (abK ..) (by rw[abc];omega))) fun W2 w2 f2=>?_;exact⟨_,_,rfl,k1.old hp f2,by rw[w2,aa8];simp[show h.taken.count k < (bZ h.rings au).count k by omega]⟩
    .exact⟨_,_,rfl,k1,by rw[wp,aa8];simp[show ¬ h.taken.count k < (bZ h.rings au).count k by omega]⟩
 .clear wp k1;rintro Y W1 ⟨u3,u4,rfl,k1,wp⟩
  ext
  exact q W1 p k1 hp wp
theorem FW(F:cR K "_law_begin" "_law_begin" yN f fd)(fc:mg "list"=none):ba P w K mg base df 1 f fd ["state"] (kD K (bN Bg) FU):=by
 exact_mod_cast F.GW tR cn (fun aK W R zz=>by obtain⟨a,e,_⟩:=zz; rw[e];rfl);refine⟨_,!("aeaC**sDdJajak0afdJajcKgdfc.abR aaak0afagdJajcKgdfc.abR aaak0afagdJajak0afdJajak0afAgaeaC**sDdJajafdJajafdJajafdJajbDagdJajbDagdJajbDagdJajafAgaeeMj1*.adG *IK1aa2agaiax1",1,tR.nd,2,tR.nd,PySem.F.plainAttrs_dict,PySem.F.type_dict_update),?_⟩
 clear hu;symm;refine fun O W=>⟨_,inferInstance,?_⟩;rintro aK R ⟨h,rfl,e1,e2,e3,e4,e5,e6,e7,hs,q⟩;refine cA [_,none,none] rfl ?_;have l8:=hs.s8;have GY:=hs.IM
 ext
 intro p hp;have k1:Ks W (aG W p (.dk [])):=Ks.new (fun _ _ e=>e) hp fun z hz=>aB hz;have a1:At (aG W p (.dk [])) [(p,.dk [])]:=At.cons (L:=[]) ⟨List.nodup_nil,fun _ h=>by cases h⟩ hp (fun z hz=>aB hz) av
 ext
 refine sC (jG fun s W2 mO w2 f2=>?_);have ns:=k1.no mO;replace k1:=k1.new mO f2;replace a1:=a1.cons mO f2 w2
 ext
 refine sC (jG fun c W3 XY w3 f3=>?_);have nc:=k1.no XY;replace k1:=k1.new XY f3;replace a1:=a1.cons XY f3 w3
 ext
 refine⟨a1.get 2 rfl,by show 5<=15;decide,?_⟩;generalize hd:gG ([]:List (Key×DV)) _=dd;have k2:Ks W (aG W3 p (.dk dd)):=k1.old hp fun z hz=>aB hz;have a2:At (aG W3 p (.dk dd)) [(c,mI (h.st.cells.map .int)),(s,mI (h.st.aL.map .int)),(p,.dk dd)]:=a1.set 2 rfl;generalize aG W3 p (.dk dd)=W4 at k2 a2
 ext
 intro m hm;have k3:Ks W (aG W4 m (.dk [])):=k2.new hm fun z hz=>aB hz;have a3:=a2.cons (W':=aG W4 m (.dk [])) hm (fun z hz=>aB hz) av;have km:=k2.no hm
 ext
 refine gF (aaY _) fun ow W5 ho wo fo=>?_;have k4:=k3.new ho fo;have a4:=a3.cons ho fo wo
 ext
 refine gF (aaY _) fun la W6 hl wl fl=>?_;have k5:=k4.new hl fl;have a5:=a4.cons hl fl wl
 ext
 refine gF (aaY _) fun tk W7 ht wt ft=>?_;have k6:=k5.new ht ft;have a6:=a5.cons ht ft wt
 ext
 refine⟨a6.get 3 rfl,by show 7<=15;decide,?_⟩;generalize hd2:gG ([]:List (Key×DV)) _=d2;have k7:Ks W (aG W7 m (.dk d2)):=k6.old km fun z hz=>aB hz;have a7:=a6.set (c':=.dk d2) 3 rfl;generalize aG W7 m (.dk d2)=W8 at k7 a7;have w8:=a7.get 6 rfl
 ext
 have jx:p≠m:=a7.key 3 rfl (j:=6) rfl @1;refine OS jx (a7.get 6 rfl) (a7.get 3 rfl) (kvs':=nj ⟨p,s,c,ow,la,tk⟩ h) (by rw[<- hd,<- hd2];show 12<=sizeLine;decide) (by rw[<- hd,<- hd2];unfold nj;rw[e1,e2,e3,e7];exact FT (a:=⟨p,s,c,ow,la,tk⟩)) fun W9 w9 f9=>?_;have k8:=k7.old hp f9;have a8:=a7.iB 6 rfl f9 w9
 ext
 have a9:=(a8.perm (List.reverse_perm _).symm).sub (L':=[(p,.dk (nj ⟨p,s,c,ow,la,tk⟩ h)),(s,mI (h.st.aL.map .int)),(c,mI (h.st.cells.map .int)),(ow,.lst []),(la,.lst []),(tk,.lst [])]) (.cons₂ _ (.cons₂ _ (.cons₂ _ (.cons _ (.refl _)))));refine q W9 ⟨p,s,c,ow,la,tk⟩ k8 (fun x hx=>?_) (by unfold cQ;rw[e4,e5,e6];exact a9);simp only[cQ,aaA,aby,ac1]at hx;rcases hx with rfl | rfl | rfl | rfl | rfl | rfl
 .exact hp
 .exact ns
 .exact nc
 .exact k3.no ho
 .exact k4.no hl
 .exact k5.no ht
end
abbrev FX:Stmt:=top 49
theorem mq:az ["mill", "rings", "terms", "now", "event", "rows", "row", "touched", "due", "wrote"] ["mill", "rings", "terms", "now", "event"] (defScope FX):=by ac_rfl
noncomputable def kE(h:HM):PyData:=.tuple [.int h.width,.int h.room,.int h.queue,.int h.cV,.int h.longest]
noncomputable def Lv:wO:=fun as W R=>∃(a:vV) (h:HM) (b pl:Int) (t:sU),as=[.im (bz h.rows h.bI),.im (.list (h.rings.map pairD)),.im (kE h),.pt a.p,.im (eB (.fin b pl t))]/\eV h/\1<=h.width/\tj t.pY/\At W (cQ a h)/\∀ W',Ks W W'->R (.im (mW (h.ik b pl t))) W'
noncomputable def gJ:Rw->List Int
 | .put d _=>[d]
 | .op _ d a b=>[d,a,b]
 | .mv _ d a _=>[d,a]
 | .go a _=>[a]
 | .one _=>[]
theorem FY{r:Rw}(ok:iZ m r)(x:Int):fm r x=decide (x∈gJ r):=by
 have k:∀(x:Str) (ps:wv),(ck.lookup x).getD []=ps->∀ r,Jf r=x->qa r=ps:=fun x ps e r h=>by unfold qa;rw[h,e]
 have n1:¬ ("d":Str) = "a":=by decide
 have n2:¬ ("d":Str) = "b":=by decide
 have n3:¬ ("worth":Str) = "a":=by decide
 have n4:¬ ("worth":Str) = "b":=by decide
 have n5:¬ ("n":Str) = "a":=by decide
 have n6:¬ ("n":Str) = "b":=by decide
 have n7:¬ ("a":Str) = "d":=by decide
 have n8:¬ ("b":Str) = "d":=by decide
 have n9:¬ ("n":Str) = "d":=by decide
 have m1:¬ ("p":Str) = "a":=by decide
 have m2:¬ ("p":Str) = "b":=by decide
 have m3:¬ ("p":Str) = "d":=by decide
 have m4:¬ ("b":Str) = "a":=by decide
 have fin:∀{c:Bool} {p:Prop} [Decidable p],(c=true↔p)->c=decide p:=fun{c p _} h=>by cases c<;>simp_all
 refine fin ?_;unfold fm;cases r with
 | put d v=>rw[k "put" [("d":Str), "worth"] (by decide +kernel) _ rfl];simp[cf,dB,lp,gJ,n1,n2,n3,n4]
 | op y d a b =>
  have e:qa (.op y d a b)=[("d":Str), "a", "b"]:=by
   obtain⟨rfl | rfl | rfl,_⟩:=ok
   .exact k "sum" _ (by decide +kernel) _ rfl
   .exact k "mul" _ (by decide +kernel) _ rfl
   .exact k "less" _ (by decide +kernel) _ rfl
  rw[e];simp[cf,dB,lp,gJ,n1,n2,n7,n8,m4]
  by_cases e:b=a<;>simp[e]<;>omega
 | mv y d a n =>
  obtain⟨rfl | rfl,_⟩:=ok
  .rw[k "take" [("d":Str), "a", "n"] (by decide +kernel) _ rfl];simp[cf,dB,lp,gJ,n1,n2,n5,n6];omega
  .rw[k "lay" [("b":Str), "a", "n"] (by decide +kernel) _ rfl];simp[cf,dB,lp,gJ,n1,n2,n5,n6,n7,n8,n9,m4];by_cases e:a=d<;>simp[e]
 | go a p=>rw[k "go" [("a":Str), "p"] (by decide +kernel) _ rfl];simp[cf,dB,lp,gJ,n7,m1,m2,m3]
 | one y=>obtain rfl | rfl | rfl:=ok<;>(rw[k _ [] (by decide +kernel) _ rfl];simp[cf,dB,lp,gJ])
theorem FZ{r:Rw}(ok:iZ m r):vH r=decide (Jf r∈([("mul":Str), "take"])):=by
 cases r with
 | put d v=>rfl
 | op y d a b=>rcases ok.1 with rfl | rfl | rfl<;>rfl
 | mv y d a n=>rcases ok.1 with rfl | rfl<;>rfl
 | go a p=>rfl
 | one y=>rcases ok with rfl | rfl | rfl<;>rfl
theorem cW(ds:wE):PyData.eqv (.list ds) (.list [])=decide (ds=[]):=by cases ds<;>rfl
theorem lB:∀ os:List (Int×Int×Int×Int),PyData.canLayAll0 (os.map dD)=true
 | []=>rfl
 | o::r=>by rw[aaM];unfold PyData.canLayAll0;rw[lB r];rfl
theorem wR{x:J}{r:List J}:jb (x::r) 0=some x:=show jb (x::r) ((0:Nat):Int)=_ from bY rfl
theorem Ga{a b c:j3}{Y:bW}{nx bk ct:bW->Wd->Prop}{rt:DV->Wd->Prop}(N:bW->Wd->Prop)(h1:∀ k:bW->Wd->Prop,(∀ Y W,N Y W->k Y W)->j4 a b ⟨k,rt,bk,ct⟩ Y W)(h2:∀ Y W,N Y W->c ⟨nx,rt,bk,ct⟩ Y W):j4 a (j4 b c) ⟨nx,rt,bk,ct⟩ Y W:=h1 _ h2
theorem pB{c:nF}{a b:j3}{De:hZ}{Y:bW}(N:Bool->Wd->Prop)(h1:∀ Q:Bool->Wd->Prop,(∀ k W',N k W'->Q k W')->c Y W Q)(h2:∀ k W',N k W'->if k=true then a De Y W' else b De Y W'):NL c a b De Y W:=h1 _ h2
def Lw:Rw->Int
 | .put _ _=>2
 | .go _ _=>2
 | .mv _ _ _ _=>3
 | _=>4
theorem Jz{r:Rw}(ok:iZ m r):(iN (gG ([]:List (Key×DV)) [(.inr "put",.im (.int 2)),(.inr "go",.im (.int 2)),(.inr "take",.im (.int 3)),(.inr "lay",.im (.int 3))]) (.inr (Jf r))).getD (.im (.int 4))=.im (.int (Lw r)):=by
 cases r with
 | put d v=>kernel_rfl
 | op y d a b=>obtain⟨rfl | rfl | rfl,_⟩:=ok<;>kernel_rfl
 | mv y d a n=>obtain⟨rfl | rfl,_⟩:=ok<;>kernel_rfl
 | go a p=>kernel_rfl
 | one y=>obtain rfl | rfl | rfl:=ok<;>kernel_rfl
theorem Py{r:Rw}(ok:iZ m r):cutD (PyData.str (Jf r)::(lp r).map PyData.int) (some 1) (some (Lw r))=(gJ r).map PyData.int:=by cases r<;>rfl
section
variable {K:zn}
theorem JA(F:cR K "_law_end_cause" "_law_end_cause" FX f fd)(gh:Dn P w K mg base 1 "_law_due" f1 d1 ["row", "now"] (kD K (bN Bg) FR))(cI:Dn P w K mg base 1 "_law_waits" f2 d2 ["rings", "now", "beat"] (kD K (bN Bg) mn))(fc:mg "list"=none)(bh:mg "len"=none):ba P w K mg base df 2 f fd ["mill", "rings", "terms", "now", "event"] (kD K (bN Bg) Lv):=by
 exact_mod_cast F.GW mq cn (fun aK W R zz=>by obtain⟨a,b,c,d,g,e,_⟩:=zz; rw[e];rfl);refine⟨_,!("aeaC**ak0afaeaTaAaJhuaMhr3ajbEbjbh.aa4 aa5agaiaxajawaeaTaAbMhuak4afaMhr3ajaiaxajawaeaTiT.w_and aAaJhuak4afaMhr3ajbJaAj9aMhr3ajak2afaiaxajawaeaTiT.w_and gwkGaMhr3aj.w_and aAj9aMhr3ajak2afbJaAbMhuaqcIhraa1aa3aaak4afagbDagaiaxajawaeaC**ak5aMhr3ajaeaC**cKgdfc.abR aajZlj6eOafeOj1***IJsDdJajafdJajafdJajafdJajafAgaaak6afaaafagagaeaTaAbMhu&**^cXaMhr3aj?aX*~?fJpSjhhuak0af1?0bDagaiaxajawaeaC**aqghhraa6aa3agaeaC**ak4afaeaTiT.w_or aAbMhuzI8zI9mEiT.w_and gE8bJaAbMhujZlj8fueOafjZlj9fueOafaiaxajawaeaTgW8aiaxcYawaeaTiT.w_and gWak9afbJpSlWhuak6afbrcz.rfl aiaxajawaeaTiT.w_and gEak9afbJaAbMhuak9afak8afaiaxajawaeaTiT.w_or iT.w_and gWak9afbJaAj9bEbjbh.aa4 aaaMhr3ajagak2afmEiT.w_and aAaJhuak8afajbJaAj9bEbjbh.aa4 aaaMhr3ajagak2afaiaxajawaiaxcY",5,mq.nd,6,mq.nd,7,mq.nd,PySem.F.plainAttrs_dict,PySem.F.slot_dict_get,PySem.F.type_dict_get,["one", "touched"],[none,some 7],0,8,mq.nd,9,mq.nd),?_⟩
 clear hu;symm;refine fun O W=>⟨_,inferInstance,?_⟩;rintro aK R ⟨a,h,b,pl,t,rfl,hk,hw,ht,hA,q⟩;refine cA [_,_,_,_,_,none,none,none,none,none] rfl ?_;have w0:=fg hA;have k0:Ks W W:=fun _ _ e=>e;have q0:=fun W' (k:Ks W W') x (e:h.ik b pl t=x)=>show R (.im (mW x)) W' from e▸q W' k;unfold HM.ik at q0
 ext
 refine ao ?_
 ext
 rw[aav];refine fi (fun z=>?_) (fun z=>?_)
 .rw[aaO z]at q0
  ext
  exact q0 _ k0 _ rfl
 rw[aaD z]at q0;have Pz:=hk.st.p0;have Tj:=hk.st.p1;obtain⟨vW,lI⟩:=ff hk.jr Pz @0
 ext
 refine ao ?_
 ext
 refine oI (fun z=>?_) (fun z=>?_)
 .rw[aaO z]at q0
  ext
  exact q0 _ k0 _ rfl
 rw[aaD (by simpa using z)]at q0
 ext
 refine ao ?_;refine pB (fun k W'=>k=decide (h.width<=h.endsAt b)/\W=W') (fun Q jn=>?_) ?_
 .have jn:=fun k (e:k=decide (h.width<=h.endsAt b))=>jn k W ⟨e,rfl⟩;unfold HM.endsAt at jn
  ext
  refine fi (fun z=>?_) (fun z=>?_)
  .rw[aaO z]at jn
   ext
   exact jn _ rfl
  .rw[aaD z]at jn;exact jn _ (aaJ @0).symm
 rintro k _ ⟨rfl,rfl⟩;refine fi (fun z=>?_) (fun z=>?_)
 .rw[aaO z]at q0
  ext
  exact q0 _ k0 _ rfl
 rw[aaD z]at q0
 ext
 refine ao ?_;refine pB (fun k W'=>k=decide (h.aE b=true/\h.cV<=h.aF)/\Ks W W') (fun Q jn=>?_) ?_
 .have j0:=fun k (e:k=decide (h.aE b=true/\h.cV<=h.aF))=>jn k W ⟨e,fun _ _ e=>e⟩;unfold HM.aE at jn j0
  ext
  cases es:h.st.cJ with
  | true =>
   ext
   exact j0 _ (by rw[es];simp)
  | false =>
   ext
   refine fi (fun z=>?_) (fun z=>?_)
   .ext
    refine cE ⟨a,h,b,rfl,hk.rl,hk.tk,hA,fun W2 p k2 gp wp=>?_⟩;refine⟨_,fv wp,eJ _,_,rfl,jn _ _ ⟨?_,k2⟩⟩;rw[cW,es,acR];simp[z,ado]
   .exact j0 _ (aaJ fun c=>z c.2).symm
 rintro k W2 ⟨rfl,k2⟩;refine fi (fun z=>?_) (fun z=>?_)
 .rw[aaO z]at q0
  ext
  exact q0 _ k2 _ rfl
 rw[aaD z]at q0;have fZ:=k2.at_ hA;clear w0;have w2:=fg fZ;have Pl:=gA lI hk.st.sw hk.st.cw;unfold HM.fO HM.row at q0;refine xW ?_;refine Ga (fun Y W'=>Ks W W'/\Y=[some (.im (bz h.rows h.bI)),some (.im (.list (h.rings.map pairD))),some (.im (kE h)),some (.pt a.p),some (.im (eB (.fin b pl t))),some (.im (.tuple (h.rows.map dA))),some (.im (dA (rowOf h.rows h.st.place))),some (.im (.list ((gJ (rowOf h.rows h.st.place)).map .int))),none,none]) (fun kk jn=>?_) ?_
 .have er:=(lq lI).1
  ext
  refine bO vW ?_;generalize rowOf h.rows h.st.place=r at *;rw[er]at jn ⊢
  ext
  intro p hp;have k3:∀ c,Ks W (aG (aG W2 p (.dk [])) p c):=fun c=>k2.trans (Ks.new (fun _ _ e=>e) hp fun z hz=>by rw[aB hz,aB hz])
  ext
  refine⟨av,by show 4<=15;decide,?_⟩
  ext
  refine K5 av ?_
  ext
  refine bO wR ?_
  ext
  refine OR av rfl (Jz lI) ?_
  ext
  refine⟨_,rfl,?_⟩;rw[Py lI];refine sC (cj ?_)
  ext
  exact jn _ _ ⟨k3 _,rfl⟩
 generalize rowOf h.rows h.st.place=r at *;clear w2 fZ k2;rintro Y W3 ⟨k3,rfl⟩;have j7:=k3.at_ hA;have w3:=fg j7;have wo:W3 a.ow=some (.lst ((h.aZ.map dD).map .im)):=j7.get 3 rfl;have MY:=hk.ow;refine ao ?_
 ext
 refine gn (fun i ys W'=>W'=W3/\ys=(((h.aZ.take i).filter fun o=>decide (o.2.1∈gJ r)).map dD).map .im) (by rw[aav];exact aaQ (bK @0)) ⟨rfl,rfl⟩ (by rintro _ _ _ ⟨rfl,_⟩;exact wo) ?_ ?_
 .rintro j d ys _ hd _ ⟨rfl,rfl⟩;rw[aaz]at hd;obtain⟨o,ho,rfl⟩:=aaB.mp hd;have et:h.aZ.take (j+1)=h.aZ.take j++[o]:=by rw[aaU,ho];rfl
  rw[et,aa8];unfold dD
  ext
  refine jI (neg:=false) tI ?_
  ext
  refine fi (fun e1=>?_) (fun e1=>?_)
  .ext
   exact⟨rfl,by simp[e1,dD]⟩
  .exact⟨rfl,by simp[e1,dD]⟩
 rintro ys _ ⟨rfl,rfl⟩;rw[aav,aa0];refine cj ?_;refine⟨_,bR,lB _,_,rfl,?_⟩;rw[cW];have ea:(h.aZ.any (fun o=>fm r o.2.1)=true)↔(¬ (h.aZ.filter fun o=>decide (o.2.1∈gJ r)).map dD=[]):=by
  rw[adp,abB,abZ];simp[FY lI]
 refine oI (fun z=>?_) (fun z=>?_)
 .rw[aaO (ea.mpr z)]at q0
  ext
  exact q0 _ k3 _ rfl
 rw[aaD fun c=>ea.mp c z]at q0;clear ea;refine xW ?_;refine Ga (fun Y W'=>Ks W W'/\Y=[some (.im (bz h.rows h.bI)),some (.im (.list (h.rings.map pairD))),some (.im (kE h)),some (.pt a.p),some (.im (eB (.fin b pl t))),some (.im (.tuple (h.rows.map dA))),some (.im (dA r)),some (.im (.list ((gJ r).map .int))),some (.im (gz (r.wrote h.st.aL h.st.cells))),some (.im (iA t))]) (fun kk jn=>?_) ?_
 .ext
  refine cE ⟨r,_,_,a,h,rfl,lI,j7,hk.st,fun W4 k4=>?_⟩
  ext
  exact jn _ _ ⟨k3.trans k4,rfl⟩
 clear w3 wo j7 k3;rintro Y W4 ⟨k4,rfl⟩;have w4:=fg (k4.at_ hA);have wo:W4 a.ow=some (.lst ((h.aZ.map dD).map .im)):=(k4.at_ hA).get 3 rfl;have wl:W4 a.la=some (.lst ((h.laid.map eY).map .im)):=(k4.at_ hA).get 4 rfl;have tw:=tJ Pl;generalize hwt:r.wrote h.st.aL h.st.cells=wr at *;refine ao ?_;refine pB (fun k W'=>k=decide (t.pY≠wr.told.pY)/\W4=W') (fun Q jn=>?_) ?_
 .have jn:=fun k (e:k=decide (t.pY≠wr.told.pY))=>jn k W4 ⟨e,rfl⟩;rcases wr with _ | ⟨k,x,v⟩<;>rcases t with _ | ⟨k2,x2,v2⟩<;>dsimp only[gz,iA]
  .ext
   exact jn _ @2
  .ext
   exact jn _ @2
  .ext
   exact jn _ @2
  .ext
   refine⟨_,rfl,?_⟩
   ext
   refine⟨_,rfl,?_⟩;refine Ln (a:=some (k,x)) (b:=some (k2,x2)) tw ht ⟨_,rfl,jn _ ?_⟩;rw[decide_not];congr 1;exact adT.mpr eq_comm
 rintro k _ ⟨rfl,rfl⟩;refine fi (fun z=>?_) (fun z=>?_)
 .rw[aaO z]at q0
  ext
  exact q0 _ k4 _ rfl
 rw[aaD z]at q0;have z:=acH z
 ext
 refine ao ?_;rcases t with _ | ⟨k,x,v⟩
 .obtain rfl:wr=none:=by
   cases wr with
   | none=>rfl
   | some y=>cases z
  dsimp only[gz,iA]
  ext
  exact q0 _ k4 _ rfl
 obtain⟨v',rfl⟩:∃ v',wr=some (k,x,v'):=by
  cases wr with
  | none=>cases z
  | some y=>obtain⟨k',x',v'⟩:=y;cases z;exact⟨v',rfl⟩
 have er:=(lq lI).1;rw[er];dsimp only[gz,iA];cases v with
 | none =>
  dsimp only at q0
  ext
  refine ao ?_
  ext
  refine bO wR ?_
  ext
  rw[FZ lI]at q0;refine oI (fun y=>?_) (fun y=>?_)
  .rw[aaO (aaJ y)]at q0
   ext
   exact q0 _ k4 _ rfl
  rw[aaD (by rw[aa2 y];decide)]at q0
  ext
  refine ao ?_
  ext
  refine ao ?_
  ext
  rw[aav,aav];refine fi (fun e=>?_) (fun e=>?_)
  .rw[aaO e]at q0
   ext
   exact q0 _ k4 _ rfl
  rw[aaD e]at q0
  ext
  refine fi (fun ek=>?_) (fun ek=>?_)
  .ext
   rw[aav,aav];refine fi (fun e=>?_) (fun e=>?_)
   .rw[aaO ⟨ek,e⟩]at q0
    ext
    exact q0 _ k4 _ rfl
   .rw[aaD (fun z=>e z.2)]at q0
    ext
    exact q0 _ k4 _ rfl
  .rw[aaD (fun z=>ek z.1)]at q0
   ext
   exact q0 _ k4 _ rfl
 | some v =>
  dsimp only[qO]at q0 ⊢
  ext
  refine ao ?_
  ext
  refine ao ?_
  ext
  refine oI (fun y=>?_) (fun y=>?_)
  .rw[aaO (by simpa using fun c=>y c.symm)]at q0
   ext
   exact q0 _ k4 _ rfl
  rw[aaD (by simpa using y.symm)]at q0
  ext
  refine ao ?_
  ext
  refine fi (fun ek=>?_) (fun ek=>?_)
  .ext
   rw[aav,aav];refine fi (fun e=>?_) (fun e=>?_)
   .rw[aaO ⟨ek,e⟩]at q0
    ext
    exact q0 _ k4 _ rfl
   .rw[aaD (fun z=>e z.2)]at q0
    ext
    exact q0 _ k4 _ rfl
  .rw[aaD (fun z=>ek z.1)]at q0
   ext
   exact q0 _ k4 _ rfl
end
abbrev yP:Stmt:=top 50
theorem lC:az ["mill", "rings", "terms", "now", "event", "due"] ["mill", "rings", "terms", "now", "event"] (defScope yP):=by ac_rfl
noncomputable def Gb:wO:=fun as W R=>∃(a:vV) (h:HM) (e:Ev),as=[.im (bz h.rows h.bI),.im (.list (h.rings.map pairD)),.im (kE h),.pt a.p,.im (eB e)]/\eV h/\1<=h.width/\lx e/\At W (cQ a h)/\∀ W',Ks W W'->R (.im (mW (h.aU e))) W'
theorem jP:∀{J:Type} (f:J->PyData) (l:List J),(∀ x∈l,(f x).canLay0=true)->PyData.canLayAll0 (l.map f)=true
 | _,_,[],_=>rfl
 | _,f,x::r,h=>by
  rw[aaM];unfold PyData.canLayAll0;rw[h x aaP,jP f r fun y hy=>h y (aaI _ hy)];rfl
section
variable {K:zn}
theorem Gd(F:cR K "_law_cause" "_law_cause" yP f fd)(nk:Dn P w K mg base 2 "_law_end_cause" f1 d1 ["mill", "rings", "terms", "now", "event"] (kD K (bN Bg) Lv))(cI:Dn P w K mg base 1 "_law_waits" f2 d2 ["rings", "now", "beat"] (kD K (bN Bg) mn)):ba P w K mg base df 3 f fd ["mill", "rings", "terms", "now", "event"] (kD K (bN Bg) Gb):=by
 exact_mod_cast F.GW lC cn (fun aK W R zz=>by obtain⟨a,b,c,e,_⟩:=zz; rw[e];rfl);refine⟨_,!("aeaTaAgLak4afaMhr3ajaiaxajawaeaTaAbMhu&**^cXaMhr3aj?aX*~?fJaAgLbbbfak0afak2afak1af?0bDagaiaxajawaeaTaAaJhuak4afajaiaxaqnkhraa0aa1aa2aa3aa4agawaeaC**bDagaeaTaAaJhuak4afajai%***^*cXaMhr3aj?aX*~?fJaAaJhuak0afak1af?braaak0afaaak0afagaiaTaAaJhuak4afajaiaC**jZjcaMhr3ajfueOafai%***^*cXaqcIhraa1aa3aaak4afag?aX*~?fJaAaJhu0ak1af?braa0agaeaTiT.w_or aAaJhu5bDagmEaAbMhuakak5afafak4afaiaxajawaeaTiT.w_and aAaJhuak4afajbJkGaMhr3ajaiaxajawaeaTiT.w_and aAaJhuak4afajbJaAgLakaqcIhraa1aa3aaak4afagafak4afaiaxajawaeaTiT.w_and aAaJhuak4afajbJaAbMhuakak5afafak4afaiaxajawaeaTiT.w_and aAbMhuak4afajbJaAbMhuakak5afHGrHafak4HGrHafaiaxajawaiaxcY",["one", "event", "terms"],[none,some 4,some 2],0,5,lC.nd,5,["one", "event"],[none,some 4],lC.nd,0,5,lC.nd,5,["k", "event"],[none,some 4],lC.nd,0),?_⟩
 clear hu;symm;refine fun O W=>⟨_,inferInstance,?_⟩;rintro aK R ⟨a,h,e,rfl,hk,hw,ht,hA,q⟩;refine cA [_,_,_,_,_,none] rfl ?_;have w0:=fg hA;have wo:W a.ow=some (.lst ((h.aZ.map dD).map .im)):=hA.get 3 rfl;have wl:W a.la=some (.lst ((h.laid.map eY).map .im)):=hA.get 4 rfl;have MY:=hk.ow;have k0:Ks W W:=fun _ _ e=>e;have q0:=fun W' (k:Ks W W') x (e:h.aU e=x)=>show R (.im (mW x)) W' from e▸q W' k;unfold HM.aU at q0;have e1:∃(x:Str) (rr:wE),eB e=.tuple (.str x::.int e.au::rr):=by cases e<;>exact⟨_,_,rfl⟩
 obtain⟨x,rr,ex⟩:=e1;refine Ga (fun Y W'=>(¬ e.au < h.au/\¬ h.aZ.any (fun o=>decide (o.2.2.2+h.longest < e.au))=true)/\W=W'/\Y=[some (.im (bz h.rows h.bI)),some (.im (.list (h.rings.map pairD))),some (.im (kE h)),some (.pt a.p),some (.im (eB e)),none]) (fun kk jn=>?_) ?_
 .rw[ex]at jn ⊢;refine ao ?_
  ext
  refine bO (show jb (PyData.str x::PyData.int e.au::rr) ((1:Nat):Int)=some (.int e.au) from bY rfl) ?_
  ext
  refine fi (fun z=>?_) (fun z=>?_)
  .rw[aaO z]at q0
   ext
   exact q0 _ k0 _ rfl
  rw[aaD z]at q0
  ext
  refine gn (fun i ys W'=>W=W'/\ys=(((h.aZ.take i).filter fun o=>decide (o.2.2.2+h.longest < e.au)).map dD).map .im) (by rw[aav];exact aaQ (bK @0)) ⟨rfl,rfl⟩ (by rintro _ _ _ ⟨rfl,_⟩;exact wo) ?_ ?_
  .rintro j d ys _ hd _ ⟨rfl,rfl⟩;rw[aaz]at hd;obtain⟨o,ho,rfl⟩:=aaB.mp hd;have et:h.aZ.take (j+1)=h.aZ.take j++[o]:=by rw[aaU,ho];rfl
   rw[et,aa8];unfold dD
   ext
   refine bO (show jb (PyData.str x::PyData.int e.au::rr) ((1:Nat):Int)=some (.int e.au) from bY rfl) ?_
   ext
   refine fi (fun e1=>?_) (fun e1=>?_)
   .ext
    exact⟨rfl,by simp[e1,dD]⟩
   .exact⟨rfl,by simp[e1,dD]⟩
  rintro ys _ ⟨rfl,rfl⟩;rw[aav,aa0];refine cj ?_;refine⟨_,bR,lB _,_,rfl,?_⟩;rw[cW];have ea:(h.aZ.any (fun o=>decide (o.2.2.2+h.longest < e.au))=true)↔(¬ (h.aZ.filter fun o=>decide (o.2.2.2+h.longest < e.au)).map dD=[]):=by
   rw[adp,abB,abZ];simp
  refine oI (fun z=>?_) (fun z=>?_)
  .rw[aaO (ea.mpr z)]at q0
   ext
   exact q0 _ k0 _ rfl
  .exact jn _ _ ⟨⟨‹_›,fun c=>ea.mp c z⟩,rfl,rfl⟩
 rintro Y _ ⟨⟨z1,z2⟩,rfl,rfl⟩;rw[aaD z1,aaD z2]at q0;clear ex z1 z2 MY;refine ao ?_;cases e with
 | fin b pl t =>
  ext
  refine cE ⟨a,h,b,pl,t,rfl,hk,hw,ht,hA,fun W2 k2=>?_⟩;exact q0 _ k2 _ rfl
 | dQ b n v =>
  ext
  refine cO (ds:=[]) (aaY _) ?_
  ext
  refine ao ?_
  ext
  refine gn (fun i ys W'=>W=W'/\ys=(((h.aZ.take i).filter fun o=>decide (o.1=n)).map fun o=>PyData.tuple [.int o.1,.int o.2.2.1]).map .im) (by rw[aav];exact aaQ (bK (by have:=hk.ow;omega))) ⟨rfl,rfl⟩ (by rintro _ _ _ ⟨rfl,_⟩;exact wo) ?_ ?_
  .rintro j d ys _ hd _ ⟨rfl,rfl⟩;rw[aaz]at hd;obtain⟨o,ho,rfl⟩:=aaB.mp hd;have et:h.aZ.take (j+1)=h.aZ.take j++[o]:=by rw[aaU,ho];rfl
   rw[et,aa8];unfold dD
   ext
   refine fi (fun e1=>?_) (fun e1=>?_)
   .ext
    refine aH (ds:=[.int o.1,.int o.2.2.1]) (by show 2<=sizeLine;decide) ?_;exact⟨rfl,by simp[e1]⟩
   .exact⟨rfl,by simp[e1]⟩
  rintro ys _ ⟨rfl,rfl⟩;rw[aav,aa0];refine cj ?_;have q1:=fun x (e:h.gg n v=x)=>q0 W k0 x e;unfold HM.gg at q1;have mem:∀ o∈h.aZ.filter fun o=>decide (o.1=n),o.1=n:=fun o ho=>by simpa using (abg.mp ho).2
  generalize (h.aZ.filter fun o=>decide (o.1=n))=l at *
  ext
  refine ao ?_
  ext
  refine⟨_,bR,jP _ _ fun _ _=>rfl,_,rfl,?_⟩;rw[cW];cases l with
  | nil =>
   ext
   exact q1 _ rfl
  | cons o l =>
   have en:=mem o aaP;refine kl @2 ?_
   ext
   refine gN wR ?_
   ext
   refine xJ en ?_
   ext
   refine ao ?_
   ext
   refine ao ?_
   ext
   refine ao ?_
   ext
   refine ao ?_
   ext
   refine gN wR ?_
   ext
   refine oI (fun z=>?_) (fun z=>?_)
   .ext
    exact q1 _ (aaD z)
   .ext
    exact q1 _ (aaO z)
 | down b n c v =>
  ext
  refine cO (ds:=[]) (aaY _) ?_
  ext
  refine ao ?_
  ext
  refine uY wl ?_;have q1:=fun x (e:h.ip n c v=x)=>q0 W k0 x e;unfold HM.ip at q1;cases hl:h.laid with
  | nil =>
   rw[hl]at q1;refine cj (ds:=[]) ?_
   ext
   refine ao ?_
   ext
   refine⟨_,bR,rfl,_,rfl,?_⟩;rw[cW]
   ext
   exact q1 _ rfl
  | cons o l =>
   rw[hl]at q1;rw[show cutD (((o::l).map eY).map DV.im) none (some 1)=[eY o].map DV.im from vp (k:=0)];refine cj ?_
   ext
   refine ao ?_
   ext
   refine⟨_,bR,rfl,_,rfl,?_⟩;rw[cW];refine kl @2 ?_
   ext
   refine gN wR ?_;unfold eY
   ext
   dsimp only at q1;refine oI (fun z=>?_) (fun z=>?_)
   .ext
    exact q1 _ (aaO z)
   rw[aaD (fun y=>y z)]at q1
   ext
   refine ao ?_
   ext
   refine ao ?_
   ext
   refine ao ?_
   ext
   refine gN wR ?_
   ext
   refine oI (fun z=>?_) (fun z=>?_)
   .ext
    exact q1 _ (aaO z)
   rw[aaD (fun y=>y z)]at q1
   ext
   refine ao ?_
   ext
   refine gN wR ?_
   ext
   refine oI (fun z=>?_) (fun z=>?_)
   .ext
    exact q1 _ (aaD z)
   .ext
    exact q1 _ (aaO z)
 | eE b k =>
  have q1:=fun W' k1 x (e:h.fQ b k=x)=>q0 W' k1 x e;unfold HM.fQ at q1;have inc:(h.bq b).Pairwise (· < ·):=ac5 (acM ..) @1;have wl4:(h.bq b).length<=4:=abK ..
  ext
  refine cO (ds:=[]) (aaY _) ?_
  ext
  refine ao ?_
  ext
  refine cE ⟨a,h,b,rfl,hk.rl,hk.tk,hA,fun W2 p k2 gp wp=>?_⟩;replace wp:W2 p=some (.lst (((h.bq b).map PyData.int).map .im)):=wp;have w2:=fg (k2.at_ hA)
  ext
  refine gn (fun i ys W'=>W2=W'/\ys=((((h.bq b).take i).filter fun j=>decide (j=k)).map fun j=>PyData.tuple [.int j]).map .im) (by rw[aav];exact aaQ (bK @0)) ⟨rfl,rfl⟩ (by rintro _ _ _ ⟨rfl,_⟩;exact wp) ?_ ?_
  .rintro j d ys _ hd _ ⟨rfl,rfl⟩;rw[aaz]at hd;obtain⟨o,ho,rfl⟩:=aaB.mp hd;have et:(h.bq b).take (j+1)=(h.bq b).take j++[o]:=by rw[aaU,ho];rfl
   rw[et,aa8]
   ext
   refine fi (fun e1=>?_) (fun e1=>?_)
   .ext
    refine aH (ds:=[.int o]) (by show 1<=sizeLine;decide) ?_;exact⟨rfl,by simp[show o=k from e1]⟩
   .exact⟨rfl,by simp[show ¬ o=k from e1]⟩
  rintro ys _ ⟨rfl,rfl⟩;rw[aav,aa0];refine cj ?_;have hm:∀ o∈(h.bq b).filter fun j=>decide (j=k),o=k:=fun o ho=>by simpa using (abg.mp ho).2
  have hn:(h.bq b).filter (fun j=>decide (j=k))=[]↔k ∉ h.bq b:=by
   rw[abB];exact⟨fun c m=>c k m @2,fun c o ho z=>c ((show o=k by simpa using z)▸ho)⟩
  generalize XZ:h.bq b=ws at *;generalize ws.filter (fun j=>decide (j=k))=l at *
  ext
  refine ao ?_
  ext
  refine⟨_,bR,jP _ _ fun _ _=>rfl,_,rfl,?_⟩;rw[cW];cases l with
  | nil =>
   ext
   exact q1 _ k2 _ (aaO (hn.mp rfl))
  | cons o l =>
   have en:=hm o aaP;have pL:k∈ws:=acH fun c=>by have:=hn.mpr c;cases this
   rw[aaD (fun c=>c pL)]at q1;refine kl @2 ?_
   ext
   refine gN wR ?_
   ext
   refine xJ en ?_
   ext
   refine ao ?_
   ext
   cases es:h.st.cJ with
   | true =>
    ext
    exact q1 _ k2 _ (aaO es)
   | false =>
    rw[es,aaD @1]at q1
    ext
    refine ao ?_
    ext
    refine cE ⟨a,h,b,rfl,hk.rl,hk.tk,k2.at_ hA,fun W3 p3 k3 gp3 Z5=>?_⟩;rw[XZ]at Z5;cases ws with
    | nil=>cases pL
    | cons a0 r =>
     ext
     refine eQ (v:=.im (.int a0)) Z5 wR ?_
     ext
     have ho:(a0::r).head?=some k↔¬ a0 < k:=by
      rw[List.head?_cons,Option.some.injEq];rcases aaA.mp pL with c | c
      .omega
      .have:=(abX.mp inc).1 k c;omega
     refine fi (fun z=>?_) (fun z=>?_)
     .ext
      exact q1 _ (k2.trans k3) _ (aaD fun c=>ho.mp c z)
     .ext
      refine ao ?_
      ext
      refine ao ?_
      ext
      exact q1 _ (k2.trans k3) _ (aaO (ho.mpr z))
end
abbrev yQ:Stmt:=top 51
theorem tS:az ["mill", "rings", "now", "event", "pressed", "wrote"] ["mill", "rings", "now", "event"] (defScope yQ):=by ac_rfl
noncomputable def Ge:wO:=fun as W R=>∃(a:vV) (h:HM) (e:Ev),as=[.im (bz h.rows h.bI),.im (.list (h.rings.map pairD)),.pt a.p,.im (eB e)]/\eV h/\lx e/\h.aU e=none/\At W (cQ a h)/\∀ W' a',a'.p=a.p->At W' (cQ a' (h.bp e))->Ko (cQ a h) W W'->(∀ z∈(cQ a' h).map (·.1),z∈(cQ a h).map (·.1)\/W z=none)->R (.im .none) W'
theorem PB{pl:Int}{t:sU}(hb:h.aU (.fin b pl t)=none):¬ h.st.place=h.rows.length/\¬ b < h.au/\t.pY=sU.pY (h.row.wrote h.st.aL h.st.cells).told:=by
 unfold HM.aU at hb;split at hb
 .cases hb
 split at hb
 .cases hb
 rename_i z1 z2;dsimp only at hb;unfold HM.ik at hb;split at hb
 .cases hb
 rename_i z3;split at hb
 .cases hb
 split at hb
 .cases hb
 split at hb
 .cases hb
 split at hb
 .cases hb
 unfold HM.fO at hb;split at hb
 .cases hb
 rename_i z4;exact⟨z3,z1,acH z4⟩
theorem nS{k:Int}(hb:h.aU (.eE b k)=none):k∈h.bq b/\h.st.cJ=false:=by
 unfold HM.aU at hb;split at hb
 .cases hb
 split at hb
 .cases hb
 dsimp only at hb;unfold HM.fQ at hb;split at hb
 .cases hb
 rename_i z;split at hb
 .cases hb
 rename_i z2;exact⟨acH z,by simpa using z2⟩
theorem rj{e:Ev}(hb:h.aU e=none):¬ e.au < h.au:=by
 unfold HM.aU at hb;split at hb
 .cases hb
 .assumption
theorem Ko.go{W1:Wd}{L':Ws}(h:Ko L W W')(h2:Ko L' W' W1)(e:L'.map (·.1)=L.map (·.1)):Ko L W W1:=fun z c q n=>h2 z c (h z c q n) (by rw[e];exact n)
theorem Ko.no(h:Ko L W W')(hn:W' p=none):p∈L.map (·.1)\/W p=none:=by
 by_cases m:p∈L.map (·.1)
 .exact .inl m
 .refine .inr ?_;cases e:W p with
  | none=>rfl
  | some c=>rw[h p c e m]at hn;cases hn
section
variable {K:zn}
theorem Gf(F:cR K "_law_take_up" "_law_take_up" yQ f fd)(cI:Dn P w K mg base 1 "_law_waits" f1 d1 ["rings", "now", "beat"] (kD K (bN Bg) mn))(yR:Dn P w K mg base 2 "_law_goes" f2 d2 ["row", "now"] (kD K (bN Bg) Lu))(jm:mg "int"=none):ba P w K mg base df 3 f fd ["mill", "rings", "now", "event"] (kD K (bN Bg) Ge):=by
 exact_mod_cast F.GW tS cn (fun aK W R zz=>by obtain⟨a,b,c,e,_⟩:=zz; rw[e];rfl);refine⟨_,!("aeaTaAuoak3afaMhr2ajaifMhr2ajafawaeaC**uLKbaMhr2ajuKiDbMhuaqcIhraa1aa2aaak3afagbDagaefMhr2ajak3afaiaTaAaJhuak3afajaifMhr2aj&**^cXaMhr2aj?aX*~?fJaAbMhuak0afak1af?0aiaTaAaJhuak3afajaifMhr2ajjZjcaMhr2ajeOaffuaiaTaAaJhuak3afajaeeMj1.aaZ .aa9 .aba dmaMhr2ajaaak3afagaefMhr2ajaMhr2ajaefMhr2ajakak0afak3afaefMhr2ajkTaifMhr2ajafaefMhr2ajbbi8bbbfaMhr2ajafcKlTjm.acA aa4agaefMhr2ajbbbfaMhr2ajafaeaC**aqyRhraaakak0afaMhr2ajaa2agaeaTiT.w_and gE5bJgWakak3afafaieMj1.aaZ .aa9 .aba dmaMhr2ajaabraaaMhr2ajaaak5afaaak5afaaak3afagagaiaTiT.w_and gE5bJaAaJhuak5afajaieMj1.aaZ .aa9 .aba dmaMhr2ajaabraaaMhr2ajaaak5afaaak5afagagawaifMhr2ajbbbfaMhr2ajaf",4,tS.nd,["one", "event"],[none,some 3],0,5,tS.nd),?_⟩
 clear hu;symm;refine fun O W=>⟨_,inferInstance,?_⟩;rintro aK R ⟨a,h,e,rfl,hk,ho,hb,hA,q⟩;refine cA [_,_,_,_,none,none] rfl ?_;have w0:=fg hA;have ne:=rj hb;refine Lr (fun Y W'=>At W' (cQ a { h with dR:=h.endsAt e.au,au:=e.au })/\Ko (cQ a h) W W'/\Y=[some (.im (bz h.rows h.bI)),some (.im (.list (h.rings.map pairD))),some (.pt a.p),some (.im (eB e)),some (.im (.bool (h.aE e.au))),none]) (fun kk jn=>?_) ?_
 .have e1:∃(x:Str) (rr:wE),eB e=.tuple (.str x::.int e.au::rr):=by cases e<;>exact⟨_,_,rfl⟩
  obtain⟨x,rr,ex⟩:=e1;rw[ex]at jn ⊢;have X0:jb (PyData.str x::PyData.int e.au::rr) 1=some (.int e.au):=show jb (PyData.str x::PyData.int e.au::rr) ((1:Nat):Int)=some (.int e.au) from bY rfl;refine gf (fun Y W'=>At W' (cQ a { h with dR:=h.endsAt e.au })/\Ko (cQ a h) W W'/\Y=[some (.im (bz h.rows h.bI)),some (.im (.list (h.rings.map pairD))),some (.pt a.p),some (.im (.tuple (.str x::.int e.au::rr))),none,none]) (fun k2 wQ=>?_) ?_
  .ext
   refine bO X0 ?_
   ext
   refine fi (fun z=>?_) (fun z=>?_)
   .ext
    refine fU { h with dR:=0 } hA fun W2 fZ f2=>?_;exact wQ _ _ ⟨by unfold HM.endsAt;rw[aaD @0];exact fZ,(Ko.of fun _ _ e=>e).fr f2 (by simp[cQ]),rfl⟩
   .exact wQ _ _ ⟨by unfold HM.endsAt;rw[aaO @0];exact hA,Ko.of fun _ _ e=>e,rfl⟩
  clear w0;rintro Y W2 ⟨fZ,ko,rfl⟩;have w2:=fg fZ;refine gf (fun Y W'=>Ks W2 W'/\Y=[some (.im (bz h.rows h.bI)),some (.im (.list (h.rings.map pairD))),some (.pt a.p),some (.im (.tuple (.str x::.int e.au::rr))),some (.im (.bool (h.aE e.au))),none]) (fun k2 wQ=>?_) ?_
  .unfold HM.aE at wQ
   ext
   dsimp only;cases es:h.st.cJ with
   | true =>
    ext
    exact wQ _ _ ⟨fun _ _ e=>e,by rw[es];rfl⟩
   | false =>
    ext
    refine bO X0 ?_
    ext
    refine cE ⟨a,{ h with dR:=h.endsAt e.au },e.au,rfl,hk.rl,hk.tk,fZ,fun W3 p k3 gp wp=>?_⟩;refine⟨_,fv wp,eJ _,?_⟩;rw[cW]
    ext
    refine wQ _ _ ⟨k3,?_⟩;rw[es,(show ∀ l:List Int,(!decide (l.map PyData.int=[]))=(!false&&decide (0 < l.length)) from fun l=>by cases l<;>simp)]
    rfl
  clear w2;rintro Y W3 ⟨k3,rfl⟩;have j7:=k3.at_ fZ
  ext
  refine bO X0 ?_
  ext
  refine fU { h with dR:=h.endsAt e.au,au:=e.au } j7 fun W4 kI f4=>?_;exact jn _ _ ⟨kI,(ko.ks k3).fr f4 (by simp[cQ]),rfl⟩
 have qs:=fun W' (A:At W' (cQ a (h.bp e))) (k:Ko (cQ a h) W W')=>q W' a rfl A k fun z hz=>.inl hz;clear w0;rintro Y W2 ⟨fZ,ko,rfl⟩;have w2:=fg fZ;have wo:W2 a.ow=some (.lst ((h.aZ.map dD).map .im)):=fZ.get 3 rfl;have wl:W2 a.la=some (.lst ((h.laid.map eY).map .im)):=fZ.get 4 rfl;have wt:W2 a.tk=some (.lst ((h.taken.map PyData.int).map .im)):=fZ.get 5 rfl;cases e with
 | dQ b n v =>
  ext
  refine gn (fun i ys W'=>W2=W'/\ys=(((h.aZ.take i).filter fun o=>decide (o.1≠n)).map dD).map .im) (by rw[aav];exact aaQ (bK (by have:=hk.ow;omega))) ⟨rfl,rfl⟩ (by rintro _ _ _ ⟨rfl,_⟩;exact wo) ?_ ?_
  .rintro j d ys _ hd _ ⟨rfl,rfl⟩;rw[aaz]at hd;obtain⟨o,ho,rfl⟩:=aaB.mp hd;have et:h.aZ.take (j+1)=h.aZ.take j++[o]:=by rw[aaU,ho];rfl
   rw[et,aa8];unfold dD
   ext
   refine oI (fun e1=>?_) (fun e1=>?_)
   .ext
    exact⟨rfl,by simp[e1,dD]⟩
   .exact⟨rfl,by simp[e1,dD]⟩
  rintro ys _ ⟨rfl,rfl⟩;rw[aav,aa0];refine jG fun p W3 gp wp fp=>?_
  ext
  refine Ls 3 { a with ow:=p } (h.bp (.dQ b n v)) fZ gp fp wp (fun W4 kI f4=>q W4 { a with ow:=p } rfl kI ((ko.new gp fp).fr f4 (by simp[cQ])) fun z hz=>?_) rfl;simp only[cQ,aaM,acN,aaA,aby,ac1]at hz;rcases hz with rfl | rfl | rfl | rfl | rfl | rfl
  all_goals first | exact ko.no gp | exact .inl (by simp[cQ])
 | down b n c v =>
  ext
  refine uY wl ?_;rw[show cutD ((h.laid.map eY).map DV.im) (some 1) none=((h.laid.drop 1).map eY).map DV.im by cases h.laid with
   | nil=>rfl
   | cons o l=>exact vq (k:=0)]
  refine jG fun p W3 gp wp fp=>?_
  ext
  refine Ls 4 { a with la:=p } (h.bp (.down b n c v)) fZ gp fp wp (fun W4 kI f4=>q W4 { a with la:=p } rfl kI ((ko.new gp fp).fr f4 (by simp[cQ])) fun z hz=>?_) rfl;simp only[cQ,aaM,acN,aaA,aby,ac1]at hz;rcases hz with rfl | rfl | rfl | rfl | rfl | rfl
  all_goals first | exact ko.no gp | exact .inl (by simp[cQ])
 | eE b k =>
  obtain⟨pL,hs⟩:=nS hb;obtain⟨k0,k1⟩:=qW hk pL
  ext
  refine dS wt (by rw[aav,aav];exact bK (by have:=hk.tk;omega)) fun W3 w3 f3=>?_;have j7:At W3 (cQ a { h with dR:=h.endsAt b,au:=b,taken:=h.taken++[k] }):=fZ.iB 5 rfl f3 (by rw[w3];unfold mI;simp);have w4:=fg j7
  ext
  refine fU { h with dR:=h.endsAt b,au:=b,taken:=h.taken++[k],st:={ h.st with kept:=some h.st.place } } j7 fun W4 kI f4=>?_
  ext
  refine bO (E3 k0 k1) ?_
  ext
  refine fU { h with dR:=h.endsAt b,au:=b,taken:=h.taken++[k],st:={ h.st with kept:=some h.st.place,place:=gI h.bI k } } kI fun W5 nh f5=>?_
  ext
  refine fU { h with dR:=h.endsAt b,au:=b,taken:=h.taken++[k],st:={ h.st with kept:=some h.st.place,place:=gI h.bI k,cJ:=true } } nh fun W6 vX f6=>?_
  ext
  refine fU (h.bp (.eE b k)) vX fun W7 Tw f7=>?_;exact qs W7 Tw (((((ko.fr f3 (by simp[cQ])).fr f4 (by simp[cQ])).fr f5 (by simp[cQ])).fr f6 (by simp[cQ])).fr f7 (by simp[cQ]))
 | fin b pl t =>
  obtain⟨np,_,et⟩:=PB hb;have Pz:=hk.st.p0;have Tj:=hk.st.p1;obtain⟨vW,lI⟩:=ff hk.jr Pz @0;have Pe:∀ z:Int,(z * if h.aE b=true then 1 else 0)=if h.aE b=true then z else 0:=fun z=>by split<;>simp
  ext
  refine fU { h with dR:=h.endsAt b,au:=b,aF:=if h.aE b=true then h.aF+1 else 0 } fZ (fun W3 j7 f3=>?_) (e:=by rw[<- Pe];with_unfolding_all rfl);have w3:=fg j7
  ext
  refine fU { h with dR:=h.endsAt b+1,au:=b,aF:=if h.aE b=true then h.aF+1 else 0 } j7 fun W4 kI f4=>?_;have w4:=fg kI
  ext
  refine bO vW ?_;have Z6:=gA lI hk.st.sw hk.st.cw;have q1:=fun(u:HM) (eu:HM.bV { h with dR:=h.endsAt b,aF:=if h.aE b=true then h.aF+1 else 0 } b t ((rowOf h.rows h.st.place).wrote h.st.aL h.st.cells)=u) W' (A:At W' (cQ a { u with st:=dZ (rowOf h.rows h.st.place) h.st,ends:=u.ends+1,dR:=u.dR+1,au:=b }))=>qs W' (by
   rw[<- eu]at A;exact A)
  unfold HM.row at et;generalize rowOf h.rows h.st.place=r at *
  ext
  refine cE ⟨r,_,_,a,_,rfl,lI,kI,hk.st,fun W5 nh Z7=>?_⟩;replace ko:=((ko.fr f3 (by simp[cQ])).fr f4 (by simp[cQ])).go Z7 rfl;clear f3 f4 w2 w3 w4 fZ j7 kI wo wl wt Z7 q qs;have w5:=fg nh;have wo:W5 a.ow=some (.lst ((h.aZ.map dD).map .im)):=nh.get 3 rfl;have wl:W5 a.la=some (.lst ((h.laid.map eY).map .im)):=nh.get 4 rfl;generalize (if h.aE b=true then h.aF+1 else 0)=P at *;replace nh:At W5 (cQ a { h with dR:=h.endsAt b+1,au:=b,aF:=P,st:=dZ r h.st }):=nh;generalize hwt:r.wrote h.st.aL h.st.cells=wr at *
  ext
  refine ao ?_;rcases wr with _ | ⟨k,x,v⟩<;>rcases t with _ | ⟨k2,x2,v2⟩
  .dsimp only[gz]
   ext
   exact fU { h with dR:=h.endsAt b+1,au:=b,aF:=P,st:=dZ r h.st,ends:=h.ends+1 } nh fun W6 vX f6=>q1 _ rfl W6 vX (ko.fr f6 (by simp[cQ]))
  .cases et
  .cases et
  .cases et;dsimp only[gz];cases v2 with
   | none =>
    ext
    refine aH (ds:=[.int h.ends,.int x,.int v,.int b]) (by show 4<=sizeLine;decide) ?_
    ext
    refine dS wo (by rw[aav,aav];exact bK (by have:=hk.ow;omega)) fun W6 w6 f6=>?_;have vX:At W6 (cQ a { h with dR:=h.endsAt b+1,au:=b,aF:=P,st:=dZ r h.st,aZ:=h.aZ++[(h.ends,x,v,b)] }):=nh.iB 3 rfl f6 (by rw[w6];unfold mI;simp[dD]);have w7:=fg vX
    ext
    exact fU { h with dR:=h.endsAt b+1,au:=b,aF:=P,st:=dZ r h.st,aZ:=h.aZ++[(h.ends,x,v,b)],ends:=h.ends+1 } vX fun W7 Tw f7=>q1 _ rfl W7 Tw ((ko.fr f6 (by simp[cQ])).fr f7 (by simp[cQ]))
   | some v2 =>
    ext
    refine fi (fun ek=>?_) (fun ek=>?_)
    .ext
     refine aH (ds:=[.int h.ends,.int x,.int v]) (by show 3<=sizeLine;decide) ?_
     ext
     refine dS wl (by rw[aav,aav];exact bK (by have:=hk.la;omega)) fun W6 w6 f6=>?_;have vX:At W6 (cQ a { h with dR:=h.endsAt b+1,au:=b,aF:=P,st:=dZ r h.st,laid:=h.laid++[(h.ends,x,v)] }):=nh.iB 4 rfl f6 (by rw[w6];unfold mI;simp[eY]);have w7:=fg vX
     ext
     exact fU { h with dR:=h.endsAt b+1,au:=b,aF:=P,st:=dZ r h.st,laid:=h.laid++[(h.ends,x,v)],ends:=h.ends+1 } vX fun W7 Tw f7=>q1 _ (aaO ek) W7 Tw ((ko.fr f6 (by simp[cQ])).fr f7 (by simp[cQ]))
    .ext
     exact fU { h with dR:=h.endsAt b+1,au:=b,aF:=P,st:=dZ r h.st,ends:=h.ends+1 } nh fun W6 vX f6=>q1 _ (aaD ek) W6 vX (ko.fr f6 (by simp[cQ]))
end
structure Sm(h h':HM):Prop where
 e:h'.rows=h.rows/\h'.bI=h.bI/\h'.rings=h.rings/\kE h'=kE h/\h'.width=h.width
theorem Lx(h:HM)(e:Ev):Sm h (h.bp e):=by
 cases e with
 | fin b pl t=>refine⟨?_⟩;show(HM.dE _ b t).rows=_/\(HM.dE _ b t).bI=_/\(HM.dE _ b t).rings=_/\kE (HM.dE _ b t)=_/\(HM.dE _ b t).width=_;unfold HM.dE HM.bV;dsimp only;split<;>(try split)<;>exact⟨rfl,rfl,rfl,rfl,rfl⟩
 | dQ b n v=>exact⟨rfl,rfl,rfl,rfl,rfl⟩
 | down b n c v=>exact⟨rfl,rfl,rfl,rfl,rfl⟩
 | eE b k=>exact⟨rfl,rfl,rfl,rfl,rfl⟩
theorem Ly(h:At W L)(f:Fr p W W')(n:p ∉ L.map (·.1)):At W' L:=h.mono fun x hx e=>f.at (fun z=>n (abe.mpr ⟨x,hx,z⟩)) e
theorem JB(h:HM)(e:Ev):(h.bp e).au=e.au:=rfl
theorem dF{h1:HM}{e:Ev}{r:List Ev}(f:bQ h (e::r)=some h1):h.aU e=none/\bQ (h.bp e) r=some h1:=by
 have f':(match h.aU e with | none=>bQ (h.bp e) r | some _=>none)=some h1:=f;cases q:h.aU e with
 | some x=>rw[q]at f';cases f'
 | none=>rw[q]at f';exact⟨rfl,f'⟩
theorem i6{h1:HM}{e:Ev}{r:List Ev}(b:h.aU e=none)(f:bQ (h.bp e) r=some h1):bQ h (e::r)=some h1:=by
 show(match h.aU e with | none=>bQ (h.bp e) r | some _=>none)=some h1;rw[b];exact f
theorem lD:∀{es r:List Ev} {h h1:HM},bQ h (es++r)=some h1->∃ h2,bQ h es=some h2/\bQ h2 r=some h1
 | [],_,h,_,f=>⟨h,rfl,f⟩
 | e::es,r,h,h1,f=>by
  obtain⟨b,f⟩:=dF f;obtain⟨h2,f2,f3⟩:=lD f;exact⟨h2,i6 b f2,f3⟩
theorem AI:∀{es:List Ev} {h h1:HM},bQ h es=some h1->h1.events=h.events+es.length
 | [],h,_,f=>by cases f;simp
 | e::es,h,h1,f=>by
  obtain⟨_,f⟩:=dF f;have:(h.bp e).events=h.events+1:=by
   cases e with
   | fin b pl t=>show(HM.dE _ b t).events+1=_;unfold HM.dE HM.bV;dsimp only;split<;>(try split)<;>rfl
   | dQ b n v=>rfl
   | down b n c v=>rfl
   | eE b k=>rfl
  rw[AI f,this,aaX];omega
theorem rm:∀{es:List Ev} {h h1:HM},bQ h es=some h1->h.au<=h1.au/\∀ e∈es,e.au<=h1.au
 | [],h,_,f=>by cases f;exact⟨aa1 _,fun _ he=>by cases he⟩
 | e::es,h,h1,f=>by
  obtain⟨b,f⟩:=dF f;obtain⟨h2,h3⟩:=rm f;have:=rj b;rw[JB]at h2;refine⟨@0,fun x hx=>?_⟩;rcases aaA.mp hx with rfl | hx
  .exact h2
  .exact h3 x hx
structure Rl(h h':HM):Prop where
 s:h'.rows=h.rows/\h'.bI=h.bI/\h'.st=h.st/\h'.au=h.au/\h'.ends=h.ends/\h'.dR=h.dR/\h'.taken=h.taken/\h'.aZ=h.aZ/\h'.laid=h.laid
 w:h.width<=h'.width
 r:h.room<=h'.room
 q:h.queue<=h'.queue
 p:h.cV<=h'.cV
 l:h.longest<=h'.longest
 pr:h'.aF<=h.aF
 p0:0<=h'.aF
theorem B7{e:Ev}(r:Rl h h')(hb:h.aU e=none)(hw:∀ k,k∈h'.bq e.au->k∈h.bq e.au)(hk:∀ b k,e=.eE b k->k∈h'.bq b):h'.aU e=none:=by
 obtain⟨e1,e2,e3,e4,e5,e6,e7,e8,e9⟩:=r.s;have r1:=r.w;have r2:=r.r;have r3:=r.q;have r4:=r.p;have r5:=r.l;have r6:=r.pr;unfold HM.aU at hb ⊢;rw[e4,e8];split at hb
 .cases hb
 rename_i z1;rw[aaD z1];split at hb
 .cases hb
 rename_i z2;rw[aaD (fun c=>z2 (by
  rw[abZ]at c ⊢;obtain⟨o,ho,c⟩:=c;exact⟨o,ho,by simp at c ⊢;omega⟩))]
 have hp:∀ b,e.au=b->h'.aE b=true->h.aE b=true:=fun b eb c=>by
  unfold HM.aE at *;rw[e3]at c;simp only[aaN,decide_eq_true_eq]at c ⊢;refine⟨c.1,?_⟩;obtain⟨k,hk⟩:=ada c.2;exact acZ (hw k (by rw[eb];exact hk) |> (eb▸·))
 cases e with
 | dQ b n v =>
  dsimp only at hb ⊢;unfold HM.gg at hb ⊢;rw[e8];exact hb
 | down b n c v =>
  dsimp only at hb ⊢;unfold HM.ip at hb ⊢;rw[e9];exact hb
 | eE b k =>
  dsimp only at hb ⊢;unfold HM.fQ at hb ⊢;rw[e3];split at hb
  .cases hb
  rename_i y1;have Cg:=hk b k rfl;rw[aaD (fun c=>c Cg)];split at hb
  .cases hb
  rename_i y2;rw[aaD y2];split at hb
  .rename_i y3;refine aaO ?_;have inc:∀ x:HM,(x.bq b).Pairwise (· < ·):=fun x=>ac5 (acM ..) @1;cases q':h'.bq b with
   | nil=>rw[q']at Cg;cases Cg
   | cons a r' =>
    cases q:h.bq b with
    | nil=>rw[q]at y3;cases y3
    | cons a2 r2 =>
     rw[q]at y3;have ek:a2=k:=by simpa using y3
     have ia:=hw a (by show a∈h'.bq b;rw[q'];exact aaP);have i1:=inc h';have i2:=inc h;rw[q']at i1 Cg;rw[q]at i2;replace ia:a∈a2::r2:=by rw[<- q];exact ia
     show some a=some k;congr 1;rcases aaA.mp Cg with c | c
     .exact c.symm
     .have h3:=(abX.mp i1).1 k c;rcases aaA.mp ia with d | d
      .omega
      .have:=(abX.mp i2).1 a d;omega
  .cases hb
 | fin b pl t =>
  dsimp only at hb ⊢;unfold HM.ik at hb ⊢;rw[e1,e3,e8];have ee:h'.endsAt b=h.endsAt b:=by unfold HM.endsAt;rw[e4,e6]
  rw[ee];split at hb
  .cases hb
  rename_i y1;rw[aaD y1];split at hb
  .cases hb
  rename_i y2;rw[aaD y2];split at hb
  .cases hb
  rename_i y3;rw[aaD @0];split at hb
  .cases hb
  rename_i y4;rw[aaD (fun c=>y4 ⟨hp b rfl c.1,@0⟩)];have er:h'.row=h.row:=by unfold HM.row;rw[e1,e3]
  rw[er];split at hb
  .cases hb
  rename_i y5;rw[aaD y5];unfold HM.fO at hb ⊢;rw[e3,e8,e9];split at hb
  .cases hb
  rename_i y6;rw[aaD y6];split at hb
  .rfl
  .split at hb
   .cases hb
   rename_i y7;rw[aaD y7];split at hb
   .cases hb
   rw[aaD @0];split at hb
   .cases hb
   rename_i y8;rw[aaD (fun c=>y8 ⟨c.1,@0⟩)]
  .split at hb
   .cases hb
   rename_i y7;rw[aaD y7];split at hb
   .cases hb
   rename_i y8;rw[aaD (fun c=>y8 ⟨c.1,@0⟩)]
theorem Tx{e:Ev}(r:Rl h h')(hw:∀ k,k∈h'.bq e.au->k∈h.bq e.au):Rl (h.bp e) (h'.bp e):=by
 obtain⟨e1,e2,e3,e4,e5,e6,e7,e8,e9⟩:=r.s;have r6:=r.pr;have r7:=r.p0;have ee:∀ b,h'.endsAt b=h.endsAt b:=fun b=>by unfold HM.endsAt;rw[e4,e6]
 cases e with
 | dQ b n v=>exact⟨⟨e1,e2,e3,rfl,e5,ee b,e7,by show h'.aZ.filter _=h.aZ.filter _;rw[e8],e9⟩,r.w,r.r,r.q,r.p,r.l,r6,r7⟩
 | down b n c v=>exact⟨⟨e1,e2,e3,rfl,e5,ee b,e7,e8,by show h'.laid.drop 1=h.laid.drop 1;rw[e9]⟩,r.w,r.r,r.q,r.p,r.l,r6,r7⟩
 | eE b k=>exact⟨⟨e1,e2,by show mH h'.bI k h'.st=mH h.bI k h.st;rw[e2,e3],rfl,e5,ee b,by show h'.taken++[k]=h.taken++[k];rw[e7],e8,e9⟩,r.w,r.r,r.q,r.p,r.l,aa1 0,aa1 0⟩
 | fin b pl t =>
  have er:h'.row=h.row:=by unfold HM.row;rw[e1,e3]
  have hp:h'.aE b=true->h.aE b=true:=fun c=>by
   unfold HM.aE at *;rw[e3]at c;simp only[aaN,decide_eq_true_eq]at c ⊢;obtain⟨k,hk⟩:=ada c.2;exact⟨c.1,acZ (hw k hk)⟩
  have pr:(if h'.aE b=true then h'.aF+1 else 0)<=(if h.aE b=true then h.aF+1 else 0)/\0<=(if h'.aE b=true then h'.aF+1 else 0):=by
   by_cases c:h'.aE b=true
   .rw[aaO c,aaO (hp c)];omega
   .rw[aaD c];refine⟨?_,aa1 0⟩;split<;>omega
  have key:∀(x y:HM) (P Q:Int) (w:vx),Q<=P->0<=Q->x={ h with dR:=h.endsAt b,aF:=P }->y={ h' with dR:=h'.endsAt b,aF:=Q }->Rl { x.bV b t w with st:=dZ h.row h.st,ends:=(x.bV b t w).ends+1,dR:=(x.bV b t w).dR+1,au:=b,events:=(x.bV b t w).events+1 } { y.bV b t w with st:=dZ h'.row h'.st,ends:=(y.bV b t w).ends+1,dR:=(y.bV b t w).dR+1,au:=b,events:=(y.bV b t w).events+1 }:=fun x y P Q w h1 h2 ex ey=>by
   subst ex ey;unfold HM.bV;rw[er,e3];split
   .exact⟨⟨e1,e2,rfl,rfl,by show h'.ends+1=h.ends+1;rw[e5],by show h'.endsAt b+1=h.endsAt b+1;rw[ee],e7,by show h'.aZ++[(h'.ends,_,_,b)]=h.aZ++[(h.ends,_,_,b)];rw[e8,e5],e9⟩,r.w,r.r,r.q,r.p,r.l,h1,h2⟩
   .split
    .exact⟨⟨e1,e2,rfl,rfl,by show h'.ends+1=h.ends+1;rw[e5],by show h'.endsAt b+1=h.endsAt b+1;rw[ee],e7,e8,by show h'.laid++[(h'.ends,_,_)]=h.laid++[(h.ends,_,_)];rw[e9,e5]⟩,r.w,r.r,r.q,r.p,r.l,h1,h2⟩
    .exact⟨⟨e1,e2,rfl,rfl,by show h'.ends+1=h.ends+1;rw[e5],by show h'.endsAt b+1=h.endsAt b+1;rw[ee],e7,e8,e9⟩,r.w,r.r,r.q,r.p,r.l,h1,h2⟩
   .exact⟨⟨e1,e2,rfl,rfl,by show h'.ends+1=h.ends+1;rw[e5],by show h'.endsAt b+1=h.endsAt b+1;rw[ee],e7,e8,e9⟩,r.w,r.r,r.q,r.p,r.l,h1,h2⟩
  have:=key _ _ _ _ (h.row.wrote h.st.aL h.st.cells) pr.1 pr.2 rfl rfl;have e0:h'.row.wrote h'.st.aL h'.st.cells=h.row.wrote h.st.aL h.st.cells:=by rw[er,e3]
  show Rl { (HM.dE { h with dR:=h.endsAt b } b t)with au:=b,events:=_ } { (HM.dE { h' with dR:=h'.endsAt b } b t)with au:=b,events:=_ };unfold HM.dE;rw[show HM.row { h' with dR:=h'.endsAt b }=h'.row from rfl,show HM.row { h with dR:=h.endsAt b }=h.row from rfl];dsimp only;rw[e0];exact this
theorem nT:∀{es:List Ev} {h h' h1:HM},Rl h h'->bQ h es=some h1->(∀(pre post:List Ev) (e:Ev) (x x':HM),es=pre++e::post->bQ h pre=some x->bQ h' pre=some x'->Rl x x'->x.aU e=none->(∀ k,k∈x'.bq e.au->k∈x.bq e.au)/\∀ b k,e=.eE b k->k∈x'.bq b)->∃ kn,bQ h' es=some kn/\Rl h1 kn
 | [],h,h',_,r,f,_=>by cases f;exact⟨h',rfl,r⟩
 | e::es,h,h',h1,r,f,hy=>by
  obtain⟨b,f⟩:=dF f;obtain⟨w1,w2⟩:=hy [] es e h h' rfl rfl rfl r b;have b':=B7 r b w1 w2;obtain⟨kn,f',r'⟩:=nT (Tx r w1) f fun pre post e2 x x' eq fx Lz rx bx=>hy (e::pre) post e2 x x' (by rw[eq];rfl) (i6 b fx) (i6 b' Lz) rx bx;exact⟨kn,i6 b' f',r'⟩
theorem dO:∀{es:List Ev} {h h1:HM},bQ h es=some h1->h1.rings=h.rings
 | [],h,_,f=>by cases f;rfl
 | e::es,h,h1,f=>by
  obtain⟨_,f⟩:=dF f;rw[dO f];exact(Lx h e).e.2.2.1
theorem yS{h1:HM}(f:bQ h es=some h1)(r:Rl h h')(er:h'.rings=h.rings):∃ kn,bQ h' es=some kn:=by
 obtain⟨kn,f',_⟩:=nT r f fun pre post e x x' _ fx Lz rx bx=>by
  have e1:x'.bq=x.bq:=by
   funext b;unfold HM.bq;rw[dO Lz,dO fx,rx.s.2.2.2.2.2.2.1,er]
  exact⟨fun k hk=>by rw[<- e1];exact hk,fun b k eb=>by subst eb;rw[e1];exact(nS bx).1⟩
 exact⟨kn,f'⟩
theorem B8{h1:HM}{more:ut}(f:bQ h es=some h1)(r:Rl h h')(er:h'.rings=more++h.rings)(hm:∀ x∈more,h1.au < x.1):∃ kn,bQ h' es=some kn:=by
 have hb:=(rm f).2;obtain⟨kn,f',_⟩:=nT r f fun pre post e x x' eq fx Lz rx bx=>by
  have he:=hb e (by rw[eq];simp);have e1:x'.bq e.au=x.bq e.au:=by
   unfold HM.bq jM;rw[dO Lz,dO fx,rx.s.2.2.2.2.2.2.1,er];unfold bZ;rw[aa8,show more.filter (fun r=>decide (r.1<=e.au))=[] by
    rw[abB];intro y hy;have:=hm y hy;simp;omega]
   rfl
  exact⟨fun k hk=>by rw[<- e1];exact hk,fun b k eb=>by subst eb;show k∈x'.bq (Ev.eE b k).au;rw[e1];exact(nS bx).1⟩
 exact⟨kn,f'⟩
theorem pC:∀{es:List Ev} {h h1:HM},bQ h es=some h1->∃ l,h1.taken=h.taken++l
 | [],h,_,f=>by cases f;exact⟨[],@2⟩
 | e::es,h,h1,f=>by
  obtain⟨_,f⟩:=dF f;obtain⟨l,hl⟩:=pC f;have:∃ l,(h.bp e).taken=h.taken++l:=by
   cases e with
   | fin b pl t=>refine⟨[],?_⟩;show(HM.dE _ b t).taken=_;unfold HM.dE HM.bV;dsimp only;split<;>(try split)<;>simp
   | dQ b n v=>exact⟨[],by show h.taken=_;simp⟩
   | down b n c v=>exact⟨[],by show h.taken=_;simp⟩
   | eE b k=>exact⟨[k],rfl⟩
  obtain⟨l2,h2⟩:=this;exact⟨l2++l,by rw[hl,h2,acB]⟩
theorem yT{h1:HM}(f:bQ h es=some h1)(r:Rl h h')(h1l:∀ k b,(bZ h'.rings b).count k<=(bZ h.rings b).count k)(h2l:∀ k b,k∈([0,1,2,3]:wn)->h1.taken.count k<=(bZ h'.rings b).count k\/(bZ h.rings b).count k<=(bZ h'.rings b).count k):∃ kn,bQ h' es=some kn:=by
 obtain⟨kn,f',_⟩:=nT r f fun pre post e x x' eq fx Lz rx bx=>by
  have et:=rx.s.2.2.2.2.2.2.1;refine⟨fun k hk=>?_,fun b k eb=>?_⟩
  .unfold HM.bq jM at hk ⊢;rw[dO Lz,et]at hk;rw[dO fx];rw[abg]at hk ⊢;have:=h1l k e.au;have:=abV hk.2;exact⟨hk.1,aa2 @0⟩
  .subst eb;have pL:=(nS bx).1;have iM:x.taken.count k < h1.taken.count k:=by
    obtain⟨x2,f2,f3⟩:=lD (es:=pre) (r:=.eE b k::post) (by rw[<- eq];exact f);rw[fx]at f2;cases f2;obtain⟨_,f4⟩:=dF f3;obtain⟨l,hl⟩:=pC f4;rw[hl,show(x.bp (.eE b k)).taken=x.taken++[k] from rfl,acB,adJ];simp
   unfold HM.bq jM at pL ⊢;rw[dO fx]at pL;rw[dO Lz,et];rw[abg]at pL ⊢;have h3:=abV pL.2;exact⟨pL.1,aa2 (by rcases h2l k b pL.1 with c | c<;>omega)⟩
 exact⟨kn,f'⟩
noncomputable def Ev.later(off:Int):Ev->Ev
 | .fin b pl t=>.fin (b+off) pl t
 | .dQ b n v=>.dQ (b+off) n v
 | .down b n c v=>.down (b+off) n c v
 | .eE b k=>.eE (b+off) k
theorem yU(off:Int)(e:Ev):(e.later off).au=e.au+off:=by cases e<;>rfl
noncomputable def X1(off:Int)(o:Int×Int×Int×Int):Int×Int×Int×Int:=(o.1,o.2.1,o.2.2.1,o.2.2.2+off)
structure Sh(off:Int)(h h':HM):Prop where
 s:h'.rows=h.rows/\h'.bI=h.bI/\h'.st=h.st/\h'.ends=h.ends/\h'.dR=h.dR/\h'.taken=h.taken/\h'.laid=h.laid/\h'.aF=h.aF
 t:h'.width=h.width/\h'.room=h.room/\h'.queue=h.queue/\h'.cV=h.cV/\h'.longest=h.longest
 g:h'.rings=h.rings.map fun r=>(r.1+off,r.2)
 o:h'.aZ=h.aZ.map (X1 off)
 b:h'.au=h.au+off\/(h'.au=0/\h.au=0/\h.dR=0)
theorem vY(r:Sh off h h')(b:Int):h'.bq (b+off)=h.bq b:=by
 unfold HM.bq jM;rw[r.s.2.2.2.2.2.1,r.g];have:bZ (h.rings.map fun r=>(r.1+off,r.2)) (b+off)=bZ h.rings b:=by
  unfold bZ;rw[adq,acz];congr 1;refine List.filter_congr fun x _=>?_;show decide (x.1+off<=b+off)=decide (x.1<=b);exact adT.mpr @0
 rw[this]
theorem AJ(r:Sh off h h')(b:Int):h'.endsAt (b+off)=h.endsAt b:=by
 unfold HM.endsAt;rw[r.s.2.2.2.2.1];rcases r.b with e | ⟨e1,e2,e3⟩
 .rw[e]
  by_cases c:b=h.au
  .rw[aaO c,aaO @0]
  .rw[aaD c,aaD @0]
 .rw[e3];split<;>split<;>rfl
theorem B9{e:Ev}(r:Sh off h h')(h0:0<=off)(hb:h.aU e=none):h'.aU (e.later off)=none:=by
 obtain⟨e1,e2,e3,e4,e5,e6,e7,e8⟩:=r.s;obtain⟨t1,t2,t3,t4,t5⟩:=r.t;have ow:=r.o;have hw:=vY r;have he:=AJ r;have er:h'.row=h.row:=by unfold HM.row;rw[e1,e3]
 unfold HM.aU at hb ⊢;rw[yU];split at hb
 .cases hb
 rename_i z1;rw[aaD (by rcases r.b with c | ⟨c1,c2,_⟩<;>omega)];split at hb
 .cases hb
 rename_i z2;rw[aaD (fun c=>z2 (by
  rw[ow,ad2,abZ]at c;rw[abZ];obtain⟨o,ho,c⟩:=c;have c:o.2.2.2+off+h'.longest < e.au+off:=abV c;exact⟨o,ho,aa2 @0⟩))]
 cases e with
 | dQ b n v =>
  dsimp only[Ev.later]at hb ⊢;unfold HM.gg at hb ⊢;rw[ow,adq,show(fun o:Int×Int×Int×Int=>decide (o.1=n)) ∘ X1 off=fun o=>decide (o.1=n) from rfl];generalize h.aZ.filter (fun o=>decide (o.1=n))=l at hb ⊢;cases l with
  | nil=>cases hb
  | cons o l=>exact hb
 | down b n c v =>
  dsimp only[Ev.later]at hb ⊢;unfold HM.ip at hb ⊢;rw[e7];exact hb
 | eE b k =>
  dsimp only[Ev.later]at hb ⊢;unfold HM.fQ at hb ⊢;rw[hw,e3];exact hb
 | fin b pl t =>
  dsimp only[Ev.later]at hb ⊢;unfold HM.ik at hb ⊢;unfold HM.aE at hb ⊢;rw[hw,he,e1,e3,er,e8,t1,t4,ow];have ea:(h.aZ.map (X1 off)).any (fun o=>fm h.row o.2.1)=h.aZ.any fun o=>fm h.row o.2.1:=by rw[ad2];rfl
  rw[ea];have ew:h'.fO h.row t=h.fO h.row t:=by
   unfold HM.fO;rw[e3,e7,t2,t3,ow,aav]
  rw[ew];exact hb
theorem Tz{e:Ev}(r:Sh off h h'):Sh off (h.bp e) (h'.bp (e.later off)):=by
 obtain⟨e1,e2,e3,e4,e5,e6,e7,e8⟩:=r.s;have ow:=r.o;have hw:=vY r;have he:=AJ r;have er:h'.row=h.row:=by unfold HM.row;rw[e1,e3]
 cases e with
 | dQ b n v=>exact⟨⟨e1,e2,e3,e4,he b,e6,e7,e8⟩,r.t,r.g,by show h'.aZ.filter _=(h.aZ.filter _).map _;rw[ow,adq];rfl,.inl rfl⟩
 | down b n c v=>exact⟨⟨e1,e2,e3,e4,he b,e6,by show h'.laid.drop 1=h.laid.drop 1;rw[e7],e8⟩,r.t,r.g,ow,.inl rfl⟩
 | eE b k=>exact⟨⟨e1,e2,by show mH h'.bI k h'.st=mH h.bI k h.st;rw[e2,e3],e4,he b,by show h'.taken++[k]=h.taken++[k];rw[e6],e7,rfl⟩,r.t,r.g,ow,.inl rfl⟩
 | fin b pl t =>
  have pr:(if h'.aE (b+off)=true then h'.aF+1 else 0)=(if h.aE b=true then h.aF+1 else 0):=by
   unfold HM.aE;rw[hw,e3,e8]
  have e0:h'.row.wrote h'.st.aL h'.st.cells=h.row.wrote h.st.aL h.st.cells:=by rw[er,e3]
  show Sh off { (HM.dE { h with dR:=h.endsAt b } b t)with au:=b,events:=_ } { (HM.dE { h' with dR:=h'.endsAt (b+off) } (b+off) t)with au:=b+off,events:=_ };unfold HM.dE;rw[show HM.row { h' with dR:=h'.endsAt (b+off) }=h'.row from rfl,show HM.row { h with dR:=h.endsAt b }=h.row from rfl];dsimp only;rw[e0];have pr2:(if HM.aE { h' with dR:=h'.endsAt (b+off) } (b+off)=true then h'.aF+1 else 0)=(if HM.aE { h with dR:=h.endsAt b } b=true then h.aF+1 else 0):=pr;rw[pr2,he];generalize (if HM.aE { h with dR:=h.endsAt b } b=true then h.aF+1 else 0)=P;unfold HM.bV;rw[er,e3];split
  .exact⟨⟨e1,e2,rfl,by show h'.ends+1=h.ends+1;rw[e4],rfl,e6,e7,rfl⟩,r.t,r.g,by show h'.aZ++[(h'.ends,_,_,b+off)]=(h.aZ++[(h.ends,_,_,b)]).map _;rw[ow,e4,abt];rfl,.inl rfl⟩
  .split
   .exact⟨⟨e1,e2,rfl,by show h'.ends+1=h.ends+1;rw[e4],rfl,e6,by show h'.laid++[(h'.ends,_,_)]=h.laid++[(h.ends,_,_)];rw[e7,e4],rfl⟩,r.t,r.g,ow,.inl rfl⟩
   .exact⟨⟨e1,e2,rfl,by show h'.ends+1=h.ends+1;rw[e4],rfl,e6,e7,rfl⟩,r.t,r.g,ow,.inl rfl⟩
  .exact⟨⟨e1,e2,rfl,by show h'.ends+1=h.ends+1;rw[e4],rfl,e6,e7,rfl⟩,r.t,r.g,ow,.inl rfl⟩
theorem pD{off:Int}(h0:0<=off):∀{es:List Ev} {h h' h1:HM},Sh off h h'->bQ h es=some h1->∃ kn,bQ h' (es.map (Ev.later off))=some kn
 | [],h,h',_,_,_=>⟨h',rfl⟩
 | e::es,h,h',h1,r,f=>by
  obtain⟨b,f⟩:=dF f;obtain⟨kn,f'⟩:=pD h0 (Tz r) f;exact⟨kn,i6 (B9 r h0 b) f'⟩
structure Ow(h:HM):Prop where
 d:∀ o∈h.aZ,h.au<=o.2.2.2+h.longest
 n:∀ o∈h.aZ,0<=o.1/\o.1 < h.ends
 e:0<=h.ends
 l:0<=h.longest
theorem LB{e:Ev}(w:Ow h)(hb:h.aU e=none):Ow (h.bp e)/\h.ends<=(h.bp e).ends:=by
 have hd:∀ o∈h.aZ,e.au<=o.2.2.2+h.longest:=fun o ho=>by
  unfold HM.aU at hb;split at hb
  .cases hb
  split at hb
  .cases hb
  rename_i z
  by_cases c:o.2.2.2+h.longest < e.au
  .exact absurd (abZ.mpr ⟨o,ho,aa2 c⟩) z
  .omega
 have w1:=w.e;have w2:=w.l;cases e with
 | dQ b n v=>exact⟨⟨fun o ho=>hd o (abg.mp ho).1,fun o ho=>w.n o (abg.mp ho).1,w1,w2⟩,aa1 _⟩
 | down b n c v=>exact⟨⟨hd,w.n,w1,w2⟩,aa1 _⟩
 | eE b k=>exact⟨⟨hd,w.n,w1,w2⟩,aa1 _⟩
 | fin b pl t =>
  show Ow { (HM.dE { h with dR:=h.endsAt b } b t)with au:=b,events:=_ }/\h.ends<=(HM.dE { h with dR:=h.endsAt b } b t).ends;unfold HM.dE HM.bV;dsimp only;have old:∀ o∈h.aZ,0<=o.1/\o.1 < h.ends+1:=fun o ho=>by have:=w.n o ho;omega
  split
  .refine⟨⟨fun o ho=>?_,fun o ho=>?_,by show 0<=h.ends+1;omega,w2⟩,by show h.ends<=h.ends+1;omega⟩
   .rcases abn.mp ho with c | c
    .exact hd o c
    .rw[abk.mp c];show b<=b+h.longest;omega
   .rcases abn.mp ho with c | c
    .exact old o c
    .rw[abk.mp c];show 0<=h.ends/\h.ends < h.ends+1;omega
  .split<;>exact⟨⟨hd,old,by show 0<=h.ends+1;omega,w2⟩,by show h.ends<=h.ends+1;omega⟩
  .exact⟨⟨hd,old,by show 0<=h.ends+1;omega,w2⟩,by show h.ends<=h.ends+1;omega⟩
theorem tT:∀{es:List Ev} {h h1:HM},Ow h->bQ h es=some h1->Ow h1/\h.ends<=h1.ends
 | [],h,_,w,f=>by cases f;exact⟨w,aa1 _⟩
 | e::es,h,h1,w,f=>by
  obtain⟨b,f⟩:=dF f;obtain⟨w1,l1⟩:=LB w b;obtain⟨w2,l2⟩:=tT w1 f;exact⟨w2,Int.le_trans l1 l2⟩
theorem yV{n v:Int}(w:Ow h)(hn:n < 0\/h.ends<=n):h.aU (.dQ h.au n v)=some ("stray":Str):=by
 unfold HM.aU;rw[aaD (show ¬ (Ev.dQ h.au n v).au < h.au from Int.lt_irrefl _),aaD (fun c=>by
  obtain⟨o,ho,c⟩:=abZ.mp c;have c:o.2.2.2+h.longest < h.au:=abV c;have:=w.d o ho;omega)]
 show h.gg n v=_;unfold HM.gg;rw[show h.aZ.filter (fun o=>decide (o.1=n))=[] by
  rw[abB];intro o ho;have:=w.n o ho;simp;omega]
abbrev Gg:Stmt:=top 52
abbrev Gh:Stmt:=top 53
theorem pE:az ["mill", "rings", "terms", "now", "beat", "resting", "waits"] ["mill", "rings", "terms", "now"] (defScope Gg):=by ac_rfl
theorem gj:az ["bag", "mill", "rings", "terms", "now", "base", "beat", "pick", "waits", "event", "one", "row", "wrote"] ["bag", "mill", "rings", "terms", "now", "base"] (defScope Gh):=by ac_rfl
noncomputable def mK:Option Ev->PyData
 | none=>.none
 | some e=>eB e
noncomputable def Z8(h:HM)(o:Option Ev):Prop:=∀ e,o=some e->lx e/\h.aU e=none
theorem iJ{e:Ev}(he:h.au<=e.au)(ho:∀ o∈h.aZ,e.au<=o.2.2.2+h.longest):h.aU e=match e with
  | .fin b pl t=>h.ik b pl t
  | .dQ _ n v=>h.gg n v
  | .down _ n c v=>h.ip n c v
  | .eE b k=>h.fQ b k:=by
 unfold HM.aU;rw[aaD @0,aaD (fun c=>by
  obtain⟨o,m,c⟩:=abZ.mp c;have c:o.2.2.2+h.longest < e.au:=abV c;have:=ho o m;omega)]
 cases e<;>rfl
theorem JC{o:Int×Int×Int×Int}{r:List (Int×Int×Int×Int)}(w:Ow h)(e:h.aZ=o::r):h.aU (.dQ h.au o.1 o.2.2.1)=none:=by
 rw[iJ (aa1 _) w.d];show h.gg _ _=_;unfold HM.gg;rw[e,acK,aaO (aa2 rfl)];exact aaO rfl
theorem JD{o:Int×Int×Int}{r:List (Int×Int×Int)}(w:Ow h)(e:h.laid=o::r):h.aU (.down h.au o.1 o.2.1 o.2.2)=none:=by
 rw[iJ (aa1 _) w.d];show h.ip _ _ _=_;unfold HM.ip;rw[e];dsimp only;rw[aaD (fun c=>c rfl),aaD (fun c=>c rfl),aaO rfl]
theorem Ca{k:Int}{r:wn}(eo:h.aZ=[])(hb:h.au<=b)(ew:h.bq b=k::r)(hs:h.st.cJ=false):h.aU (.eE b k)=none:=by
 rw[iJ hb (by rw[eo];intro o m;cases m)];show h.fQ b k=_;unfold HM.fQ;rw[ew,hs,aaD (fun c=>c aaP),aaD @1];exact aaO rfl
theorem Gi(eo:h.aZ=[])(el:h.laid=[])(hb:h.au<=b)(hp:h.st.place≠h.rows.length)(hc:b=h.au->h.dR < h.width)(w1:1<=h.width)(q1:1<=h.queue)(Pe:h.aE b=false):h.aU (.fin b h.st.place (vx.told (h.row.wrote h.st.aL h.st.cells)))=none:=by
 rw[iJ hb (by rw[eo];intro o m;cases m)];show h.ik _ _ _=_;unfold HM.ik;rw[aaD hp,aaD (fun c=>c rfl),aaD (by unfold HM.endsAt;split<;>omega),aaD (fun c=>by rw[Pe]at c;cases c.1),aaD (by rw[eo];simp)];unfold HM.fO;rw[aaD (fun c=>c rfl),eo,el];cases h.row.wrote h.st.aL h.st.cells with
 | none=>rfl
 | some y =>
  obtain⟨k,x,v⟩:=y;dsimp only[vx.told,Option.map];rw[aaD (fun c=>c rfl),aaD (fun c=>by have:=c.2;simp at this;omega)]
def Kt(t:Addr)(W W':Wd):Prop:=∀ z c,W z=some c->z≠t->W' z=some c
section
variable {t g:Addr}{W1:Wd}{a:vV}
theorem Kt.refl:Kt t W W:=fun _ _ e _=>e
theorem Kt.fr(k:Kt t W W')(f:Fr t W' W1):Kt t W W1:=fun z c e n=>f.at n (k z c e n)
theorem Kt.ks(k:Kt t W W')(k2:Ks W' W1):Kt t W W1:=fun z c e n=>k2 z c (k z c e n)
theorem Kt.ws(k:Kt t W W'){c:Cell}:Kt t W (aG W' t c):=fun z c e n=>(aB n).trans (k z c e n)
theorem Gj(hA:At W (cQ a h))(wt:W t=some (.aI g n)):∀ x∈cQ a h,x.1≠t:=fun x hx z=>by
 have e:=hA.at_ x hx;rw[z,wt]at e;simp only[cQ,aaA,aby,ac1]at hx;rcases hx with rfl | rfl | rfl | rfl | rfl | rfl<;>cases e
theorem Kt.at_(k:Kt t W W')(hA:At W (cQ a h))(wt:W t=some (.aI g n)):At W' (cQ a h):=hA.mono fun x hx e=>k _ _ e (Gj hA wt x hx)
end
theorem vZ{b:Bool}{A B:Prop}(h1:b=true->A)(h2:b=false->B):if b=true then A else B:=by
 cases b
 .exact h2 rfl
 .exact h1 rfl
theorem Gk{l:List J}{f:J->PyData}{k:Int}(h0:0<=k)(h1:k < l.length):∃ v∈l,jb ((l.map f).map DV.im) k=some (.im (f v)):=by
 obtain⟨j,rfl⟩:=aco h0;have hj:j < l.length:=by omega
 exact⟨l[j],abY hj,bY (by rw[aaz,aaz,aaT hj];rfl)⟩
theorem Cb{r:Rw}{ce:wn}(h:vH r=true):∃ k x v,r.wrote sp ce=some (k,x,v):=by
 cases r with
 | put d v=>cases h
 | op y d a b=>exact⟨_,_,_,rfl⟩
 | mv y d a n=>unfold Rw.wrote;dsimp only;split<;>exact⟨_,_,_,rfl⟩
 | go a p=>cases h
 | one y=>cases h
noncomputable def LC:wO:=fun as W R=>∃(a:vV) (h:HM),as=[.im (bz h.rows h.bI),.im (.list (h.rings.map pairD)),.im (kE h),.pt a.p]/\eV h/\Ow h/\1<=h.width/\1<=h.queue/\At W (cQ a h)/\∀ W' o,Ks W W'->Z8 h o->R (.im (mK o)) W'
noncomputable def LD:wO:=fun as W R=>∃(t g:Addr) (n:Nat) (a:vV) (h:HM) (base:Int),as=[.pt t,.im (bz h.rows h.bI),.im (.list (h.rings.map pairD)),.im (kE h),.pt a.p,.im (.int base)]/\W t=some (.aI g n)/\n<=999000000/\eV h/\Ow h/\1<=h.width/\1<=h.queue/\At W (cQ a h)/\∀ W' n' o,n'<=n+6->W' t=some (.aI g n')->Kt t W W'->Z8 h o->R (.im (mK o)) W'
section
variable {K:zn}
theorem JE(F:cR K "_law_sure" "_law_sure" Gg f fd)(cI:Dn P w K mg base 1 "_law_waits" f1 d1 ["rings", "now", "beat"] (kD K (bN Bg) mn))(gh:Dn P w K mg base 1 "_law_due" f2 d2 ["row", "now"] (kD K (bN Bg) FR))(bh:mg "len"=none):ba P w K mg base df 2 f fd ["mill", "rings", "terms", "now"] (kD K (bN Bg) LC):=by
 exact_mod_cast F.GW pE cn (fun aK W R zz=>by obtain⟨a,b,e,_⟩:=zz; rw[e];rfl);refine⟨_,!("aeaC**aMhr3ajaeaTaAbMhuaMhr3ajbDagaiaxbraaajaa4aaakakaMhr3ajafafaaakakaMhr3ajafafagawaeaTaAbMhuaMhr3ajbDagaiaxbbiUbraaajaa4agakaMhr3ajafawaeaC**iDaJhuaMhr3ajbEbjbh.aa4 aaak0afagaeaTiT.w_and gwkG5bJaAj9aMhr3ajak2afaiaC**bbbf4afawaeaC**aqcIhraa1aa3aa4agaeaTiT.w_and aAbMhu6bDagbJgwkGaMhr3ajaiaxbraaajaa4aaak6afagawaeaTkG5aiaxcYawaiaxbraaajaa4aaaMhr3ajaaaqghhraaakak0afaMhr3ajaa3agag",4,pE.nd,5,pE.nd,4,pE.nd,6,pE.nd),?_⟩
 clear hu;symm;refine fun O W=>⟨_,inferInstance,?_⟩;rintro aK R ⟨a,h,rfl,hk,how,hw,hq,hA,q⟩;refine cA [_,_,_,_,none,none,none] rfl ?_;have w0:=fg hA;have wo:W a.ow=some (.lst ((h.aZ.map dD).map .im)):=hA.get 3 rfl;have wl:W a.la=some (.lst ((h.laid.map eY).map .im)):=hA.get 4 rfl;have k0:Ks W W:=fun _ _ e=>e
 ext
 refine ao ?_
 ext
 refine⟨_,fv wo,lB _,_,rfl,?_⟩;rw[cW];cases eo:h.aZ with
 | cons o r =>
  rw[eo]at wo;refine xI @2 ?_
  ext
  refine eQ (v:=.im (dD o)) wo wR ?_;unfold dD
  ext
  refine eQ (v:=.im (dD o)) wo wR ?_;unfold dD
  ext
  refine aH (ds:=[.str "late",.int h.au,.int o.1,.int o.2.2.1]) (by show 4<=sizeLine;decide) ?_;exact q _ (some (.dQ h.au o.1 o.2.2.1)) k0 fun e he=>by cases he;exact⟨trivial,JC how eo⟩
 | nil =>
  ext
  refine ao ?_
  ext
  refine⟨_,fv wl,jP _ _ fun _ _=>rfl,_,rfl,?_⟩;rw[cW];cases el:h.laid with
  | cons o r =>
   rw[el]at wl;refine xI @2 ?_
   ext
   refine aH (ds:=[.str "down",.int h.au]) (by show 2<=sizeLine;decide) ?_
   ext
   refine eQ (v:=.im (eY o)) wl wR ?_;refine⟨_,_,rfl,rfl,by show 5<=sizeLine;decide,?_⟩;exact q _ (some (.down h.au o.1 o.2.1 o.2.2)) k0 fun e he=>by cases he;exact⟨trivial,JD how el⟩
  | nil =>
   ext
   rw[aav];refine gf (fun Y W'=>∃ b:Int,(h.au<=b/\(b=h.au->¬ h.st.place=h.rows.length->h.dR < h.width))/\W=W'/\Y=[some (.im (bz h.rows h.bI)),some (.im (.list (h.rings.map pairD))),some (.im (kE h)),some (.pt a.p),some (.im (.int b)),some (.im (.bool (decide (h.st.place=(h.rows.length:Int))))),none]) (fun kk jn=>?_) ?_
   .have jn:=fun b hb=>jn _ W ⟨b,hb,rfl,rfl⟩
    ext
    refine oI (fun z=>?_) (fun z=>?_)
    .ext
     refine fi (fun z2=>?_) (fun z2=>?_)
     .ext
      exact jn _ ⟨@0,fun c=>by omega⟩
     .exact jn _ ⟨aa1 _,fun _ _=>by omega⟩
    .exact jn _ ⟨aa1 _,fun _ c=>absurd z c⟩
   rintro Y _ ⟨b,⟨Z9,hb2⟩,rfl,rfl⟩
   ext
   refine cE ⟨a,h,b,rfl,hk.rl,hk.tk,hA,fun W2 p k2 gp wp=>?_⟩;have fZ:=k2.at_ hA;have w2:=fg fZ
   ext
   refine ao ?_;refine pB (fun k W'=>W2=W'/\k=(!decide (h.bq b=[])&&!h.st.cJ)) (fun Q jn=>?_) ?_
   .have jn:=fun k e=>jn k W2 ⟨rfl,e⟩
    ext
    refine⟨_,fv wp,eJ _,_,rfl,?_⟩;rw[cW];refine oI (fun z=>?_) (fun z=>?_)
    .ext
     exact jn _ (by rw[aaJ (by simpa using z)];rfl)
    .exact jn _ (by rw[aa2 (by simpa using z)];rfl)
   rintro k _ ⟨rfl,rfl⟩;have Pe:(!decide (h.bq b=[])&&!h.st.cJ)=h.aE b:=by
    unfold HM.aE;cases h.bq b<;>cases h.st.cJ<;>simp
   generalize XZ:h.bq b=ws at *;refine vZ (fun z=>?_) (fun z=>?_)
   .cases ws with
    | nil=>simp at z
    | cons k r =>
     ext
     refine eQ (v:=.im (.int k)) wp wR ?_
     ext
     refine aH (ds:=[.str "bell",.int b,.int k]) (by show 3<=sizeLine;decide) ?_;exact q _ (some (.eE b k)) k2 fun e he=>by cases he;exact⟨trivial,Ca eo Z9 XZ (by simpa using z)⟩
   .have zb:=z
    ext
    refine ao ?_
    ext
    refine fi (fun z=>?_) (fun z=>?_)
    .ext
     exact q _ none k2 fun e he=>by cases he
    .have Pz:=hk.st.p0;have Tj:=hk.st.p1;obtain⟨vW,lI⟩:=ff hk.jr Pz @0
     ext
     refine bO vW ?_
     ext
     refine cE ⟨rowOf h.rows h.st.place,_,_,a,h,rfl,lI,fZ,hk.st,fun W3 k3=>?_⟩;have tw:=tJ (gA lI hk.st.sw hk.st.cw)
     ext
     rw[yw];refine aH (ds:=[.str "end",.int b,.int h.st.place,iA _]) (by show 4<=sizeLine;decide) ?_;exact q _ (some (.fin b h.st.place _)) (k2.trans k3) fun e he=>by cases he;exact⟨tw,Gi eo el Z9 @0 (fun c=>hb2 c @0) hw hq (by rw[<- Pe];exact zb)⟩
theorem JF{f5:Addr}(F:cR K "_law_some" "_law_some" Gh f fd)(ar:Dn P w K mg base 1 "_law_draw" f1 d1 ["bag", "many"] (spT (bN Bg) iY))(cI:Dn P w K mg base 1 "_law_waits" f2 d2 ["rings", "now", "beat"] (kD K (bN Bg) mn))(gh:Dn P w K mg base 1 "_law_due" f3 d3 ["row", "now"] (kD K (bN Bg) FR))(v7:Dn P w K mg base 3 "_law_cause" f4 d4 ["mill", "rings", "terms", "now", "event"] (kD K (bN Bg) Gb))(yW:Dn P w K mg base 2 "_law_sure" f5 d5 ["mill", "rings", "terms", "now"] (kD K (bN Bg) LC))(bh:mg "len"=none)(Gm:mg "max"=none):ba P w K mg base df 4 f fd ["bag", "mill", "rings", "terms", "now", "base"] (kD K (bN Bg) LD):=by
 exact_mod_cast F.GW gj cn (fun aK W R zz=>by obtain⟨a,b,c,d,g,h,e,_⟩:=zz; rw[e];rfl);refine⟨_,!("aeaC**bbbfbEBq.rfl Gm*aa5aaaMhr4ajagakbDaaafaaafaaafaaaqarhraa0aaafagagaqarhraa0aaafagaeaC**aqarhraa0aaafagaeaC**aqcIhraa2aa4aa6agaeaC**cYaeaTiT.w_and aAgL7afbJaAbMhuaMhr4ajbDagaeaC**akaMhr4ajaqarhraa0aabEbjbh.aa4 aaaMhr4ajagagaiaC**braaajaa6aaakah*afaaakah*afagaiaTiT.w_and aAaJhu7afbJaAbMhuaMhr4ajbDagaiaC**bbiUbraaajaa6agakaMhr4ajafaiaTiT.w_and pSjhhu7brcz.rfl .w_and aAbMhu8bDagbJgwkGaMhr4ajaiaC**braaajaa6aaak8afagaiaTaAgLaMhr4ajbEbjbh.aa4 aaak1afagaeaC**akak1afaMhr4ajaeaC**aqghhraaah*aa4agaeaTiT.w_and pSjhhuakah*afbrcz.rfl bJaAgLaqarhraa0aaafagafaiaC**braaakah*afaaakah*afaacYagawaiaC**braaajaa6aaaMhr4ajaaah*agawaeaTiT.w_or gW9mEgEaqv7hraa1aa2aa3aa4aa9agaiaxaqyWhraa1aa2aa3aa4agawaiax9",6,gj.nd,PyProof.Rows.boot_max,7,gj.nd,8,gj.nd,9,gj.nd,10,gj.nd,9,gj.nd,10,10,9,gj.nd,9,gj.nd,11,gj.nd,12,gj.nd,11,11,12,gj.nd,12,12,9,gj.nd,12),?_⟩
 clear hu;symm;refine fun O W=>⟨_,inferInstance,?_⟩;rintro aK R ⟨t,g,n,a,h,base,rfl,wt,hn,hk,how,hw,hq,hA,q⟩;refine cA [_,_,_,_,_,_,none,none,none,none,none,none,none] rfl ?_;have Lp:=hA;have Gn:=wt;have w0:=fg hA
 ext
 refine aY wt @0 @0 @0 fun x1 W1 _ _ wt f1=>?_;have kt:=Kt.refl.fr f1;clear f1 w0 hA
 ext
 refine cO (ds:=[0,0,1,x1].map PyData.int) (by show 4<=sizeLine;decide) ?_
 ext
 refine aY wt @0 @0 @0 fun x2 W2 x20 x21 wt f2=>?_;replace kt:=kt.fr f2;refine fk x20 (by simpa using x21) fun x3 _=>?_;clear f2
 ext
 generalize (if h.au > base then h.au else base)+x3=b;refine aY wt @0 @0 @0 fun pick W3 _ _ wt f3=>?_;replace kt:=kt.fr f3;clear f3
 ext
 refine cE ⟨a,h,b,rfl,hk.rl,hk.tk,kt.at_ Lp Gn,fun W4 p k4 gp wp=>?_⟩;replace kt:=kt.ks k4;replace wt:=k4 _ _ wt;clear k4 gp
 ext
 refine gf (fun Y W'=>∃(o:Option Ev) (k:Nat) (u1 u2 u3:Option DV),(∀ e,o=some e->lx e)/\W' t=some (.aI g k)/\k<=n+5/\Kt t W W'/\Y=[some (.pt t),some (.im (bz h.rows h.bI)),some (.im (.list (h.rings.map pairD))),some (.im (kE h)),some (.pt a.p),some (.im (.int base)),some (.im (.int b)),some (.im (.int pick)),some (.pt p),some (.im (mK o)),u1,u2,u3]) (fun kk jn=>?_) ?_
 .have kI:=kt.at_ Lp Gn;have w4:=fg kI;have wo:W4 a.ow=some (.lst ((h.aZ.map dD).map .im)):=kI.get 3 rfl;have wl:W4 a.la=some (.lst ((h.laid.map eY).map .im)):=kI.get 4 rfl;refine pB (fun k W'=>W4=W'/\(k=true->h.aZ≠[])) (fun Q jn=>?_) ?_
  .have jn:=fun k e=>jn k W4 ⟨rfl,e⟩
   ext
   refine fi (fun _=>?_) (fun _=>?_)
   .ext
    refine⟨_,fv wo,lB _,_,rfl,jn _ fun z=>?_⟩;rw[cW]at z;simpa using z
   .exact jn _ fun z=>by cases z
  rintro k _ ⟨rfl,jx⟩;refine vZ (fun z=>?_) (fun z=>?_)
  .have aam:=ado.mpr (jx z);have MY:=hk.ow
   ext
   rw[aav,aav];have wo5:=Gj kI wt (a.ow,mI (h.aZ.map dD)) (by simp[cQ]);refine aY wt @0 @0 @0 fun i W5 i0 i1 wt f5=>?_;obtain⟨o,_,ho⟩:=Gk (f:=dD) i0 i1
   ext
   refine eQ (v:=.im (dD o)) (f5.at wo5 wo) ho ?_;unfold dD
   ext
   refine aH (ds:=[.str "late",.int b,.int o.1,.int o.2.2.1]) (by show 4<=sizeLine;decide) ?_;exact jn _ _ ⟨some (.dQ b o.1 o.2.2.1),_,_,_,_,(fun e he=>by cases he;trivial),wt,@0,kt.fr f5,rfl⟩
  refine pB (fun k W'=>W4=W'/\(k=true->h.laid≠[])) (fun Q jn=>?_) ?_
  .have jn:=fun k e=>jn k W4 ⟨rfl,e⟩
   ext
   refine fi (fun _=>?_) (fun _=>?_)
   .ext
    refine⟨_,fv wl,jP _ _ fun _ _=>rfl,_,rfl,jn _ fun z=>?_⟩;rw[cW]at z;simpa using z
   .exact jn _ fun z=>by cases z
  rintro k _ ⟨rfl,jx⟩;refine vZ (fun z=>?_) (fun z=>?_)
  .cases el:h.laid with
   | nil=>exact absurd el (jx z)
   | cons o r =>
    rw[el]at wl
    ext
    refine aH (ds:=[.str "down",.int b]) (by show 2<=sizeLine;decide) ?_
    ext
    refine eQ (v:=.im (eY o)) wl wR ?_;refine⟨_,_,rfl,rfl,by show 5<=sizeLine;decide,?_⟩
    ext
    exact jn _ _ ⟨some (.down b o.1 o.2.1 o.2.2),_,_,_,_,(fun e he=>by cases he;trivial),wt,@0,kt,rfl⟩
  refine pB (fun k W'=>W4=W'/\(k=true->h.bq b≠[])) (fun Q jn=>?_) ?_
  .have jn:=fun k e=>jn k W4 ⟨rfl,e⟩
   ext
   refine fi (fun _=>?_) (fun _=>?_)
   .ext
    refine⟨_,fv wp,eJ _,_,rfl,?_⟩;rw[cW];refine oI (fun z=>?_) (fun z=>?_)
    .ext
     exact jn _ fun _=>by simpa using z
    .exact jn _ fun z=>by cases z
   .exact jn _ fun z=>by cases z
  rintro k _ ⟨rfl,jx⟩;refine vZ (fun z=>?_) (fun z=>?_)
  .cases el:h.bq b with
   | nil=>exact absurd el (jx z)
   | cons o r =>
    rw[el]at wp
    ext
    refine eQ (v:=.im (.int o)) wp wR ?_
    ext
    refine aH (ds:=[.str "bell",.int b,.int o]) (by show 3<=sizeLine;decide) ?_;exact jn _ _ ⟨some (.eE b o),_,_,_,_,(fun e he=>by cases he;trivial),wt,@0,kt,rfl⟩
  ext
  rw[aav];refine fi (fun z=>?_) (fun z=>?_)
  .have Pz:=hk.st.p0;obtain⟨vW,lI⟩:=ff hk.jr Pz z
   ext
   refine bO vW ?_
   ext
   refine cE ⟨_,_,_,a,h,rfl,lI,kI,hk.st,fun W5 k5=>?_⟩;have Z6:=gA lI hk.st.sw hk.st.cw;have tw:=tJ Z6;replace kt:=kt.ks k5;replace wt:=k5 _ _ wt;replace nh:=fg (k5.at_ kI);clear w4 wo wl k5 wp kI vW;have sl:=FZ lI;have ss:=fun e=>Cb (sp:=h.st.aL) (ce:=h.st.cells) (r:=rowOf h.rows h.st.place) e;generalize (rowOf h.rows h.st.place).wrote h.st.aL h.st.cells=wr at *;have er:=(lq lI).1;rw[er]
   ext
   refine gf (fun Y W'=>∃(t1:sU) (k:Nat) (u3:Option DV),t1.pY=wr.told.pY/\W' t=some (.aI g k)/\k<=n+5/\Ko [(t,.part)] W5 W'/\Y=[some (.pt t),some (.im (bz h.rows h.bI)),some (.im (.list (h.rings.map pairD))),some (.im (kE h)),some (.pt a.p),some (.im (.int base)),some (.im (.int b)),some (.im (.int pick)),some (.pt p),some (.im .none),none,u3,some (.im (iA t1))]) (fun k2 wQ=>?_) ?_
   .ext
    refine bO wR ?_
    ext
    refine fi (fun z=>?_) (fun z=>?_)
    .obtain⟨k,x,v,rfl⟩:=ss (by rw[sl];exact aa2 z);dsimp only[gz]
     ext
     refine aY wt @0 @0 @0 fun d1 W6 _ _ wt f6=>?_
     ext
     refine fi (fun z=>?_) (fun z=>?_)
     .ext
      refine aH (ds:=[.str k,.int x,.none]) (by show 3<=sizeLine;decide) ?_;exact wQ _ _ ⟨some (k,x,none),_,_,rfl,wt,@0,(Ko.of fun _ _ e=>e).fr f6 @2,rfl⟩
     .exact wQ _ _ ⟨some (k,x,some v),_,_,rfl,wt,@0,(Ko.of fun _ _ e=>e).fr f6 @2,rfl⟩
    .exact wQ _ _ ⟨wr.told,_,_,rfl,wt,@0,Ko.of fun _ _ e=>e,by rw[<- yw];rfl⟩
   clear wt nh;rintro Y W6 ⟨t1,k6,u3,et,wt,U0,ko6,rfl⟩;replace kt:Kt t W W6:=fun z c e n=>ko6 z c (kt z c e n) (by simpa using n);have w6:=fg (kt.at_ Lp Gn)
   ext
   refine aH (ds:=[.str "end",.int b,.int h.st.place,iA t1]) (by show 4<=sizeLine;decide) ?_;exact jn _ _ ⟨some (.fin b h.st.place t1),_,_,_,_,(fun e he=>by cases he;show tj t1.pY;rw[et];exact tw),wt,@0,kt,rfl⟩
  .exact jn _ _ ⟨none,_,_,_,_,(fun e he=>by cases he),wt,@0,kt,rfl⟩
 clear wt kt wp;rintro Y W5 ⟨o,k,u1,u2,u3,ho,wt,Z4,kt,rfl⟩;have nh:=kt.at_ Lp Gn;refine ao ?_;cases o with
 | none =>
  dsimp only[mK]
  ext
  refine cE ⟨a,h,rfl,hk,how,hw,hq,nh,fun W6 o k6 ho=>?_⟩;exact q W6 k o @0 (k6 _ _ wt) (kt.ks k6) ho
 | some e =>
  have jx:isNone (.im (mK (some e)))=false:=by cases e<;>rfl
  ext
  rw[jx]
  ext
  refine cE ⟨a,h,e,rfl,hk,hw,ho e rfl,nh,fun W6 k6=>?_⟩;replace kt:=kt.ks k6;replace wt:=k6 _ _ wt;cases hb:h.aU e with
  | none =>
   ext
   exact q W6 k (some e) @0 wt kt fun _ z=>by cases z;exact⟨ho e rfl,hb⟩
  | some x =>
   ext
   refine cE ⟨a,h,rfl,hk,how,hw,hq,kt.at_ Lp Gn,fun W7 o k7 ho=>?_⟩;exact q W7 k o @0 (k7 _ _ wt) (kt.ks k7) ho
end
abbrev Gp:Stmt:=top 54
theorem tU:az ["bag", "mill", "rings", "terms", "now", "base", "diary", "turn", "event"] ["bag", "mill", "rings", "terms", "now", "base"] (defScope Gp):=by ac_rfl
noncomputable def LF:wO:=fun as W R=>∃(t g:Addr) (n:Nat) (a:vV) (h:HM) (base:Int),as=[.pt t,.im (bz h.rows h.bI),.im (.list (h.rings.map pairD)),.im (kE h),.pt a.p,.im (.int base)]/\W t=some (.aI g n)/\n<=900000000/\eV h/\vQ h 0/\Ow h/\1<=h.width/\1<=h.queue/\At W (cQ a h)/\∀ W' (n':Nat) (a1:vV) (h1:HM) (es:List Ev) (p:Addr),a1.p=a.p->n'<=n+1000->W' t=some (.aI g n')->At W' (cQ a1 h1)->bQ h es=some h1->(∀ e∈es,lx e)->es.length<=50->h1.taken.length<=50->W' p=some (.lst ((es.map eB).map .im))->R (.pt p) W'
theorem Gq(h:HM)(e:Ev):(h.bp e).queue=h.queue:=by
 cases e with
 | fin b pl t=>show(HM.dE _ b t).queue=_;unfold HM.dE HM.bV;dsimp only;split<;>(try split)<;>rfl
 | dQ b n v=>rfl
 | down b n c v=>rfl
 | eE b k=>rfl
section
variable {K:zn}
theorem JG(F:cR K "_law_tale" "_law_tale" Gp f fd)(ar:Dn P w K mg base 1 "_law_draw" f1 d1 ["bag", "many"] (spT (bN Bg) iY))(yX:Dn P w K mg base 4 "_law_some" f2 d2 ["bag", "mill", "rings", "terms", "now", "base"] (kD K (bN Bg) LD))(qd:Dn P w K mg base 3 "_law_take_up" f3 d3 ["mill", "rings", "now", "event"] (kD K (bN Bg) Ge))(bo:mg "range"=none):ba P w K mg base df 5 f fd ["bag", "mill", "rings", "terms", "now", "base"] (kD K (bN Bg) LF):=by
 exact_mod_cast F.GW tU cn (fun aK W R zz=>by obtain⟨a,b,c,d,g,h,e,_⟩:=zz; rw[e];rfl);refine⟨_,!("aeaC**bDagaejydPboaaaqarhraa0aaakbDcz.rfl aqarhraa0aaafagagagaX**aeaC**aqyXhraa0aa1aa2aa3aa4aa5agaeaTgW8aiax6awaeeMj1.aaZ .aa9 .aba dm6aa8agaieMaqqdhraa1aa2aa4aa8agaiax6",6,tU.nd,7,tU.nd,8,tU.nd),?_⟩
 clear hu;symm;refine fun O W=>⟨_,inferInstance,?_⟩;rintro aK R ⟨t,g,n,a,h,base,rfl,wt,hn,hk,X2,how,hw,PD,hA,q⟩;refine cA [_,_,_,_,_,_,none,none,none] rfl ?_
 ext
 refine gF (aaY _) fun l W4 gl wl fl=>?_;have nl:l ∉ (cQ a h).map (·.1):=fun z=>by
  obtain⟨x,hx,e⟩:=abe.mp z;have:=hA.at_ x hx;rw[e,gl]at this;cases this
 have kI:=Ly hA fl nl;have lt:l≠t:=fun z=>by rw[z,wt]at gl;cases gl
 replace wt:=fl.at (acD lt) wt;clear fl gl hA
 ext
 refine ao ?_
 ext
 refine cO (ds:=[12,41].map PyData.int) (by show 2<=sizeLine;decide) ?_
 ext
 refine aY wt @0 @0 @0 fun x5 W5 x50 x51 TB f5=>?_;refine fk x50 (by simpa using x51) fun x6 hx6=>?_;have hx6:1<=x6/\x6<=41:=by simp at hx6;omega
 ext
 refine aY TB @0 @0 @0 fun m W6 m0 m1 PF f6=>?_;have vX:=Kt.at_ ((Kt.refl.fr f5).fr f6) kI wt;have X3:=f6.at lt (f5.at lt wl);clear f5 f6 kI wl wt TB
 ext
 refine ji (fun i Y W'=>∃(h1:HM) (a1:vV) (es:List Ev) (k:Nat) (u1 u2:Option DV),Y=[some (.pt t),some (.im (bz h1.rows h1.bI)),some (.im (.list (h1.rings.map pairD))),some (.im (kE h1)),some (.pt a1.p),some (.im (.int base)),some (.pt l),u1,u2]/\es.length=i/\(∀ e∈es,lx e)/\W' l=some (.lst ((es.map eB).map .im))/\W' t=some (.aI g k)/\k<=n+2+6 * i/\At W' (cQ a1 h1)/\l ∉ (cQ a1 h1).map (·.1)/\bQ h es=some h1/\vQ h1 i/\eV h1/\Ow h1/\1<=h1.width/\1<=h1.queue/\a1.p=a.p) ⟨h,a,[],_,_,_,rfl,rfl,(fun e he=>by cases he),X3,PF,@0,vX,nl,rfl,X2,hk,how,hw,PD,rfl⟩ ?_ ?_
 .clear vX X3 PF nl hk hw X2 how PD;rintro i Y W1 hi ⟨h1,a1,es,k,u1,u2,rfl,Ao,nq,wl,wt,TC,hA,nl,Co,II,hk,how,hw,PD,Qc⟩;have aan:i < 41:=by omega
  ext
  refine cE ⟨t,g,k,a1,h1,base,rfl,wt,@0,hk,how,hw,PD,hA,fun W2 k2 o OK G0 X4 ho=>?_⟩;have fZ:=X4.at_ hA wt;have X5:=X4 _ _ wl lt;clear X4 hA wl wt
  ext
  refine ao ?_;cases o with
  | none =>
   dsimp only[mK]
   ext
   exact q W2 k2 a1 h1 es l Qc @0 G0 fZ Co nq @0 (by have:=II.tk;omega) X5
  | some e =>
   obtain⟨he,hb⟩:=ho e rfl;have jx:isNone (.im (mK (some e)))=false:=by cases e<;>rfl
   ext
   rw[jx];dsimp only[mK]
   ext
   refine dS X5 (by rw[aav,aav];exact fw @0) fun W5 w5 f5=>?_;have nh:=Ly fZ f5 nl;have TB:=f5.at (acD lt) G0;replace w5:W5 l=some (.lst (((es++[e]).map eB).map .im)):=by rw[w5];simp
   clear f5 G0 fZ X5
   ext
   refine cE ⟨a1,h1,e,rfl,hk,he,hb,nh,fun W6 a6 ep vX ko nw=>?_⟩;obtain⟨U0,hl6,_,_⟩:=Lo hk hb II @0;obtain⟨⟨s1,s2,s3,s4,s5⟩⟩:=Lx h1 e;have s6:(h1.bp e).queue=h1.queue:=Gq h1 e
   ext
   refine⟨h1.bp e,a6,es++[e],k2,_,_,by rw[s1,s2,s3,s4,ep];rfl,by simp[Ao],fun z hz=>?_,ko _ _ w5 nl,ko _ _ TB (fun z=>?_),@0,vX,fun z=>?_,qZ Co hb,hl6,U0,(LB how hb).1,by rw[s5];exact hw,by rw[s6];exact PD,ep.trans Qc⟩
   .rcases abn.mp hz with c | c
    .exact nq z c
    .rw[abk.mp c];exact he
   .obtain⟨x,hx,e'⟩:=abe.mp z;exact Gj nh TB x hx e'
   .rcases nw _ z with c | c
    .exact nl c
    .rw[w5]at c;cases c
 .clear vX X3 PF nl hk hw X2 how PD;rintro Y W1 ⟨h1,a1,es,k,u1,u2,rfl,Ao,nq,wl,wt,TC,hA,nl,Co,II,hk,how,hw,PD,Qc⟩
  ext
  exact q W1 k a1 h1 es l Qc @0 wt hA Co nq @0 (by have:=II.tk;omega) wl
end
abbrev Gr:Stmt:=top 55
abbrev yY:Stmt:=top 56
theorem pG:az ["rings", "took", "found", "k", "mine"] ["rings", "took"] (defScope Gr):=by ac_rfl
theorem JH:az ["diary", "off"] ["diary", "off"] (defScope yY):=by ac_rfl
noncomputable def Gs:ku:=fun ds R _=>∃(es:List Ev) (off:Int),ds=[.list (es.map eB),.int off]/\es.length<=60/\R (.nw ((es.map (Ev.later off)).map eB))
noncomputable def LH:ku:=fun ds R _=>∃(ps:ut) (tk:wn),ds=[.list (ps.map pairD),.list (tk.map .int)]/\ps.length<=8/\tk.length<=100/\∀ qs:List (Int×Int),(∀ k b,(bZ qs b).count k<=(bZ ps b).count k)->(∀ k b,k∈([0,1,2,3]:wn)->tk.count k<=(bZ qs b).count k\/(bZ ps b).count k<=(bZ qs b).count k)->(∀ q∈qs,q∈ps)->qs.length<=32->R (.nw (qs.map pairD))
def upTo(b:Int)(l:wn):Nat:=(l.filter fun x=>decide (x<=b)).length
theorem AK{b:Int}:∀{l:wn} (c:Nat),l.Pairwise (·<=·)->upTo b (l.take c)=min c (upTo b l)
 | [],c,_=>by simp[upTo]
 | a::r,0,_=>by simp[upTo]
 | a::r,c+1,h=>by
  obtain⟨h1,h2⟩:=abX.mp h;have ih:=AK (b:=b) c h2;unfold upTo at *;rw[adm,acK,acK]
  by_cases e:a<=b
  .rw[aaO (aa2 e),aaO (aa2 e),aaX,aaX,ih];omega
  .have z:∀ m:List Int,(∀ x∈m,a<=x)->m.filter (fun x=>decide (x<=b))=[]:=fun m hm=>by
    rw[abB];intro x hx;have:=hm x hx;simp;omega
   rw[aaD (by simpa using e),aaD (by simpa using e),z r h1,z _ fun x hx=>h1 x (acI hx)];simp
def fh(ps:ut)(k:Int):List Int:=(ps.filter fun r=>decide (r.2=k)).map (·.1)
theorem rp(ps:ut)(k b:Int):(bZ ps b).count k=upTo b (fh ps k):=by
 rw[pA];unfold upTo fh;rw[adq,aav,List.filter_filter];congr 1;exact List.filter_congr fun x _=>Bool.and_comm ..
theorem v8(ps qs:ut)(k:Int):fh (ps++qs) k=fh ps k++fh qs k:=by unfold fh;rw[aa8,abt]
theorem PH(b:Int)(l m:wn):upTo b (l++m)=upTo b l+upTo b m:=by unfold upTo;rw[aa8,aaV]
theorem JI{m:wn}(h:l.Perm m):upTo b l=upTo b m:=(h.filter _).length_eq
theorem Cd(l:wn)(k:Int):fh (l.map fun a=>(a,k)) k=l:=by
 unfold fh;induction l with
 | nil=>rfl
 | cons a l ih=>simp_all
theorem yZ(l:wn){k k':Int}(h:¬ k=k'):fh (l.map fun a=>(a,k)) k'=[]:=by
 unfold fh;rw[adp,abB];intro x hx;obtain⟨a,_,rfl⟩:=abe.mp hx;simpa using h
structure U2(ps:ut)(tk:wn)(i:Nat)(qs:ut):Prop where
 m:∀ k' b:Int,upTo b (fh qs k')=if 0<=k'/\k' < i then min (tk.count k') (upTo b (fh ps k'))else 0
 im:∀ q∈qs,q∈ps
 ln:qs.length<=8 * i
theorem U2.more{ps:ut}{tk:wn}{i:Nat}{qs:ut}{ms:wn}(h:U2 ps tk i qs)(h8:ps.length<=8)(pm:ms.Perm (fh ps i))(pw:ms.Pairwise (·<=·)):U2 ps tk (i+1) (qs++(ms.take (tk.count (i:Int))).map fun a=>(a,(i:Int))):=by
 refine⟨fun k' b=>?_,fun q hq=>?_,?_⟩
 .rw[v8,PH,h.m]
  by_cases e:(i:Int)=k'
  .subst e;rw[Cd,AK _ pw,JI pm,aaD @0,aaO ⟨@0,@0⟩];omega
  .rw[yZ _ e]
   by_cases c:0<=k'/\k' < (i:Int)
   .rw[aaO c,aaO ⟨c.1,@0⟩];rfl
   .rw[aaD c,aaD @0];rfl
 .rcases abn.mp hq with c | c
  .exact h.im q c
  .obtain⟨a,ha,rfl⟩:=abe.mp c;have:=pm.mem_iff.mp (acI ha);unfold fh at this;obtain⟨r,hr,rfl⟩:=abe.mp this;have h1:=abg.mp hr;have h2:r.2=(i:Int):=by simpa using h1.2
   rw[<- h2];exact h1.1
 .have:=h.ln;have h3:ms.length<=8:=by
   rw[pm.length_eq];unfold fh;rw[aav];exact aaE (abK ..) h8
  rw[aaV,aav,abc];omega
theorem PJ{a b:wE}(w:W p=some (.lst (a.map .im)))(hl:a.length+b.length<=sizeLine)(h:∀ p W',W p=none->W' p=some (.lst ((a++b).map .im))->Fr p W W'->Q (.pt p) W'):HZ (.pt p) (.im (.list b)) W Q:=K0 (vs:=a.map .im) (us:=b.map .im) (by simp only[dX,w]) rfl (by simpa using hl) (by rw[<- abt];exact jG h)
theorem y0{a b:wE}(hl:a.length+b.length<=sizeLine)(h:Q (.im (.list (a++b))) W):HZ (.im (.list a)) (.im (.list b)) W Q:=K0 (vs:=a.map .im) (us:=b.map .im) rfl rfl (by simpa using hl) (by rw[<- abt];exact cj h)
theorem pH(xs:List J){k:Nat}:cutD xs none (some (k:Int))=xs.take k:=by
 unfold cutD HT.dG;have:¬ ((k:Int) < 0):=by omega
 simp[this]
section
variable {K:zn}
theorem Gu(F:cR K "_law_later" "_law_later" yY f fd):ba P w K mg base df 1 f fd ["diary", "off"] (eZ Gs):=by
 exact_mod_cast F.pW JH (by nofun);refine⟨_,!("aiax&**^cX0?aX*~?gX?bbiUbbiUjZlj0fueOafbraabbbfak0af1agjZlj0eOaffu",["event", "off"],[none,some 1],0),?_⟩;push_cast;rintro ds R ⟨es,off,rfl,hl,q⟩
 ext
 refine gm (fun i ys W=>ys=(((es.take i).map (Ev.later off)).map eB).map .im) (by rw[aav];exact aaQ (bK @0)) rfl ?_ ?_
 .rintro i d ys W hd _ rfl;rw[aaz]at hd;obtain⟨e,he,rfl⟩:=aaB.mp hd;have et:es.take (i+1)=es.take i++[e]:=by rw[aaU,he];rfl
  rw[et,abt,abt,abt];obtain⟨x,rr,ex,hrr,el⟩:∃ x rr,eB e=.tuple (.str x::.int e.au::rr)/\rr.length<=3/\eB (e.later off)=.tuple (.str x::.int (e.au+off)::rr):=by
   cases e<;>exact⟨_,_,rfl,@2,rfl⟩
  rw[ex]
  ext
  refine⟨_,rfl,?_⟩;rw[show cutD (PyData.str x::PyData.int e.au::rr) none (some 1)=[.str x] from vp (k:=0)]
  ext
  refine bO (show jb (PyData.str x::PyData.int e.au::rr) ((1:Nat):Int)=some (.int e.au) from bY rfl) ?_
  ext
  refine aH (ds:=[.int (e.au+off)]) (by show 1<=sizeLine;decide) ?_;refine⟨_,_,rfl,rfl,by show 2<=sizeLine;decide,?_⟩
  ext
  refine⟨_,rfl,?_⟩;rw[show cutD (PyData.str x::PyData.int e.au::rr) (some 2) none=rr from vq (k:=1)];refine⟨_,_,rfl,rfl,aaQ (bK (by show 2+rr.length<=_;omega)),?_⟩;show _=_++[DV.im (eB (e.later off))];rw[el]
  rfl
 .rintro ys W rfl;rw[aav,aa0];exact jG fun p W1 _ w _=>kx w q
theorem JJ(F:cR K "_law_taken_rings" "_law_taken_rings" Gr f fd)(bo:mg "range"=none)(bh:mg "len"=none)(i5:mg "sorted"=none):ba P w K mg base df 1 f fd ["rings", "took"] (eZ LH):=by
 exact_mod_cast F.pW pG (by nofun);refine⟨_,!("aeaC**bDagaejydPboaaafagaX**aeaC**bEyhi5.adF aa&**^cX0?jj*bSaX*~bSaX*~jd?fJaAaJhu12?0agaiaC**bbrT2&**^cXjZjc4fueObEbjbh.aa4 aa&**^cX1?aX*~?fJaAaJhu01?afag?aX*~?gX?braa0aa1agaiax2",2,pG.nd,3,pG.nd,4,pG.nd,["at", "one", "k"],[none,none,some 3],2,0,1,2,pG.nd,["at", "k"],[none,some 3],["one", "k"],[none,some 3],0,0),?_⟩
 push_cast;rintro ds R ⟨ps,tk,rfl,h8,UP,q⟩;refine cA [_,_,none,none,none] rfl ?_
 ext
 refine gF (vs:=[]) (aaY _) fun p0 W0 _ w0 _=>?_
 ext
 refine ao ?_
 ext
 refine ji (fun i Y W=>∃(qs:ut) (p:Addr) (u3 u4:Option DV),Y=[some (.im (.list (ps.map pairD))),some (.im (.list (tk.map .int))),some (.pt p),u3,u4]/\W p=some (.lst ((qs.map pairD).map .im))/\U2 ps tk i qs) ⟨[],p0,_,_,rfl,w0,⟨fun k' b=>by rw[aaD @0];rfl,(fun q hq=>by cases hq),aaC _⟩⟩ ?_ ?_
 .rintro i Y W hi ⟨qs,p,u3,u4,rfl,wp,ht⟩;have hi4:i < 4:=hi;rw[Int.zero_add]
  ext
  refine gm (fun j ys W'=>W=W'/\ys=((fh (ps.take j) (i:Int)).map PyData.int).map .im) (by rw[aav];exact aaQ (bK @0)) ⟨rfl,rfl⟩ ?_ ?_
  .rintro j d ys _ hd _ ⟨rfl,rfl⟩;rw[aaz]at hd;obtain⟨r,hr,rfl⟩:=aaB.mp hd;have et:ps.take (j+1)=ps.take j++[r]:=by rw[aaU,hr];rfl
   rw[et,v8];unfold pairD
   ext
   refine fi (fun e1=>?_) (fun e1=>?_)
   .ext
    exact⟨rfl,by simp[fh,show r.2=(i:Int) from e1]⟩
   .exact⟨rfl,by simp[fh,show ¬ r.2=(i:Int) from e1]⟩
  rintro ys _ ⟨rfl,rfl⟩;rw[aav,aa0];have PK:(fh ps (i:Int)).length<=8:=by unfold fh;rw[aav];exact aaE (abK ..) h8
  refine cj ?_
  ext
  refine⟨_,fh ps (i:Int),rfl,nM,@0,fun ms pm pw=>?_⟩;rw[show(ms.map fun i=>DV.im (.int i))=(ms.map PyData.int).map .im by rw[acz];rfl];refine cj ?_
  ext
  refine gm (fun j ys W'=>W=W'/\ys=(List.replicate ((tk.take j).count (i:Int)) (PyData.int 1)).map .im) (by rw[aav];exact aaQ (bK @0)) ⟨rfl,rfl⟩ ?_ ?_
  .rintro j d ys _ hd _ ⟨rfl,rfl⟩;rw[aaz]at hd;obtain⟨r,hr,rfl⟩:=aaB.mp hd;have et:tk.take (j+1)=tk.take j++[r]:=by rw[aaU,hr];rfl
   rw[et,adJ]
   ext
   refine fi (fun e1=>?_) (fun e1=>?_)
   .ext
    exact⟨rfl,by simp[show r=(i:Int) from e1,adf]⟩
   .exact⟨rfl,by simp[show ¬ r=(i:Int) from e1]⟩
  rintro ys _ ⟨rfl,rfl⟩;rw[aav,aa0];refine cj ?_
  ext
  rw[acx];refine KZ ?_;rw[pH,<- acW];refine cj ?_;have mk:=ht.more h8 pm pw;have hl8:(ms.take (tk.count (i:Int))).length<=8:=by rw[abc,pm.length_eq];omega
  generalize ms.take (tk.count (i:Int))=fs at mk hl8
  ext
  refine gm (fun j ys W'=>W=W'/\ys=(((fs.take j).map fun a=>(a,(i:Int))).map pairD).map .im) (by rw[aav];exact aaQ (bK @0)) ⟨rfl,rfl⟩ ?_ ?_
  .rintro j d ys _ hd _ ⟨rfl,rfl⟩;rw[aaz]at hd;obtain⟨r,hr,rfl⟩:=aaB.mp hd;have et:fs.take (j+1)=fs.take j++[r]:=by rw[aaU,hr];rfl
   rw[et]
   ext
   refine aH (ds:=[.int r,.int (i:Int)]) (by show 2<=sizeLine;decide) ?_;exact⟨rfl,by simp[pairD]⟩
  rintro ys _ ⟨rfl,rfl⟩;rw[aav,aa0];refine cj ?_
  ext
  have:=ht.ln;refine PJ wp (aaQ (bK (by simp;omega))) fun p2 W9 _ w9 _=>?_;rw[<- abt]at w9
  ext
  exact⟨_,p2,_,_,rfl,w9,mk⟩
 .rintro Y W ⟨qs,p,u3,u4,rfl,wp,ht⟩;have e4:(4:Int).toNat=4:=rfl;rw[e4]at ht
  ext
  have hc:∀ k b,(bZ qs b).count k=if 0<=k/\k < (4:Int)then min (tk.count k) ((bZ ps b).count k)else 0:=fun k b=>by rw[rp,rp];exact ht.m k b
  refine kx wp (q qs (fun k b=>?_) (fun k b hk=>?_) ht.im ht.ln)
  .rw[hc];split<;>omega
  .rw[hc,aaO (by simp at hk;omega)];omega
end
abbrev y9:Stmt:=top 58
abbrev Gv:Stmt:=top 59
theorem nU:az ["mill", "state", "rings", "terms", "diary", "due", "told", "handed", "found"] ["mill", "state", "rings", "terms", "diary", "due"] (defScope y9):=by ac_rfl
theorem pI:az ["bag", "mill", "state", "rings", "terms", "diary", "due", "turn", "size", "told"] ["bag", "mill", "state", "rings", "terms", "diary", "due"] (defScope Gv):=by ac_rfl
noncomputable def tV:ku:=fun ds R _=>∃ rs bs st ps t es ue,ds=[bz rs bs,fE st,.list (ps.map pairD),j8 t,.list (es.map eB),i4 ue]/\eV (qc rs bs st ps t)/\(∀ e∈es,lx e)/\es.length<=4000/\R (.im (.bool (decide (fT (qc rs bs st ps t) es=ue))))
def kF(k:Nat):Option (Int×Str)->Option (Int×Str)
 | none=>none
 | some (i,x)=>if(k:Int)<=i then none else some (i,x)
noncomputable def LJ:uU:=fun n ds R=>∃ rs bs st ps t es ue,ds=[bz rs bs,fE st,.list (ps.map pairD),j8 t,.list (es.map eB),i4 ue]/\eV (qc rs bs st ps t)/\(∀ e∈es,lx e)/\es.length<=60/\n<=990000000/\fT (qc rs bs st ps t) es=ue/\(∀ k:Nat,k<=es.length->fT (qc rs bs st ps t) (es.take k)=kF k ue)/\∀ n',n'<=n+3->R (.im (.bool true)) n'
section
variable {K:zn}
theorem Gw(F:cR K "_law_asked" "_law_asked" y9 f fd)(Gx:Dn P w K mg base 9 "parting" f1 d1 ["mill", "state", "rings", "terms", "diary"] (eZ pv))(v9:Dn P w K mg base 1 "_law_right" f2 d2 ["found", "due"] (eZ EL))(fc:mg "list"=none):ba P w K mg base df 10 f fd ["mill", "state", "rings", "terms", "diary", "due"] (eZ tV):=by
 exact_mod_cast F.pW nU (by rintro ds R X ⟨a,b,c,d,g,h,i,e,_⟩;rw[e];rfl);refine⟨_,!("aeaC**cKgdfc.abR aa4agaeaC**cKgdfc.abR aa2agaeaC**aqGxhraa0aa1aa7aa3aa6agaiaxuLaqv9hraa8aa5aguLiDaJhu64uKiDaJhu72",6,nU.nd,7,nU.nd,8,nU.nd),?_⟩
 push_cast;rintro ds R ⟨rs,bs,st,ps,t,es,ue,rfl,hk,nq,Ao,q⟩;refine cA [_,_,_,_,_,_,none,none,none] rfl ?_
 ext
 refine sA (cj ?_)
 ext
 refine sA (cj ?_)
 ext
 refine bc (ds:=[bz rs bs,fE st,.list (ps.map pairD),j8 t,.list (es.map eB)]) ⟨rs,bs,st,ps,t,es,rfl,hk,nq,Ao,cH ?_⟩
 ext
 refine bc (ds:=[i4 (fT (qc rs bs st ps t) es),i4 ue]) ⟨_,ue,rfl,cH ?_⟩
 ext
 refine vZ (fun z=>?_) (fun z=>?_)
 .ext
  refine KW (d1:=.list (es.map eB)) bR bR (AG nq).1 (AG nq).2 ?_
  ext
  refine KW (d1:=.list (ps.map pairD)) bR bR (AH ps).1 (AH ps).2 ?_;rw[z]at q;exact q
 .rw[z]at q;exact q
theorem JK(F:cR K "_law_beginnings" "_law_beginnings" Gv f fd)(ar:Dn P w K mg base 1 "_law_draw" f1 d1 ["bag", "many"] (spT (bN Bg) iY))(eS:Dn P w K mg base 10 "_law_asked" f2 d2 ["mill", "state", "rings", "terms", "diary", "due"] (eZ tV))(bo:mg "range"=none)(bh:mg "len"=none):ba P w K mg base df 11 f fd ["bag", "mill", "state", "rings", "terms", "diary", "due"] (spT (bN Bg) LJ):=by
 exact_mod_cast F.KR pI cn rfl (by rintro n ds R ⟨a,b,c,d,g,h,i,e,_⟩;rw[e];rfl);refine⟨_,!("aeaTgwkGaqeShraa1aa2aa3aa4aa5aa6agaiaxkTawaejydPboaaafagaX**aeaC**aqarhraa0aabbbfbEbjbh.aa4 aa5agafagaeaC**6aeaTiT.w_and gE6bJaAzo8ak6afaiaC**cYawaiaTgwkGaqeShraa1aa2aa3aa4aajZjc5fueO8aa9agaiaxkTawaiaxkT",7,pI.nd,8,pI.nd,9,pI.nd,9,pI.nd),?_⟩
 clear hu;symm;refine fun t g O=>⟨_,inferInstance,?_⟩;rintro n ds R ⟨rs,bs,st,ps,tm,es,ue,rfl,hk,nq,Ao,hn,h1,h2,q⟩;refine cA [_,_,_,_,_,_,_,none,none,none] rfl ?_;have wt:WT t g n t=some (.aI g n):=av;generalize WT t g n=W at wt;refine ao ?_
 ext
 refine bc (ds:=[bz rs bs,fE st,.list (ps.map pairD),j8 tm,.list (es.map eB),i4 ue]) ⟨rs,bs,st,ps,tm,es,ue,rfl,hk,nq,@0,cH ?_⟩;rw[aa2 h1]
 ext
 refine ao ?_
 ext
 refine ji (fun i Y W=>∃(k:Nat) (u1 u2 u3:Option DV),Y=[some (.pt t),some (.im (bz rs bs)),some (.im (fE st)),some (.im (.list (ps.map pairD))),some (.im (j8 tm)),some (.im (.list (es.map eB))),some (.im (i4 ue)),u1,u2,u3]/\W t=some (.aI g k)/\k<=n+i) ⟨n,_,_,_,rfl,wt,@0⟩ ?_ ?_
 .clear wt;rintro i Y W hi ⟨k,u1,u2,u3,rfl,wt,TC⟩;have hi3:i < 3:=hi
  ext
  rw[aav];refine aY wt @0 @0 @0 fun z W2 z0 z1 wt f2=>?_;obtain⟨m,rfl⟩:=aco z0;have hm:m<=es.length:=by omega
  ext
  refine gf (fun Y W'=>W2=W'/\Y=[some (.pt t),some (.im (bz rs bs)),some (.im (fE st)),some (.im (.list (ps.map pairD))),some (.im (j8 tm)),some (.im (.list (es.map eB))),some (.im (i4 ue)),some (.im (.int ((0:Int)+(i:Nat)))),some (.im (.int (m:Nat))),some (.im (i4 (kF m ue)))]) (fun kk jn=>?_) ?_
  .rcases ue with _ | ⟨di,dx⟩
   .dsimp only[i4]
    ext
    exact jn _ _ ⟨rfl,rfl⟩
   .dsimp only[i4]
    ext
    refine fi (fun c=>?_) (fun c=>?_)
    .ext
     exact jn _ _ ⟨rfl,by rw[show kF m (some (di,dx))=none from aaO c];rfl⟩
    .exact jn _ _ ⟨rfl,by rw[show kF m (some (di,dx))=some (di,dx) from aaD c];rfl⟩
  rintro Y _ ⟨rfl,rfl⟩
  ext
  refine KZ ?_;rw[pH,<- acW];refine cj ?_
  ext
  refine bc (ds:=[bz rs bs,fE st,.list (ps.map pairD),j8 tm,.list ((es.take m).map eB),i4 (kF m ue)]) ⟨rs,bs,st,ps,tm,es.take m,kF m ue,rfl,hk,fun e he=>nq e (acI he),by rw[abc];omega,cH ?_⟩;rw[aa2 (h2 m hm)]
  ext
  exact⟨_,_,_,_,rfl,wt,@0⟩
 .clear wt;rintro Y W ⟨k,u1,u2,u3,rfl,wt,TC⟩
  ext
  exact⟨_,wt,q k (by have:(3:Int).toNat=3:=rfl;omega)⟩
end
abbrev za:Stmt:=top 43
abbrev sTerms:Stmt:=top 44
theorem nV:az ["bag", "mill", "base", "rings", "turn", "at"] ["bag", "mill", "base"] (defScope za):=by ac_rfl
theorem tW:az ["bag", "small", "k"] ["bag"] (defScope sTerms):=by ac_rfl
noncomputable def Gy:uU:=fun n ds R=>∃(rs:List Rw) (bs:wn) (base:Int),ds=[bz rs bs,.int base]/\bs.length<=4/\n<=990000000/\∀(ps:ut) (n':Nat),ps.length<=8->(∀ p∈ps,0<=p.2/\p.2 < bs.length)->n'<=n+1000->R (.nw (ps.map pairD)) n'
def AL:uU:=fun n ds R=>ds=[]/\n<=990000000/\∀(a b c d e:Int) (n':Nat),1<=a->1<=c->0<=e->n'<=n+100->R (.im (.tuple [.int a,.int b,.int c,.int d,.int e])) n'
section
variable {K:zn}
theorem Gz{fF:Addr}{X6:wT}(F:cR K "_law_rings" "_law_rings" za f fd)(ar:Dn P w K mg base 1 "_law_draw" fD O1 ["bag", "many"] (spT (bN Bg) iY))(eU:Dn P w K mg base 2 "_law_far" fF X6 ["bag"] (spT (bN Bg) IQ))(bo:mg "range"=none)(bh:mg "len"=none):ba P w K mg base df 3 f fd ["bag", "mill", "base"] (spT (bN Bg) Gy):=by
 exact_mod_cast F.KR nV cn rfl (by nofun);refine⟨_,!("aeaC**bDagaeaTaAbMhuak1afbragaijydPboaaaqarhraa0aaafagagaX**aeaC**bDaabbbf2aqarhraa0aaafagaaaqarhraa0aaafagaabbbfbbbf2afaqeUhraa0agagaieMj1.aaZ .aa9 .aba dm3aabraaak5akbDcz.rfl aqarhraa0aaafagaaaqarhraa0aabEbjbh.aa4 aaak1afagagagagawaiax3",3,nV.nd,4,nV.nd,5,nV.nd),?_⟩
 clear hu;symm;refine fun t g O=>⟨_,inferInstance,?_⟩;rintro n ds R ⟨rs,bs,bt,rfl,b4,hn,q⟩;refine cA [_,_,_,none,none,none] rfl ?_;have wt:WT t g n t=some (.aI g n):=av;generalize WT t g n=W at wt
 ext
 refine gF (aaY _) fun p W1 hp wp fp=>?_;replace wt:=fp.at (sv wt hp) wt;have GA:p≠t:=fun z=>by rw[z,wt]at wp;cases wp
 clear hp fp
 ext
 refine ao ?_
 ext
 refine aH (ds:=[]) (aaY _) ?_;refine KU bR bR (.inr ⟨eJ _,rfl,aaE (ac7 ..) @1⟩) ?_;rw[show PyData.eqv (.tuple (bs.map .int)) (.tuple [])=decide (bs=[]) by cases bs<;>rfl]
 ext
 refine oI (fun jx=>?_) (fun _=>?_)
 .have b1:=ado.mpr jx
  ext
  refine aY wt @0 @0 @0 fun m W3 m0 m1 wt f3=>?_;replace wp:=f3.at GA wp;clear f3
  ext
  refine ji (fun i Y W=>∃(ps:ut) (u4 u5:Option DV) (k:Nat),Y=[some (.pt t),some (.im (bz rs bs)),some (.im (.int bt)),some (.pt p),u4,u5]/\ps.length<=i/\(∀ p∈ps,0<=p.2/\p.2 < (bs.length:Int))/\W p=some (.lst ((ps.map pairD).map .im))/\W t=some (.aI g k)/\k<=n+2+11 * i) ⟨[],_,_,_,rfl,aaC _,(fun p hp=>by cases hp),wp,wt,@0⟩ ?_ ?_
  .clear wp wt;rintro i Y W hi ⟨ps,u4,u5,k,rfl,hl,hb,wp,wt,hk⟩;have aao:i < 8:=by omega
   ext
   refine aY wt @0 @0 @0 fun x1 W6 _ _ wt f6=>?_;replace wp:=f6.at GA wp
   ext
   refine aY wt @0 @0 @0 fun x2 W7 _ _ wt f7=>?_;replace wp:=f7.at GA wp
   ext
   refine cT (ds:=[]) wt ⟨rfl,@0,fun x3 n3 _ hn3=>?_⟩;replace wp:=(show aG W7 t (.aI g n3) p=_ from (aB GA).trans wp);have G0:aG W7 t (.aI g n3) t=some (.aI g n3):=av;refine cH ?_
   ext
   generalize aG W7 t (.aI g n3)=W8 at wp G0 ⊢;refine cO (ds:=[bt+x1,x2,bt+30+x3].map PyData.int) (by show 3<=sizeLine;decide) ?_
   ext
   refine cO (ds:=[0,0,0,1,2].map PyData.int) (by show 5<=sizeLine;decide) ?_
   ext
   refine aY G0 @0 @0 @0 fun kc W4 a0 a1 wt f4=>?_;replace wp:=f4.at GA wp;refine fk a0 (by simpa using a1) fun kd GZ=>?_;have GZ:0<=kd/\kd < 3:=by simp at GZ;omega
   ext
   refine fk GZ.1 GZ.2 fun z _=>?_
   ext
   rw[aav];refine aY wt @0 @0 @0 fun kb W5 e0 e1 wt f5=>?_;replace wp:=f5.at GA wp
   ext
   refine aH (ds:=[.int z,.int kb]) (by show 2<=sizeLine;decide) ?_
   ext
   refine dS wp (by rw[aav,aav];exact bK @0) fun W9 w9 f9=>?_;refine⟨ps++[(z,kb)],_,_,_,rfl,by rw[aaV];simp;omega,fun x hx=>?_,by rw[w9];simp[pairD],f9.at GA.symm wt,@0⟩;rcases abn.mp hx with h | h
   .exact hb x h
   .rw[abk.mp h];exact⟨e0,@0⟩
  .clear wp wt;rintro Y W ⟨ps,u4,u5,k,rfl,hl,hb,wp,wt,hk⟩
   ext
   exact⟨_,wt,kx wp (q ps k @0 hb @0)⟩
 .ext
  exact⟨_,wt,kx (ds:=[]) wp (q [] n (aaY _) (fun p hp=>by cases hp) @0)⟩
theorem GB{fF:Addr}{X6:wT}(F:cR K "_law_terms" "_law_terms" sTerms f fd)(ar:Dn P w K mg base 1 "_law_draw" fD O1 ["bag", "many"] (spT (bN Bg) iY))(eU:Dn P w K mg base 2 "_law_far" fF X6 ["bag"] (spT (bN Bg) IQ))(bo:mg "range"=none)(cU:mg "tuple"=none):ba P w K mg base df 3 f fd ["bag"] (spT (bN Bg) AL):=by
 exact_mod_cast F.KR tW cn rfl (by nofun);refine⟨_,!("aeaC**bDaabbbfafaqarhraa0aaafagaaaqarhraa0aaafagaabbbfafaqarhraa0aaafagaaaqarhraa0aaafagaaaqarhraa0aaafagagaejydPboaaafagaX**aiaTaAaJhuaqarhraa0aaafagafaizGbbbfafaqeUhraa0agzH12.set_list awaiaxcKgScU.abz aa1ag",1,tW.nd,2,tW.nd),?_⟩
 clear hu;symm;refine fun t g O=>⟨_,inferInstance,?_⟩;rintro n ds R ⟨rfl,hn,q⟩;refine cA [_,none,none] rfl ?_;have wt:WT t g n t=some (.aI g n):=av;generalize WT t g n=W at wt
 ext
 refine aY wt @0 @0 @0 fun y1 W1 y10 _ wt _=>?_
 ext
 refine aY wt @0 @0 @0 fun y2 W2 _ _ wt _=>?_
 ext
 refine aY wt @0 @0 @0 fun y3 W3 y30 _ wt _=>?_
 ext
 refine aY wt @0 @0 @0 fun y4 W4 _ _ wt _=>?_
 ext
 refine aY wt @0 @0 @0 fun y5 W5 y50 _ wt _=>?_
 ext
 refine gF (by show 5<=sizeLine;decide) fun p W6 hp wp fp=>?_;replace wt:=fp.at (sv wt hp) wt;have GA:p≠t:=fun z=>by rw[z,wt]at wp;cases wp
 clear hp fp
 ext
 refine ao ?_
 ext
 refine ji (fun i Y W=>∃(xs:wn) (u2:Option DV) (k:Nat),Y=[some (.pt t),some (.pt p),u2]/\xs.length=5/\(1<=xs.getD 0 0/\1<=xs.getD 2 0/\0<=xs.getD 4 0)/\W p=some (.lst ((xs.map PyData.int).map .im))/\W t=some (.aI g k)/\k<=n+5+8 * i) ⟨[1+y1,y2,1+y3,y4,y5],_,_,rfl,rfl,⟨by show 1<=1+y1;omega,by show 1<=1+y3;omega,by show 0<=y5;omega⟩,wp,wt,@0⟩ ?_ ?_
 .clear wp wt;rintro i Y W hi ⟨xs,u2,k,rfl,hl,h1,wp,wt,hk⟩;have hi5:i < 5:=hi;rw[Int.zero_add]
  ext
  refine aY wt @0 @0 @0 fun z W7 _ _ wt f7=>?_;replace wp:=f7.at GA wp
  ext
  refine fi (fun _=>?_) (fun _=>?_)
  .ext
   refine cT (ds:=[]) wt ⟨rfl,@0,fun Qe n3 f0 hn3=>?_⟩;replace wp:=(show aG W7 t (.aI g n3) p=_ from (aB GA).trans wp);have G0:aG W7 t (.aI g n3) t=some (.aI g n3):=av;refine cH ?_
   ext
   refine yO wp @0 @0 fun W8 w8 f8=>?_;refine⟨xs.set i (1+Qe),_,_,rfl,by simp[hl],?_,w8,f8.at (acD GA) G0,@0⟩
   obtain⟨x1,x2,x3,x4,x5,rfl⟩:=_root_.zq5 hl
   obtain⟨a1,a2,a3⟩:=h1;obtain rfl | rfl | rfl | rfl | rfl:i=0\/i=1\/i=2\/i=3\/i=4:=by omega
   .exact⟨by show 1<=1+Qe;omega,a2,a3⟩
   .exact⟨a1,a2,a3⟩
   .exact⟨a1,by show 1<=1+Qe;omega,a3⟩
   .exact⟨a1,a2,a3⟩
   .exact⟨a1,a2,by show 0<=1+Qe;omega⟩
  .exact⟨xs,_,_,rfl,hl,h1,wp,wt,@0⟩
 .clear wp wt;rintro Y W ⟨xs,u2,k,rfl,hl,h1,wp,wt,hk⟩
  ext
  obtain⟨x1,x2,x3,x4,x5,rfl⟩:=_root_.zq5 hl
  refine⟨_,rfl,.inl ⟨_,[x1,x2,x3,x4,x5].map .int,W,nJ wp,fL (fun _ _=>rfl) _,?_⟩⟩;exact⟨_,wt,q x1 x2 x3 x4 x5 k h1.1 h1.2.1 h1.2.2 (by have:(5:Int).toNat=5:=rfl;omega)⟩
end
def wU(K:zn)(C:Addr)(x q:Str)(st:Stmt):Prop:=∃ f fd,cR K x q st f fd/\Meth K C x f
theorem iq{K:zn}{x q:Str}{st:Stmt}{oc:Value}{od an:wS}{xl:Array wP}{kV doc pm bB ct:Value}(a:autoParam (PySem.W.findIn K (.ref C) x=some (some (.ref f))) ra6)(l:autoParam (K.lookup f=some ⟨oc,od,.func (PySem.W.fnOf x q (defArgs st) (defBody st) (defScope st) .none kV doc pm an bB ct),xl⟩) ra6)(c:autoParam (PySem.W.codeIn K bB q=true) ra6)(k:autoParam (PySem.W.keepIn K (.ref f)=true) ra6)(n:PySem.W.isFn K (.ref f)=true:=by first | k_is | kernel_rfl):wU K C x q st:=⟨_,_,lM l c k,a,n,k⟩
def MkF(K:zn)(C:Addr)(q:Str)(st:Stmt):Prop:=∃ f fd,cR K "__init__" q st f fd/\Mk K C f
theorem PL{K:zn}{q:Str}{st:Stmt}{oc:Value}{od an:wS}{xl:Array wP}{kV doc pm bB ct:Value}(m:PySem.W.makesIn K C=true)(a:PySem.W.findIn K (.ref C) "__init__"=some (some (.ref f)))(l:K.lookup f=some ⟨oc,od,.func (PySem.W.fnOf "__init__" q (defArgs st) (defBody st) (defScope st) .none kV doc pm an bB ct),xl⟩)(c:PySem.W.codeIn K bB q=true)(k:PySem.W.keepIn K (.ref f)=true)(n:PySem.W.isFn K (.ref f)=true)(kc:PySem.W.keepIn K (.ref C)=true):MkF K C q st:=⟨_,_,lM l c k,m,a,n,kc⟩
def GC(K:zn)(C:Addr):wv->Prop
 | []=>True
 | f::r=>cM K C f/\GC K C r
theorem GC.mem{K:zn}{C:Addr}:∀{ns:wv},GC K C ns->∀ f∈ns,cM K C f
 | _::_,h,f,hf=>by
  rcases aaA.mp hf with z | z
  .rw[z];exact h.1
  .exact GC.mem h.2 f z
theorem JL{K:zn}{ns:wv}(pg:PySem.W.plainGet K C Str.empty=true)(hd:PySem.W.hasDictIn K C=true)(po:PySem.W.plainOver K C=true)(sa:PySem.W.findIn K (.ref C) "__setattr__"=some (some (.builtin "object.__setattr__")))(na:GC K C ns):gH K C ns:=⟨⟨pg,hd,po,sa⟩,fun f hf=>na.mem f hf⟩
structure tX(K:zn)(C:Addr):Prop where
 cls:gH K C bT
 US:MkF K C "Holder.__init__" yJ
 m1:wU K C "tell" "Holder.tell" FJ
 m2:wU K C "first_broken" "Holder.first_broken" tM
 m3:wU K C "broken_by_end" "Holder.broken_by_end" yE
 m4:wU K C "broken_by_wrote" "Holder.broken_by_wrote" pe
 m5:wU K C "broken_by_late" "Holder.broken_by_late" tF
 m6:wU K C "broken_by_down" "Holder.broken_by_down" tG
 m7:wU K C "broken_by_bell" "Holder.broken_by_bell" tH
 m8:wU K C "row_now" "Holder.row_now" Fw
 m9:wU K C "waiting_by" "Holder.waiting_by" sY
 X7:wU K C "is_pressed" "Holder.is_pressed" o9
 X8:wU K C "ends_at" "Holder.ends_at" sZ
 X9:wU K C "take_up" "Holder.take_up" tP
 Yb:wU K C "take_end" "Holder.take_end" pk
 Yc:wU K C "take_bell" "Holder.take_bell" mh
 Yd:wU K C "parted" "Holder.parted" tf
section
variable {K:zn}
theorem NR{us:List J}(h:us.length=1):∃ a,us=[a]:=match us,h with | [a],_=>⟨a,rfl⟩
theorem wK{us:List J}(h:us.length=2):∃ a b,us=[a,b]:=match us,h with | [a,b],_=>⟨a,b,rfl⟩
theorem us3{us:List J}(h:us.length=3):∃ a b c,us=[a,b,c]:=match us,h with | [a,b,c],_=>⟨a,b,c,rfl⟩
theorem us5{us:List J}(h:us.length=5):∃ a b c d e,us=[a,b,c,d,e]:=match us,h with | [a,b,c,d,e],_=>⟨a,b,c,d,e,rfl⟩
theorem JM{aN g1 g2 g3 g4 g5 g6 g7 g8:Addr}{e1 e2 e3 e4 e5 e6 e7 e8:wT}(F:cR K "parting" "parting" ly f fd)(h:tX K kH)(pJ:mg "Holder"=some (.ref kH))(LK:Dn P w K mg base 4 "step" g1 e1 ["mill", "state"] (ky (eZ (SStep aR))))(TF:Dn P w K mg base 2 "bell" g2 e2 ["mill", "state", "k"] (ky (eZ (E8 aN aS))))(PM:Dn P w K mg base 1 "thing_of" g3 e3 ["wrote"] (eZ yx))(TH:Dn P w K mg base 1 "is_slow" g4 e4 ["row"] (eZ Fj))(TJ:Dn P w K mg base 2 "bells_waiting" g5 e5 ["rings", "taken", "beat"] (eZ Fi))(PN:Dn P w K mg base 1 "rests" g6 e6 ["mill", "state"] (eZ sQ))(PQ:Dn P w K mg base 1 "spots_read" g7 e7 ["row"] (eZ yv))(TK:Dn P w K mg base 1 "spot_written" g8 e8 ["row"] (eZ Ay))(bh:mg "len"=none)(mJ:mg "any"=none)(fc:mg "list"=none):ba P w K mg base df 9 f fd ["mill", "state", "rings", "terms", "diary"] (eZ pv):=by
 obtain⟨f1,d1,F1,M1⟩:=h.m1;obtain⟨f2,d2,F2,M2⟩:=h.m2;obtain⟨f3,d3,F3,M3⟩:=h.m3;obtain⟨f4,d4,F4,M4⟩:=h.m4;obtain⟨f5,d5,F5,M5⟩:=h.m5;obtain⟨f6,d6,F6,M6⟩:=h.m6;obtain⟨f7,d7,F7,M7⟩:=h.m7;obtain⟨f8,d8,F8,M8⟩:=h.m8;obtain⟨f9,d9,F9,M9⟩:=h.m9;obtain⟨Ye,Yg,U3,M10⟩:=h.X7;obtain⟨Qf,Yh,U4,M11⟩:=h.X8;obtain⟨Yi,Yj,U5,M12⟩:=h.X9;obtain⟨Yk,Yl,U6,M13⟩:=h.Yb;obtain⟨Ym,Yn,U7,M14⟩:=h.Yc;obtain⟨Yo,Yp,U8,M15⟩:=h.Yd;obtain⟨f0,d0,F0,M0⟩:=h.US;have c:=h.cls.c;have cN:=h.cls;have N8:jH P w K mg base 1 kH "row_now" f8 d8 ["self"] (fY K (Fv kH)):=⟨c,M8,Jk F8 cN,F8.binds fun _ _ _ _ _ _ us hl=>by obtain⟨_,rfl⟩:=NR hl;rfl⟩;have N9:jH P w K mg base 3 kH "waiting_by" f9 d9 ["self", "beat"] (fY K (nP kH)):=⟨c,M9,BU F9 cN TJ,F9.binds fun _ _ _ _ _ _ us hl=>by obtain⟨_,_,rfl⟩:=wK hl;rfl⟩;have N10:jH P w K mg base 4 kH "is_pressed" Ye Yg ["self", "beat"] (fY K (lr kH)):=⟨c,M10,yB U3 cN N9 bh,U3.binds fun _ _ _ _ _ _ us hl=>by obtain⟨_,_,rfl⟩:=wK hl;rfl⟩;have N11:jH P w K mg base 1 kH "ends_at" Qf Yh ["self", "beat"] (fY K (nQ kH)):=⟨c,M11,BV U4 cN,U4.binds fun _ _ _ _ _ _ us hl=>by obtain⟨_,_,rfl⟩:=wK hl;rfl⟩;have N15:jH P w K mg base 1 kH "parted" Yo Yp ["self"] (fY K (sX kH)):=⟨c,M15,BW U8 cN,U8.binds fun _ _ _ _ _ _ us hl=>by obtain⟨_,rfl⟩:=NR hl;rfl⟩;have N4:jH P w K mg base 5 kH "broken_by_wrote" f4 d4 ["self", "row", "wrote"] (fY K (pd kH)):=⟨c,M4,yC F4 cN LK PM TH bh,F4.binds fun _ _ _ _ _ _ us hl=>by obtain⟨_,_,_,rfl⟩:=us3 hl;rfl⟩;have N5:jH P w K mg base 1 kH "broken_by_late" f5 d5 ["self", "event"] (fY K (tq kH)):=⟨c,M5,BX F5 cN bh,F5.binds fun _ _ _ _ _ _ us hl=>by obtain⟨_,_,rfl⟩:=wK hl;rfl⟩;have N6:jH P w K mg base 1 kH "broken_by_down" f6 d6 ["self", "event"] (fY K (tD kH)):=⟨c,M6,BY F6 cN bh,F6.binds fun _ _ _ _ _ _ us hl=>by obtain⟨_,_,rfl⟩:=wK hl;rfl⟩;have N7:jH P w K mg base 4 kH "broken_by_bell" f7 d7 ["self", "event"] (fY K (tE kH)):=⟨c,M7,BZ F7 cN N9,F7.binds fun _ _ _ _ _ _ us hl=>by obtain⟨_,_,rfl⟩:=wK hl;rfl⟩;have N3:jH P w K mg base 6 kH "broken_by_end" f3 d3 ["self", "event"] (fY K (yD kH)):=⟨c,M3,FF F3 cN PN N11 N10 N8 PQ TK N4 mJ,F3.binds fun _ _ _ _ _ _ us hl=>by obtain⟨_,_,rfl⟩:=wK hl;rfl⟩;have N2:jH P w K mg base 7 kH "first_broken" f2 d2 ["self", "event"] (fY K (tL kH)):=⟨c,M2,B0 F2 cN N3 N5 N6 N7 mJ,F2.binds fun _ _ _ _ _ _ us hl=>by obtain⟨_,_,rfl⟩:=wK hl;rfl⟩;have N13:jH P w K mg base 5 kH "take_end" Yk Yl ["self", "beat", "wrote"] (fY K (pj kH)):=⟨c,M13,yG U6 cN N10 LK,U6.binds fun _ _ _ _ _ _ us hl=>by obtain⟨_,_,_,rfl⟩:=us3 hl;rfl⟩;have N14:jH P w K mg base 3 kH "take_bell" Ym Yn ["self", "k"] (fY K (mf kH)):=⟨c,M14,vN U7 cN TF,U7.binds fun _ _ _ _ _ _ us hl=>by obtain⟨_,_,rfl⟩:=wK hl;rfl⟩;have N12:jH P w K mg base 6 kH "take_up" Yi Yj ["self", "event"] (fY K (tO kH)):=⟨c,M12,B1 U5 cN N11 N13 N14,U5.binds fun _ _ _ _ _ _ us hl=>by obtain⟨_,_,rfl⟩:=wK hl;rfl⟩;have N1:jH P w K mg base 8 kH "tell" f1 d1 ["self", "event"] (fY K (FH kH)):=⟨c,M1,Jp F1 cN N2 N12,F1.binds fun _ _ _ _ _ _ us hl=>by obtain⟨_,_,rfl⟩:=wK hl;rfl⟩;have C0:Xi P w K mg base 1 kH "Holder" f0 d0 ["self", "mill", "state", "rings", "terms"] (fY K (yI kH)):=⟨M0,FL F0 cN fc,F0.binds fun _ _ _ _ _ _ us hl=>by obtain⟨_,_,_,_,_,rfl⟩:=us5 hl;rfl,pJ⟩;exact yK F cN C0 N1 N15
end
abbrev tY:Stmt:=top 60
theorem fV:az ["script", "bag", "mill", "state", "base", "rings", "terms", "now", "diary", "looser", "more", "off", "at", "beat", "number", "worth", "stray"] ["script"] (defScope tY):=by ac_rfl
theorem AM:∀{es:List Ev} {h h1:HM},bQ h es=some h1->h1.au=(es.getLast?.map Ev.au).getD h.au
 | [],h,_,f=>by cases f;rfl
 | [e],h,h1,f=>by
  obtain⟨_,f⟩:=dF f;cases f;rfl
 | e::e2::es,h,h1,f=>by
  obtain⟨_,f⟩:=dF f;rw[AM f];cases q:(e2::es).getLast? with
  | none=>simp at q
  | some z=>rw[List.getLast?_cons_cons,q];rfl
theorem rq:∀ qs:List (Int×Int),iF (qs.map pairD)=true
 | []=>rfl
 | q::qs=>by show(Im (pairD q)&&iF (qs.map pairD))=true;rw[rq qs];rfl
theorem part_of{h1:HM}(c:h.cause=none)(f:bQ h es=some h1):fT h es=none:=by
 have:=(mm (r:=[]) c f).1;rw[acu]at this;exact this
theorem wa{h1:HM}(c:h.cause=none)(f:bQ h es=some h1)(k:Nat):fT h (es.take k)=none:=by
 rw[<- ac4 k es]at f;obtain⟨h2,f2,_⟩:=lD f;exact part_of c f2
theorem zc{hx:HM}{pre post:List Ev}{e:Ev}(c:h.cause=none)(f:bQ h pre=some hx)(b:hx.aU e=some ("stray":Str))(ev:hx.events=pre.length)(k:Nat):fT h ((pre++e::post).take k)=kF k (some ((pre.length:Int),("stray":Str))):=by
 show _=if(k:Int)<=(pre.length:Int)then none else some ((pre.length:Int),("stray":Str))
 by_cases hk:(k:Int)<=pre.length
 .rw[aaO hk,List.take_append_of_le_length @0];exact wa c f k
 .rw[aaD hk];obtain⟨j,rfl⟩:∃ j,k=pre.length+(j+1):=⟨k - pre.length - 1,@0⟩;rw[List.take_append,abA @0,show pre.length+(j+1) - pre.length=j+1 by omega,adm,(mm c f).1,vT b,ev]
theorem GD(xs:List J){k:Nat}(h:k<=xs.length):cutD xs (some (k:Int)) none=xs.drop k:=by
 unfold cutD HT.dG;have:¬ ((k:Int) < 0):=by omega
 simp[this];rw[adn h,abA @2]
section
variable {K:zn}
theorem PR{f5 f6 f7 f8 f9 g1 g2 g3 g4 g5:Addr}{d6 d7 d8 d9 e1 e2 e3 e4 e5:wT}(F:cR K "law" "law" tY f fd)(Ce:Dn P w K mg base 1 "_law_bag" f1 d1 ["script"] (Il K (bN Bg)))(ar:Dn P w K mg base 1 "_law_draw" f2 d2 ["bag", "many"] (spT (bN Bg) iY))(eU:Dn P w K mg base 2 "_law_far" f3 d3 ["bag"] (spT (bN Bg) IQ))(fA:Dn P w K mg base 2 "_law_worth" g1 e1 ["bag"] (spT (bN Bg) sL))(zd:Dn P w K mg base 4 "_law_mill" f4 d4 ["bag"] (spT (bN Bg) Lq))(wb:Dn P w K mg base 3 "_law_state" f5 d5 ["bag", "mill"] (spT (bN Bg) FO))(we:Dn P w K mg base 3 "_law_rings" f6 d6 ["bag", "mill", "base"] (spT (bN Bg) Gy))(wj:Dn P w K mg base 3 "_law_terms" f7 d7 ["bag"] (spT (bN Bg) AL))(wm:Dn P w K mg base 1 "_law_begin" f8 d8 ["state"] (kD K (bN Bg) FU))(ze:Dn P w K mg base 5 "_law_tale" f9 d9 ["bag", "mill", "rings", "terms", "now", "base"] (kD K (bN Bg) LF))(eS:Dn P w K mg base 10 "_law_asked" g2 e2 ["mill", "state", "rings", "terms", "diary", "due"] (eZ tV))(i7:Dn P w K mg base 11 "_law_beginnings" g3 e3 ["bag", "mill", "state", "rings", "terms", "diary", "due"] (spT (bN Bg) LJ))(lE:Dn P w K mg base 1 "_law_taken_rings" g4 e4 ["rings", "took"] (eZ LH))(wu:Dn P w K mg base 1 "_law_later" g5 e5 ["diary", "off"] (eZ Gs))(bo:mg "range"=none)(cU:mg "tuple"=none)(bh:mg "len"=none):ba P w K mg base df 12 f fd ["script"] (Ar K):=by
 exact_mod_cast F.R4 fV (cn (Iv:=Bg));refine⟨_,!("aeaC**aqCehraa0agaeaC**aqzdhraa1agaeaC**aqwbhraa1aa2agaeaC**akbDaaafaaafaaaqarhraa1aaafagaaaqeUhraa1agagaqarhraa1aaafagaeaC**aqwehraa1aa2aa4agaeaC**aqwjhraa1agaeaC**aqwmhraa3agaeaC**aqzehraa1aa2aa5aa6aa7aa4agaeaTgwkGaqi7hraa1aa2aa3aa5aa6aa8aacYagaiaxkTawaeaC**cKgScU.abz aa&**^Rq6?aX*~?gX?bbbf0akbDaaafaaafaaaqarhraa1aaafagaaaqeUhraa1agagaqarhraa1aaafagagaeaTgwkGaqeShraa2aa3aa5aa9aa8aacYagaiaxkTawae%***^*dPboaaafag?aX*~?gX?braabbbfbbbfaMhr2ajafaqarhraa1aaafagaaaqarhraa1aaafagagae%***^*cXah*?aX*~?fJaAgLak0afbEbjbh.aa4 aaak1afag?0aeaTgwkGaqeShraa2aa3aabbrTah*5aa6aa8aacYagaiaxkTawaeaTgwkGaqeShraa2aa3aaaqlEhraa5aaaMhr7ajagaa6aa8aacYagaiaxkTawaeaC**akbDaaafaaaqarhraa1aaafagaaaqeUhraa1agagaqarhraa1aaafagaeaTgwkGaqeShraa2aa3aa&**^cX5?jj*bSaX*~bSaX*~jd?gX?braabbbf02aa1agaa6aaaqwuhraa8aaah*agaacYagaiaxkTawaeaC**aqarhraa1aabbbfbEbjbh.aa4 aa8agafagaeaC**afaeaTaAuoah*afaiaC**akak8bbkjah*afafawaeaC**akbDaaHGrHafaabbkjHGrHafaqeUhraa1agaaaMhr7ajaabbbfaMhr7ajaqeUhraa1agagaqarhraa1aaafagaeaC**aqfAhraa1agaeaC**bbrTbbrTjZjc8fueOah*bDaabraaajaaah*aaah*aaah*agagjZjc8eOah*fuaiaxaqi7hraa1aa2aa3aa5aa6aaah*aabraaah*aaajagag",1,fV.nd,2,fV.nd,3,fV.nd,4,fV.nd,5,fV.nd,6,fV.nd,7,fV.nd,8,fV.nd,9,fV.nd,["one", "bag"],[none,some 1],0,10,["k", "bag", "now"],[none,some 1,some 7],fV.nd,0,10,["ring", "mill"],[none,some 2],fV.nd,10,0,10,11,fV.nd,["at", "k", "off"],[none,none,some 11],2,0,1,11,12,fV.nd,13,fV.nd,12,13,fV.nd,12,14,fV.nd,15,fV.nd,16,fV.nd,12,13,14,15,12,16,12),?_⟩
 clear hu;symm;refine⟨_,inferInstance,fun ns KS=>?_⟩;refine cA [_,none,none,none,none,none,none,none,none,none,none,none,none,none,none,none,none] rfl ?_
 ext
 refine⟨ns,rfl,KS,fun a z=>z,fun t g ht hg gt=>?_⟩;have wt:aG (aG W0 g .part) t (.aI g 0) t=some (.aI g 0):=av;generalize aG (aG W0 g .part) t (.aI g 0)=W1 at wt
 ext
 refine cT (ds:=[]) wt ⟨rfl,@0,fun rs bs n1 Tn hn1=>cH ?_⟩;replace wt:aG W1 t (.aI g n1) t=some (.aI g n1):=av;generalize aG W1 t (.aI g n1)=W2 at wt
 ext
 refine cT (ds:=[bz rs bs]) wt ⟨rs,bs,rfl,Tn.r2,@0,fun st n2 vE JX=>cH ?_⟩;replace wt:aG W2 t (.aI g n2) t=some (.aI g n2):=av;generalize aG W2 t (.aI g n2)=W3 at wt
 ext
 refine aY wt @0 @1 @1 fun b1 W4 _ _ wt _=>?_
 ext
 refine cT (ds:=[]) wt ⟨rfl,@0,fun Qe n4 _ hn4=>cH ?_⟩;replace wt:aG W4 t (.aI g n4) t=some (.aI g n4):=av;generalize aG W4 t (.aI g n4)=W5 at wt
 ext
 refine cO (ds:=[0,0,b1,Qe].map PyData.int) (by show 4<=sizeLine;decide) ?_
 ext
 refine aY wt @0 @1 @1 fun b2 W6 Yq Yr wt _=>?_;refine fk Yq (by simpa using Yr) fun bt _=>?_
 ext
 refine cT (ds:=[bz rs bs,.int bt]) wt ⟨rs,bs,bt,rfl,Tn.b1,@0,fun ps n5 oo PU hn5=>u0 ?_⟩;replace wt:aG W6 t (.aI g n5) t=some (.aI g n5):=av;generalize aG W6 t (.aI g n5)=W7 at wt
 ext
 refine cT (ds:=[]) wt ⟨rfl,@0,fun t1 t2 t3 t4 t5 n6 h1 h3 h5 hn6=>cH ?_⟩;replace wt:aG W7 t (.aI g n6) t=some (.aI g n6):=av;generalize aG W7 t (.aI g n6)=W8 at wt;have hk:∀ qs tm,qs.length<=60->(∀ p∈qs,0<=p.2/\p.2 < (bs.length:Int))->eV (qc rs bs st qs tm):=fun qs tm h1 h2=>⟨Tn,vE,h1,h2,aaY _,aaY _,aaY _⟩;have hk0:=hk ps ⟨t1,t2,t3,t4,t5⟩ @0 PU
 ext
 refine cE ⟨qc rs bs st ps ⟨t1,t2,t3,t4,t5⟩,rfl,rfl,rfl,rfl,rfl,rfl,rfl,rfl,vE,fun W9 a k9 _ hA=>?_⟩
 ext
 refine cE ⟨t,g,n6,a,qc rs bs st ps ⟨t1,t2,t3,t4,t5⟩,bt,rfl,k9 _ _ wt,@0,hk0,⟨aaY _,aaY _,aaY _⟩,⟨(fun o ho=>by cases ho),(fun o ho=>by cases ho),aa1 0,h5⟩,h1,h3,hA,fun W n a1 h2 es p ea hn wt hA Co nq Ao UP wp=>?_⟩;have hc:(qc rs bs st ps ⟨t1,t2,t3,t4,t5⟩).cause=none:=rfl;have how:Ow (qc rs bs st ps ⟨t1,t2,t3,t4,t5⟩):=⟨(fun o ho=>by cases ho),(fun o ho=>by cases ho),aa1 0,h5⟩;have pn:∀(qs:ut) (tm:UX) (ds:List Ev),(∃ x,bQ (qc rs bs st qs tm) ds=some x)->fT (qc rs bs st qs tm) ds=none:=fun qs tm ds zz=>(by obtain⟨x,hx⟩:=zz;exact part_of rfl hx);clear hk0 k9;have pt:p≠t:=fun z=>by rw[z,wt]at wp;cases wp
 rw[<- ea];clear ea;have asked:∀(V:Wd) (qs:ut) (tm:UX) (Q:DK) {v:DV},dat 4 V v=some (.list (qs.map pairD))->V p=some (.lst ((es.map eB).map .im))->qs.length<=60->(∀ p∈qs,0<=p.2/\p.2 < (bs.length:Int))->(∃ x,bQ (qc rs bs st qs tm) es=some x)->Q (.im (.bool true)) V->qE tV (fun _=>False) [.im (bz rs bs),.im (fE st),v,.im (j8 tm),.pt p,.im .none] V Q:=fun V qs tm Q v w0 w1 w2 w3 w4 w5=>by
  refine nK (ds:=[bz rs bs,fE st,.list (qs.map pairD),j8 tm,.list (es.map eB),i4 none]) (dN bR (dN bR (dN w0 (dN bR (dN (fv w1) (dN bR rfl)))))) ⟨rs,bs,st,qs,tm,es,none,rfl,hk _ _ w2 w3,nq,@0,⟨rfl,cH ?_⟩⟩;rw[aa2 (pn _ _ _ w4)];exact w5
 ext
 refine ao ?_
 ext
 refine Em (ds:=[bz rs bs,fE st,.list (ps.map pairD),j8 ⟨t1,t2,t3,t4,t5⟩,.list (es.map eB),i4 none]) wt (dN bR (dN bR (dN bR (dN bR (dN (fv wp) (dN bR rfl)))))) ⟨rs,bs,st,ps,_,es,none,rfl,hk _ _ @0 PU,nq,@0,@0,part_of hc Co,fun k _=>wa hc Co k,fun n9 hn9=>⟨rfl,cH ?_⟩⟩;have kt:Kt t W (aG W t (.aI g n9)):=Kt.refl.ws;have Gn:=wt;replace wt:aG W t (.aI g n9) t=some (.aI g n9):=av;generalize aG W t (.aI g n9)=V1 at kt wt
 ext
 refine gm (ds:=[t1,t2,t3,t4,t5].map PyData.int) (fun i ys W'=>∃(xs:wn) (k:Nat),ys=(xs.map PyData.int).map .im/\xs.length=i/\(∀ j,j < i->[t1,t2,t3,t4,t5].getD j 0<=xs.getD j 0)/\W' t=some (.aI g k)/\k<=n9+10 * i/\Kt t W W') (by show 5<=sizeLine;decide) ⟨[],n9,rfl,rfl,(fun j hj=>by omega),wt,@0,kt⟩ ?_ ?_
 .rintro i d ys W' hd _ ⟨xs,k,rfl,hl,hle,wt,TC,kt⟩;rw[aaz]at hd;obtain⟨z,hz,rfl⟩:=aaB.mp hd;have hi5:i < 5:=(aaH.mp hz).1
  ext
  refine aY wt @0 @0 @0 fun c1 W2 c10 _ wt f2=>?_
  ext
  refine cT (ds:=[]) wt ⟨rfl,@0,fun c2 n3 c20 hn3=>cH ?_⟩;have wt3:aG W2 t (.aI g n3) t=some (.aI g n3):=av;have kt3:=((kt.fr f2).ws (c:=.aI g n3));generalize aG W2 t (.aI g n3)=W3 at wt3 kt3 ⊢
  ext
  refine cO (ds:=[0,1,c1,c2].map PyData.int) (by show 4<=sizeLine;decide) ?_
  ext
  refine aY wt3 @0 @0 @0 fun c3 W4 c30 c31 wt4 f4=>?_;refine fk c30 (by simpa using c31) fun c4 hc4=>?_;have hc4:0<=c4:=by simp at hc4;omega
  ext
  refine⟨xs++[z+c4],_,@2,by simp[hl],fun j hj=>?_,wt4,@0,kt3.fr f4⟩;rw[abf,abf]
  by_cases c:j < i
  .have:=hle j c;rw[abf,abf]at this;rw[adx @0];exact this
  .obtain rfl:j=i:=by omega
   rw[hz,ads @0,hl,Nat.sub_self];show z<=z+c4;omega
 clear wt kt;rintro ys V2 ⟨xs,TL,rfl,U9,wx,wt,TM,kt⟩;replace U9:xs.length=5:=U9;replace wx:∀ j,j < 5->[t1,t2,t3,t4,t5].getD j 0<=xs.getD j 0:=wx;replace TM:TL<=n9+50:=TM;obtain⟨x1,x2,x3,x4,x5,rfl⟩:∃ x1 x2 x3 x4 x5,xs=[x1,x2,x3,x4,x5]:=match xs,U9 with | [a,b,c,d,e],_=>⟨a,b,c,d,e,rfl⟩
 refine cj ?_
 ext
 refine⟨_,rfl,.inl ⟨_,[x1,x2,x3,x4,x5].map .int,_,rfl,fL (fun _ _=>rfl) _,?_⟩⟩
 ext
 refine ao ?_
 ext
 refine asked V2 ps ⟨x1,x2,x3,x4,x5⟩ _ bR (kt _ _ wp pt) @0 PU (yS Co ⟨⟨rfl,rfl,rfl,rfl,rfl,rfl,rfl,rfl,rfl⟩,wx 0 @0,wx 1 @0,wx 2 @0,wx 3 @0,wx 4 @0,aa1 0,aa1 0⟩ rfl) ?_;clear wx U9
 ext
 refine kX (fun i ys W'=>∃(ms:ut) (k:Nat),ys=(ms.map pairD).map .im/\ms.length=i/\(∀ m∈ms,h2.au < m.1/\0<=m.2)/\W' t=some (.aI g k)/\k<=TL+2 * i/\Kt t W W') (by show 3<=sizeLine;decide) ⟨[],TL,rfl,rfl,(fun m hm=>by cases hm),wt,@0,kt⟩ ?_ ?_
 .rintro i ys W' hi _ ⟨ms,k,rfl,hl,hm,wt,TC,kt⟩;have hi3:i < 3:=hi;have w0:=fg (kt.at_ hA Gn)
  ext
  refine aY wt @0 @0 @0 fun c1 W2 c10 _ wt f2=>?_
  ext
  refine aY wt @0 @0 @0 fun c2 W3 c20 _ wt f3=>?_
  ext
  refine aH (ds:=[.int (h2.au+1+c1),.int c2]) (by show 2<=sizeLine;decide) ?_;refine⟨ms++[(h2.au+1+c1,c2)],_,by simp[pairD],by simp[hl],fun m K8=>?_,wt,@0,(kt.fr f2).fr f3⟩;rcases abn.mp K8 with c | c
  .exact hm m c
  .rw[abk.mp c];exact⟨by show h2.au < h2.au+1+c1;omega,c20⟩
 clear wt kt;have aap:TL<=10000:=by omega
 rintro ys V3 ⟨ms,n11,rfl,PK,Ys,wt,TN,kt⟩;replace PK:ms.length=3:=PK;replace TN:n11<=TL+6:=TN;refine cj ?_
 ext
 refine gm (fun i ys W'=>V3=W'/\ys=(((ms.take i).filter fun r=>decide (r.2 < (bs.length:Int))).map pairD).map .im) (by rw[aav];exact aaQ (bK @0)) ⟨rfl,rfl⟩ ?_ ?_
 .rintro j d ys _ hd _ ⟨rfl,rfl⟩;rw[aaz]at hd;obtain⟨r,hr,rfl⟩:=aaB.mp hd;have et:ms.take (j+1)=ms.take j++[r]:=by rw[aaU,hr];rfl
  rw[et,aa8];unfold pairD
  ext
  rw[aav];refine fi (fun e1=>?_) (fun e1=>?_)
  .ext
   exact⟨rfl,by simp[e1,pairD]⟩
  .exact⟨rfl,by simp[show ¬ r.2 < (bs.length:Int) from e1,pairD]⟩
 rintro ys _ ⟨rfl,rfl⟩;rw[aav,aa0];refine cj ?_;have TQ:(ms.filter fun r=>decide (r.2 < (bs.length:Int))).length<=3:=by rw[<- PK];exact abK ..
 have JN:∀ m∈ms.filter fun r=>decide (r.2 < (bs.length:Int)),h2.au < m.1/\0<=m.2/\m.2 < (bs.length:Int):=fun m hm=>by
  obtain⟨a1,a2⟩:=abg.mp hm;exact⟨(Ys m a1).1,(Ys m a1).2,abV a2⟩
 generalize ms.filter (fun r=>decide (r.2 < (bs.length:Int)))=mo at TQ JN
 ext
 refine ao ?_
 ext
 refine y0 (aaQ (bK (by rw[aav,aav];omega))) ?_;rw[<- abt]
 ext
 refine asked V3 (mo++ps) ⟨t1,t2,t3,t4,t5⟩ _ bR (kt _ _ wp pt) (by rw[aaV];omega) (fun m hm=>by
  rcases abn.mp hm with c | c
  .exact(JN m c).2
  .exact PU m c) (B8 Co ⟨⟨rfl,rfl,rfl,rfl,rfl,rfl,rfl,rfl,rfl⟩,aa1 _,aa1 _,aa1 _,aa1 _,aa1 _,aa1 0,aa1 0⟩ rfl fun m hm=>(JN m hm).1) ?_
 clear Ys JN TQ;have wk:V3 a1.tk=some (.lst ((h2.taken.map PyData.int).map .im)):=(kt.at_ hA Gn).get 5 rfl;have w3:=fg (kt.at_ hA Gn)
 ext
 refine ao ?_
 ext
 refine nK (ds:=[.list (ps.map pairD),.list (h2.taken.map .int)]) (dN bR (dN (fv wk) rfl)) ⟨ps,h2.taken,rfl,oo,@0,fun qs q1 q2 q3 q4=>⟨rq qs,SX fun p9 V4 g9 w9 f9=>?_⟩⟩
 ext
 replace wt:V4 t=some (.aI g n11):=f9.at (sv wt g9) wt;replace kt:Kt t W V4:=fun q c e hq=>f9.at (sv (kt q c e hq) g9) (kt q c e hq);refine asked V4 qs ⟨t1,t2,t3,t4,t5⟩ _ (fv w9) (kt _ _ wp pt) @0 (fun m hm=>PU m (q3 m hm)) (yT Co ⟨⟨rfl,rfl,rfl,rfl,rfl,rfl,rfl,rfl,rfl⟩,aa1 _,aa1 _,aa1 _,aa1 _,aa1 _,aa1 0,aa1 0⟩ q1 q2) ?_;clear q1 q2 q3 q4 wk
 ext
 refine aY wt @0 @0 @0 fun c5 W5 c50 _ wt f5=>?_
 ext
 refine cT (ds:=[]) wt ⟨rfl,@0,fun c6 Va c60 aaq=>cH ?_⟩;have PF:aG W5 t (.aI g Va) t=some (.aI g Va):=av;have Yt:=((kt.fr f5).ws (c:=.aI g Va));generalize aG W5 t (.aI g Va)=W6 at PF Yt ⊢
 ext
 refine cO (ds:=[1,c5,c6].map PyData.int) (by show 3<=sizeLine;decide) ?_
 ext
 refine aY PF @0 @0 @0 fun c7 W7 c70 c71 wt f7=>?_;refine fk c70 (by simpa using c71) fun off PV=>?_;have PV:0<=off:=by simp at PV;omega
 replace kt:=Yt.fr f7;clear Yt PF f7 f5 f9 c71 c70 c50
 ext
 refine ao ?_
 ext
 refine gm (fun i ys W'=>W7=W'/\ys=(((ps.take i).map fun r=>(r.1+off,r.2)).map pairD).map .im) (by rw[aav];exact aaQ (bK @0)) ⟨rfl,rfl⟩ ?_ ?_
 .rintro j d ys _ hd _ ⟨rfl,rfl⟩;rw[aaz]at hd;obtain⟨r,hr,rfl⟩:=aaB.mp hd;have et:ps.take (j+1)=ps.take j++[r]:=by rw[aaU,hr];rfl
  unfold pairD
  ext
  refine aH (ds:=[.int (r.1+off),.int r.2]) (by show 2<=sizeLine;decide) ?_;exact⟨rfl,by rw[et];simp[pairD]⟩
 rintro ys _ ⟨rfl,rfl⟩;rw[aav,aa0];refine cj ?_
 ext
 have Yu:∀ e∈es.map (Ev.later off),lx e:=fun e he=>by
  obtain⟨x,hx,rfl⟩:=abe.mp he;have:=nq x hx;cases x<;>exact this
 have ime:∀ l:List Ev,iF (l.map eB)=true:=fun l=>qw fun d hd=>by
  obtain⟨e,_,rfl⟩:=abe.mp hd;cases e with
  | fin b pl t=>rcases t with _ | ⟨k,x,v⟩<;>(try cases v)<;>rfl
  | dQ b n v=>rfl
  | down b n c v=>rfl
  | eE b k=>rfl
 refine nK (ds:=[.list (es.map eB),.int off]) (dN (fv (kt _ _ wp pt)) (dN bR rfl)) ⟨es,off,rfl,@0,⟨ime _,u0 ?_⟩⟩
 ext
 have Rk:(ps.map fun r=>(r.1+off,r.2)).length=ps.length:=aav _;have P6:∀ p∈ps.map fun r=>(r.1+off,r.2),0<=p.2/\p.2 < (bs.length:Int):=fun q hq=>by
  obtain⟨x,hx,rfl⟩:=abe.mp hq;exact PU x hx
 have Vb:=pn (ps.map fun r=>(r.1+off,r.2)) ⟨t1,t2,t3,t4,t5⟩ (es.map (Ev.later off)) (pD (h:=qc rs bs st ps ⟨t1,t2,t3,t4,t5⟩) (h':=qc rs bs st (ps.map fun r=>(r.1+off,r.2)) ⟨t1,t2,t3,t4,t5⟩) PV ⟨⟨rfl,rfl,rfl,rfl,rfl,rfl,rfl,rfl⟩,⟨rfl,rfl,rfl,rfl,rfl⟩,rfl,rfl,.inr ⟨rfl,rfl,rfl⟩⟩ Co);generalize (ps.map fun r=>(r.1+off,r.2))=qs at Rk P6 Vb ⊢;have Yv:(es.map (Ev.later off)).length<=4000:=by rw[aav];omega
 generalize es.map (Ev.later off)=wN at Yu Vb Yv ⊢;refine bc (ds:=[bz rs bs,fE st,.list (qs.map pairD),j8 ⟨t1,t2,t3,t4,t5⟩,.list (wN.map eB),i4 none]) ⟨rs,bs,st,qs,⟨t1,t2,t3,t4,t5⟩,wN,none,rfl,hk _ _ @0 P6,Yu,Yv,cH ?_⟩;rw[aa2 Vb];clear Yu Rk P6 Vb Yv;have wp7:=kt _ _ wp pt
 ext
 rw[aav,aav];refine aY wt @0 @0 @0 fun k1 W8 Tv UZ wt f8=>?_;obtain⟨m,rfl⟩:=aco Tv;replace kt:=kt.fr f8;clear wp7 f8;have wp8:=kt _ _ wp pt;have hm:m<=es.length:=by omega
 obtain⟨hx,fx,fr⟩:=lD (es:=es.take m) (r:=es.drop m) (by rw[ac4];exact Co);have LL:=AM fx
 ext
 refine gf (fun Y W'=>W8=W'/\Y=[some (.lH ns),some (.pt t),some (.im (bz rs bs)),some (.im (fE st)),some (.im (.int bt)),some (.im (.list (ps.map pairD))),some (.im (.tuple [.int t1,.int t2,.int t3,.int t4,.int t5])),some (.pt a1.p),some (.pt p),some (.im (.tuple ([x1,x2,x3,x4,x5].map PyData.int))),some (.im (.list (mo.map pairD))),some (.im (.int off)),some (.im (.int (m:Nat))),some (.im (.int hx.au)),none,none,none]) (fun kk jn=>?_) ?_
 .ext
  refine fi (fun c=>?_) (fun c=>?_)
  .obtain⟨e,he⟩:∃ e,es[m - 1]?=some e:=⟨_,aaT @0⟩;have TR:(es.take m).getLast?=some e:=by
    rw[List.getLast?_eq_getElem?,abc,adn hm,adD @0];exact he
   rw[TR]at LL;replace LL:hx.au=e.au:=LL
   ext
   refine eQ (v:=.im (eB e)) wp8 (by rw[show((m:Nat):Int) - 1=((m - 1:Nat):Int) by omega];exact bY (by rw[aaz,aaz,he];rfl)) ?_;cases e<;>(dsimp only[eB];ext;exact jn _ _ ⟨rfl,by rw[LL];rfl⟩)
  .obtain rfl:m=0:=by omega
   replace LL:hx.au=0:=LL;exact jn _ _ ⟨rfl,by rw[LL];rfl⟩
 clear LL wp8;rintro Y _ ⟨rfl,rfl⟩;have w8:=fg (kt.at_ hA Gn)
 ext
 refine cT (ds:=[]) wt ⟨rfl,@0,fun c8 Vc c80 aar=>cH ?_⟩;have Yw:aG W8 t (.aI g Vc) t=some (.aI g Vc):=av;have Vd:=kt.ws (c:=.aI g Vc);generalize aG W8 t (.aI g Vc)=W9 at Yw Vd ⊢;have w9:=fg (Vd.at_ hA Gn);clear w8 wt kt
 ext
 refine cT (ds:=[]) Yw ⟨rfl,@0,fun c9 Ve c90 aas=>cH ?_⟩;have wt:aG W9 t (.aI g Ve) t=some (.aI g Ve):=av;have kt:=Vd.ws (c:=.aI g Ve);generalize aG W9 t (.aI g Ve)=W10 at wt kt ⊢;clear w9 Yw Vd
 ext
 refine cO (ds:=[-1,-1 - c8,h2.ends,h2.ends+c9].map PyData.int) (by show 4<=sizeLine;decide) ?_
 ext
 refine aY wt @0 @0 @0 fun c10 XT TU TV wt Qf=>?_;refine fk TU (by simpa using TV) fun num TX=>?_;have TX:num < 0\/h2.ends<=num:=by simp at TX;omega
 replace kt:=kt.fr Qf;clear Qf TU TV
 ext
 refine cT (ds:=[]) wt ⟨rfl,@0,fun wr Vf _ aat=>cH ?_⟩;have TY:aG XT t (.aI g Vf) t=some (.aI g Vf):=av;have TZ:=kt.ws (c:=.aI g Vf);generalize aG XT t (.aI g Vf)=W12 at TY TZ ⊢;have T2:=TZ _ _ wp pt;clear wt kt;have aau:es.length<=100:=by omega
 ext
 refine uY T2 ?_;rw[pH,<- acW,<- acW];refine cj ?_
 ext
 refine aH (ds:=[.str "late",.int hx.au,.int num,.int wr]) (by show 4<=sizeLine;decide) ?_
 ext
 refine cO (ds:=[eB (.dQ hx.au num wr)]) (by show 1<=sizeLine;decide) ?_
 ext
 have l1:((es.take m).map eB).length<=100:=by rw[aav,abc];omega
 refine y0 (aaQ (bK (by show _+1<=_;omega))) ?_
 ext
 refine uY T2 ?_;rw[GD _ (by rw[aav,aav];exact hm),<- acX,<- acX];refine cj ?_
 ext
 refine y0 (aaQ (bK (by rw[aaV,aav (f:=eB) (as:=es.drop m),abG];show _+1+_<=_;omega))) ?_;rw[show(es.take m).map eB++[eB (.dQ hx.au num wr)]++(es.drop m).map eB=(es.take m++.dQ hx.au num wr::es.drop m).map eB by simp]
 ext
 refine aH (ds:=[.int (m:Nat),.str "stray"]) (by show 2<=sizeLine;decide) ?_
 ext
 have T3:=(tT how fx).1;have Y7:=(tT T3 fr).2;have wG:=yV (v:=wr) T3 (n:=num) @0;have hev:hx.events=((es.take m).length:Int):=by rw[AI fx];show(0:Int)+_=_;omega
 have PK:(es.take m).length=m:=by rw[abc];omega
 have sp:=zc (post:=es.drop m) hc fx wG hev;rw[PK]at sp;have s1:=sp (es.take m++.dQ hx.au num wr::es.drop m).length;rw[aa0]at s1;have qp:(es.take m++Ev.dQ hx.au num wr::es.drop m).length=es.length+1:=by rw[aaV,aaX,abG,PK];omega
 refine cT (ds:=[bz rs bs,fE st,.list (ps.map pairD),j8 ⟨t1,t2,t3,t4,t5⟩,.list ((es.take m++Ev.dQ hx.au num wr::es.drop m).map eB),i4 (some ((m:Int),("stray":Str)))]) TY ⟨rs,bs,st,ps,⟨t1,t2,t3,t4,t5⟩,_,_,rfl,hk _ _ @0 PU,(fun e he=>?_),@0,@0,s1.trans (aaD (by rw[qp];omega)),fun k _=>sp k,fun n9 hn9=>cH rfl⟩
 .rcases abn.mp he with c | c
  .exact nq e (acI c)
  .rcases aaA.mp c with rfl | c
   .trivial
   .exact nq e (List.mem_of_mem_drop c)
end
end T1
namespace T1
open PySem L2
theorem pK{J:Type}(us:List J)(hl:us.length=1):∃ a0,us=[a0]:=by
 cases us with
 | nil=>cases hl
 | cons a r =>
  have e:r=[]:=ab0.mp (ac6 hl);exact⟨a,by rw[e]⟩
theorem wy{J:Type}(us:List J)(hl:us.length=2):∃ a0 a1,us=[a0,a1]:=by
 cases us with
 | nil=>cases hl
 | cons a r =>
  obtain⟨a0,e⟩:=pK r (ac6 hl);exact⟨a,a0,by rw[e]⟩
theorem wz{J:Type}(us:List J)(hl:us.length=3):∃ a0 a1 a2,us=[a0,a1,a2]:=by
 cases us with
 | nil=>cases hl
 | cons a r =>
  obtain⟨a0,a1,e⟩:=wy r (ac6 hl);exact⟨a,a0,a1,by rw[e]⟩
theorem wA{J:Type}(us:List J)(hl:us.length=4):∃ a0 a1 a2 a3,us=[a0,a1,a2,a3]:=by
 cases us with
 | nil=>cases hl
 | cons a r =>
  obtain⟨a0,a1,a2,e⟩:=wz r (ac6 hl);exact⟨a,a0,a1,a2,by rw[e]⟩
theorem wB{J:Type}(us:List J)(hl:us.length=5):∃ a0 a1 a2 a3 a4,us=[a0,a1,a2,a3,a4]:=by
 cases us with
 | nil=>cases hl
 | cons a r =>
  obtain⟨a0,a1,a2,a3,e⟩:=wA r (ac6 hl);exact⟨a,a0,a1,a2,a3,by rw[e]⟩
theorem tZ{K:PySem.W.Frag}{C:Addr}(q:PySem.W.excIn K C [.type "ValueError",.type "Exception",.type "BaseException",.type "object"] "ValueError.__new__"=true):sd K C:=by
 intro h X;unfold PySem.W.excIn at q;split at q
 .rename_i dd cd sl ho;split at q
  .rename_i C' bm k0 k1 k2 k3 n k5 hm hs;simp only[aaN,acp,Bool.not_eq_true']at q;obtain⟨⟨⟨⟨⟨rfl,rfl⟩,T4⟩,ht⟩,cu⟩,UD⟩:=q;obtain⟨nm,bs,mro,ns,qn,hd,sn,sub,ab,col,del⟩:=cd;dsimp only at hm T4 cu UD;subst hm T4;have HP:sl=#[k0,k1,k2,k3,some (.builtin "ValueError.__new__"),k5]:=by
    obtain⟨l⟩:=sl;simp only at hs;rw[hs]
   subst HP;have T:=PySem.W.tail_of_in X ht;exact⟨nm,qn,ns,bs,bm,hd,sn,sub,ab,col,dd,k0,k1,k2,k3,k5,_,X _ _ ho,.of_isNs (PySem.W.isNs_of_in X cu),PySem.W.nsMap_none_of_in X cu UD,T,T.hasType rfl⟩
  .cases q
 .cases q
theorem JO{K:PySem.W.Frag}{t C:Addr}{cd:ClassData}{b:Bool}(hc:PySem.W.clsIn K C=some cd)(ht:PySem.W.typeIn K (.ref C)=some (.type "type"))(hs:PySem.W.subIn K (.ref t) (.ref C)=some b):PySem.W.kitCls K (.ref t) (.ref C)=some b:=by
 unfold PySem.W.kitCls;simp only[hc,ht];exact hs
theorem Yx{K:PySem.W.Frag}{t C:Addr}{cd:ClassData}{b:Bool}(jx:(Value.ref t == Value.ref C)=false)(hc:PySem.W.clsIn K C=some cd)(ht:PySem.W.typeIn K (.ref C)=some (.type "type"))(hs:PySem.W.subIn K (.ref t) (.ref C)=some b):PySem.W.kitOne K (.ref t) (.ref C)=some b:=by
 unfold PySem.W.kitOne;rw[aaD (by rw[jx];decide)];exact JO hc ht hs
theorem Vg{K:PySem.W.Frag}{t:Addr}(mV:PySem.W.kitMeta "ValueError"=true)(sV:PySem.W.subIn K (.ref t) (.type "ValueError")=some true):PySem.W.kitOne K (.ref t) (.type "ValueError")=some true:=by
 show(if(Value.ref t == Value.type "ValueError")=true then some true else if PySem.W.kitMeta "ValueError"=true then PySem.W.subIn K (.ref t) (.type "ValueError")else none)=some true;rw[aaD (by intro z;cases (acp.mp z)),aaO mV];exact sV
theorem Yy{K:PySem.W.Frag}{t:Value}{c:Value}{r:List Value}(h:PySem.W.kitOne K t c=some false)(hr:PySem.W.kitAny K t r=some false):PySem.W.kitAny K t (c::r)=some false:=by
 unfold PySem.W.kitAny;rw[h];exact hr
theorem GF{J:Type}(us:List J)(hl:us.length=7):∃ a b c d e f g,us=[a,b,c,d,e,f,g]:=match us,hl with | [a,b,c,d,e,f,g],_=>⟨a,b,c,d,e,f,g,rfl⟩
def Df(K:PySem.W.Frag)(x:Str)(st:Stmt)(ps:List Str)(f:Addr):Prop:=∀{h:Heap} {mg:Str->Option Value},K.In h->h.Ns mainGlobals mg->∃ fd,cR K x x st f fd/\PySem.W.keepIn K (.ref f)=true/\mg x=some (.ref f)/\Binds K fd ps []
theorem bP{K:PySem.W.Frag}{x:Str}{st:Stmt}{ps:List Str}{f:Addr}{oc:Value}{od an:Option Addr}{xl:Array (Option Value)}{kV doc pm bB ct:Value}(a:autoParam (PySem.W.nsIn K mainGlobals x=some (some (.ref f))) ra6)(l:autoParam (K.lookup f=some ⟨oc,od,.func (PySem.W.fnOf x x (defArgs st) (defBody st) (defScope st) .none kV doc pm an bB ct),xl⟩) ra6)
  (c:PySem.W.codeIn K bB x=true:=by k_is) (k:PySem.W.keepIn K (.ref f)=true:=by k_is) (b:∀ fd,cR K x x st f fd->Binds K fd ps []:=by exact fun _ F=>F.binds fun _ _ _ _ _ _ us hl=>by first | rfl | (repeat (obtain⟨_,us,e,i⟩:=_root_.zq1 hl;clear hl;subst e;have hl:=i;clear i));cases us with|nil=>rfl|cons=>cases hl):Df K x st ps f:=fun X G=>⟨_,lM l c k,(lM l c k).kp,abW X G a,b _ (lM l c k)⟩
theorem GG{J:Type}(us:List J)(hl:us.length=6):∃ a0 a1 a2 a3 a4 a5,us=[a0,a1,a2,a3,a4,a5]:=by
 cases us with
 | nil=>cases hl
 | cons a r =>
  obtain⟨a0,a1,a2,a3,a4,e⟩:=wB r (ac6 hl);exact⟨a,a0,a1,a2,a3,a4,by rw[e]⟩
theorem jQ{K:PySem.W.Frag}{a:Addr}{od:Option Addr}{aV:Array Value}{m:Nat}{sl:Array (Option Value)}{xs:List V}(h:K.lookup a=some ⟨.type "tuple",od,.seq aV m,sl⟩)(hz:aV.size<=sizeLine)(hv:Vals xs aV.toList)(H:Hp):fX K H a xs:=.inr ⟨_,aV,m,h,rfl,rfl,hz,hv⟩
theorem rA{J β:Type}[BEq J][LawfulBEq J]{a:J}{b:β}:∀{l:List (J×β)},(a,b)∈l->l.lookup a=none->False
 | (x,y)::r,h,n=>by
  rw[abj]at n;split at n
  .cases n
  .rename_i e;rcases aaA.mp h with z | z
   .injection z with z1 _
    rw[z1,adQ]at e;cases e
   .exact rA z n
theorem GH{K:PySem.W.Frag}{w:World}{aP:Addr}{ep:Nat}{h1 h2 h3 h4 h5 h6 h7 h8 h9 h10:Int}{t1 t2 t3 t4 t5 t6 t7 t8 t9 t10:Tok}{p1 p2 p3 p4 p5 p6 p7 p8 p9 U1:Addr}
  (lP:K.lookup aP=some ⟨.type "dict",none,.dict #[⟨h1,.str "put" t1,.ref p1⟩,⟨h2,.str "sum" t2,.ref p2⟩,⟨h3,.str "mul" t3,.ref p3⟩,⟨h4,.str "less" t4,.ref p4⟩,⟨h5,.str "take" t5,.ref p5⟩,⟨h6,.str "lay" t6,.ref p6⟩,⟨h7,.str "go" t7,.ref p7⟩,⟨h8,.str "shut" t8,.ref p8⟩,⟨h9,.str "open" t9,.ref p9⟩,⟨h10,.str "home" t10,.ref U1⟩] ep,#[]⟩) (ne:(aP == sysModules)=false)
  (e1:h1=hashStr w "put") (q1:∀ H,fX K H p1 [.str "d",.str "worth"])
  (e2:h2=hashStr w "sum") (q2:∀ H,fX K H p2 [.str "d",.str "a",.str "b"])
  (e3:h3=hashStr w "mul") (q3:∀ H,fX K H p3 [.str "d",.str "a",.str "b"])
  (e4:h4=hashStr w "less") (q4:∀ H,fX K H p4 [.str "d",.str "a",.str "b"])
  (e5:h5=hashStr w "take") (q5:∀ H,fX K H p5 [.str "d",.str "a",.str "n"])
  (e6:h6=hashStr w "lay") (q6:∀ H,fX K H p6 [.str "b",.str "a",.str "n"])
  (e7:h7=hashStr w "go") (q7:∀ H,fX K H p7 [.str "a",.str "p"])
  (e8:h8=hashStr w "shut") (q8:∀ H,fX K H p8 [])
  (e9:h9=hashStr w "open") (q9:∀ H,fX K H p9 [])
  (e10:h10=hashStr w "home") (q10:∀ H,fX K H U1 [])
  : Parts K w aP:=by
 refine⟨[(Sum.inr "put",.ref p1),(Sum.inr "sum",.ref p2),(Sum.inr "mul",.ref p3),(Sum.inr "less",.ref p4),(Sum.inr "take",.ref p5),(Sum.inr "lay",.ref p6),(Sum.inr "go",.ref p7),(Sum.inr "shut",.ref p8),(Sum.inr "open",.ref p9),(Sum.inr "home",.ref U1)],⟨⟨_,_,lP,?_⟩,by show([Sum.inr "put",Sum.inr "sum",Sum.inr "mul",Sum.inr "less",Sum.inr "take",Sum.inr "lay",Sum.inr "go",Sum.inr "shut",Sum.inr "open",Sum.inr "home"]:List Key).Nodup;decide +kernel,ne⟩,?_,?_⟩
 .exact .cons ⟨dj _ _,e1,rfl⟩ (.cons ⟨dj _ _,e2,rfl⟩ (.cons ⟨dj _ _,e3,rfl⟩ (.cons ⟨dj _ _,e4,rfl⟩ (.cons ⟨dj _ _,e5,rfl⟩ (.cons ⟨dj _ _,e6,rfl⟩ (.cons ⟨dj _ _,e7,rfl⟩ (.cons ⟨dj _ _,e8,rfl⟩ (.cons ⟨dj _ _,e9,rfl⟩ (.cons ⟨dj _ _,e10,rfl⟩ (.nil))))))))))
 .intro x ps hx;have m:=lookup_mem hx;simp only[ck,aaA,Prod.mk.injEq,aby,ac1]at m;rcases m with⟨rfl,rfl⟩ | ⟨rfl,rfl⟩ | ⟨rfl,rfl⟩ | ⟨rfl,rfl⟩ | ⟨rfl,rfl⟩ | ⟨rfl,rfl⟩ | ⟨rfl,rfl⟩ | ⟨rfl,rfl⟩ | ⟨rfl,rfl⟩ | ⟨rfl,rfl⟩
  all_goals refine⟨_,by(repeat rw[ju (by intro z;exact absurd (Sum.inr.inj z) (by decide +kernel))]);exact kM rfl,?_⟩
  all_goals assumption
 .intro x hx;have no:∀ y∈ck.map (·.1),x≠y:=fun y hy e=>by
   obtain⟨⟨z,ps⟩,hz,rfl⟩:=abe.mp hy;rw[e]at hx;exact rA hz hx
  repeat rw[ju (by intro z;exact no _ (by decide +kernel) (Sum.inr.inj z).symm)]
  rfl
theorem all_mk{l:PySem.W.OpenLaw}{w:World}{K:PySem.W.Frag}{h:Heap}{mg:Str->Option Value}{fa:Addr}(X:K.In h)(G:h.Ns mainGlobals mg)(hfa:mg "law"=some (.ref fa))
  {f1:Addr} {f2:Addr} {f3:Addr} {f4:Addr} {f5:Addr} {f6:Addr} {f7:Addr} {f8:Addr} {f9:Addr} {Ye:Addr} {Qf:Addr} {Yi:Addr} {Yk:Addr} {Ym:Addr} {Yo:Addr} {f16:Addr} {f17:Addr} {f18:Addr} {f19:Addr} {f20:Addr} {f21:Addr} {f22:Addr} {f23:Addr} {f24:Addr} {f25:Addr} {f26:Addr} {f27:Addr} {f28:Addr} {f29:Addr} {f30:Addr} {f31:Addr} {f32:Addr} {f33:Addr} {f34:Addr} {f35:Addr} {f36:Addr} {f37:Addr} {f38:Addr} {f39:Addr} {f40:Addr} {f41:Addr} {f42:Addr} {f43:Addr} {Yz T5:Option Addr} {YA:Array (Option Value)} {YB T6 T7 T8 PX T9:Value} {YC:Addr} {AN:Addr} {lF:Addr} {Cf:Tok} {GI:Tok} {rB:Addr} {wC:Addr} {GJ:Addr} {wD:Addr}
  (d1:Df K "wrapped" o4 ["number"] f1)
  (d2:Df K "cell_at" sM ["worth", "n"] f2)
  (d3:Df K "spots_read" yz ["row"] f3)
  (d4:Df K "spot_written" ES ["row"] f4)
  (d5:Df K "is_slow" Fm ["row"] f5)
  (d6:Df K "worth_got" O2 ["row", "spots", "cells"] f6)
  (d7:Df K "what_it_writes" ET ["row", "spots", "cells"] f7)
  (d8:Df K "place_behind" sN ["row", "place", "spots", "kept"] f8)
  (d9:Df K "is_shut_behind" yl ["row", "shut"] f9)
  (Yg:Df K "kept_behind" ym ["row", "kept"] Ye)
  (Yh:Df K "is_bell" sO ["mill", "k"] Qf)
  (Yj:Df K "bells_rung" Fn ["rings", "beat"] Yi)
  (Yl:Df K "bells_waiting" Fo ["rings", "taken", "beat"] Yk)
  (Yn:Df K "rests" yn ["mill", "state"] Ym)
  (Yp:Df K "with_written" EU ["worths", "kind", "wrote"] Yo)
  (d16:Df K "step" EV ["mill", "state"] f16)
  (d17:Df K "bell" EW ["mill", "state", "k"] f17)
  (d18:Df K "thing_of" yA ["wrote"] f18)
  (d19:Df K "parting" ly ["mill", "state", "rings", "terms", "diary"] f19)
  (d20:Df K "_law_bag" OX ["script"] f20)
  (d21:Df K "_law_draw" EK ["bag", "many"] f21)
  (d22:Df K "_law_far" OZ ["bag"] f22)
  (d23:Df K "_law_worth" yi ["bag"] f23)
  (d24:Df K "_law_row" Ph ["bag", "many", "spots"] f24)
  (d25:Df K "_law_mill" FN ["bag"] f25)
  (d26:Df K "_law_state" yL ["bag", "mill"] f26)
  (d27:Df K "_law_rings" za ["bag", "mill", "base"] f27)
  (d28:Df K "_law_terms" sTerms ["bag"] f28)
  (d29:Df K "_law_due" Pm ["row", "now"] f29)
  (d30:Df K "_law_goes" FQ ["row", "now"] f30)
  (d31:Df K "_law_waits" yM ["rings", "now", "beat"] f31)
  (d32:Df K "_law_begin" yN ["state"] f32)
  (d33:Df K "_law_end_cause" FX ["mill", "rings", "terms", "now", "event"] f33)
  (d34:Df K "_law_cause" yP ["mill", "rings", "terms", "now", "event"] f34)
  (d35:Df K "_law_take_up" yQ ["mill", "rings", "now", "event"] f35)
  (d36:Df K "_law_sure" Gg ["mill", "rings", "terms", "now"] f36)
  (d37:Df K "_law_some" Gh ["bag", "mill", "rings", "terms", "now", "base"] f37)
  (d38:Df K "_law_tale" Gp ["bag", "mill", "rings", "terms", "now", "base"] f38)
  (d39:Df K "_law_taken_rings" Gr ["rings", "took"] f39)
  (d40:Df K "_law_later" yY ["diary", "off"] f40)
  (d41:Df K "_law_right" yj ["found", "due"] f41)
  (d42:Df K "_law_asked" y9 ["mill", "state", "rings", "terms", "diary", "due"] f42)
  (d43:Df K "_law_beginnings" Gv ["bag", "mill", "state", "rings", "terms", "diary", "due"] f43)
  (a44:PySem.W.nsIn K mainGlobals "law"=some (some (.ref YC))) (l44:K.lookup YC=some ⟨YB,Yz,.func (PySem.W.fnOf "law" "law" (defArgs tY) (defBody tY) (defScope tY) .none T6 T7 T8 T5 PX T9),YA⟩) (c44:PySem.W.codeIn K PX "law"=true) (k44:PySem.W.keepIn K (.ref YC)=true)
  (g_PARTS:PySem.W.nsIn K mainGlobals "PARTS"=some (some (.ref AN))) (h_PARTS:Parts K w AN) (g_SLOW_WORDS:PySem.W.nsIn K mainGlobals "SLOW_WORDS"=some (some (.ref lF))) (h_SLOW_WORDS:∀ H,fX K H lF [.str "mul",.str "take"]) (g_WORTHS:PySem.W.nsIn K mainGlobals "WORTHS"=some (some (.int 4294967296 Cf))) (g_CELLS:PySem.W.nsIn K mainGlobals "CELLS"=some (some (.int 16 GI))) (g_Resting:PySem.W.nsIn K mainGlobals "Resting"=some (some (.ref rB))) (g_NoBell:PySem.W.nsIn K mainGlobals "NoBell"=some (some (.ref wC))) (g_Shut:PySem.W.nsIn K mainGlobals "Shut"=some (some (.ref GJ))) (h_Shut:sd K rB/\sd K wC/\sd K GJ) (g_Holder:PySem.W.nsIn K mainGlobals "Holder"=some (some (.ref wD))) (h_Holder:tX K wD)
  (z1:PySem.W.nsIn K mainGlobals "isinstance"=some none) (z2:PySem.W.nsIn K mainGlobals "bool"=some none) (z3:PySem.W.nsIn K mainGlobals "int"=some none) (z4:PySem.W.nsIn K mainGlobals "str"=some none) (z5:PySem.W.nsIn K mainGlobals "list"=some none) (z6:PySem.W.nsIn K mainGlobals "tuple"=some none) (z7:PySem.W.nsIn K mainGlobals "len"=some none) (z8:PySem.W.nsIn K mainGlobals "zip"=some none) (z9:PySem.W.nsIn K mainGlobals "any"=some none) (z10:PySem.W.nsIn K mainGlobals "range"=some none) (z11:PySem.W.nsIn K mainGlobals "sorted"=some none) (z12:PySem.W.nsIn K mainGlobals "set"=some none) (z13:PySem.W.nsIn K mainGlobals "max"=some none) :
  ∃ fd:FuncData,(∀(s:Shared) (v:Value),BindsTo s fd ⟨[v],[]⟩ [("script",v)])/\∀ base:Heap,K.In base->base.Ns mainGlobals mg->ba l.prog w K mg base df 12 fa fd ["script"] (Ar K):=by
 have e:=hfa.symm.trans (abW X G a44);cases e;obtain⟨_,F1,k1,m1,b1⟩:=d1 X G;obtain⟨_,F2,k2,m2,b2⟩:=d2 X G;obtain⟨_,F3,k3,m3,b3⟩:=d3 X G;obtain⟨_,F4,k4,m4,b4⟩:=d4 X G;obtain⟨_,F5,k5,m5,b5⟩:=d5 X G;obtain⟨_,F6,k6,m6,b6⟩:=d6 X G;obtain⟨_,F7,k7,m7,b7⟩:=d7 X G;obtain⟨_,F8,k8,m8,b8⟩:=d8 X G;obtain⟨_,F9,k9,m9,b9⟩:=d9 X G;obtain⟨_,U3,Tv,X7,b10⟩:=Yg X G;obtain⟨_,U4,UZ,X8,b11⟩:=Yh X G;obtain⟨_,U5,k12,X9,b12⟩:=Yj X G;obtain⟨_,U6,k13,Yb,b13⟩:=Yl X G;obtain⟨_,U7,k14,Yc,b14⟩:=Yn X G;obtain⟨_,U8,k15,Yd,b15⟩:=Yp X G;obtain⟨_,F16,k16,m16,b16⟩:=d16 X G;obtain⟨_,F17,k17,m17,b17⟩:=d17 X G;obtain⟨_,F18,k18,m18,b18⟩:=d18 X G;obtain⟨_,F19,k19,m19,b19⟩:=d19 X G;obtain⟨_,F20,k20,m20,Yq⟩:=d20 X G;obtain⟨_,F21,k21,m21,Yr⟩:=d21 X G;obtain⟨_,F22,k22,m22,b22⟩:=d22 X G;obtain⟨_,F23,Nm,m23,b23⟩:=d23 X G;obtain⟨_,F24,k24,m24,b24⟩:=d24 X G;obtain⟨_,F25,k25,m25,b25⟩:=d25 X G;obtain⟨_,F26,k26,m26,b26⟩:=d26 X G;obtain⟨_,F27,k27,m27,b27⟩:=d27 X G;obtain⟨_,F28,k28,m28,b28⟩:=d28 X G;obtain⟨_,F29,k29,m29,b29⟩:=d29 X G;obtain⟨_,F30,k30,m30,b30⟩:=d30 X G;obtain⟨_,F31,k31,m31,b31⟩:=d31 X G;obtain⟨_,F32,k32,m32,b32⟩:=d32 X G;obtain⟨_,F33,k33,m33,b33⟩:=d33 X G;obtain⟨_,F34,P8,m34,b34⟩:=d34 X G;obtain⟨_,F35,k35,m35,b35⟩:=d35 X G;obtain⟨_,F36,k36,m36,b36⟩:=d36 X G;obtain⟨_,F37,k37,m37,b37⟩:=d37 X G;obtain⟨_,F38,k38,m38,b38⟩:=d38 X G;obtain⟨_,F39,k39,m39,b39⟩:=d39 X G;obtain⟨_,F40,k40,m40,b40⟩:=d40 X G;obtain⟨_,F41,k41,m41,b41⟩:=d41 X G;obtain⟨_,F42,k42,m42,b42⟩:=d42 X G;obtain⟨_,F43,k43,m43,b43⟩:=d43 X G;have F44:=lM (st:=tY) l44 c44 k44;have b44:=F44.binds (ps:=["script"]) fun _ _ _ _ _ _ us hl=>by obtain⟨_,rfl⟩:=pK us hl;rfl
 have m44:=abW X G a44;have eT:=abl X G z1;have yk:=abl X G z2;have jm:=abl X G z3;have ER:=abl X G z4;have fc:=abl X G z5;have cU:=abl X G z6;have bh:=abl X G z7;have qQ:=abl X G z8;have mJ:=abl X G z9;have bo:=abl X G z10;have i5:=abl X G z11;have Fs:=abl X G z12;have Gm:=abl X G z13;have jY:=abW X G g_PARTS;have jl:=abW X G g_SLOW_WORDS;have o5:=abW X G g_WORTHS;have sR:=abW X G g_CELLS;have l7:=abW X G g_Resting;have o7:=abW X G g_NoBell;have yu:=abW X G g_Shut;have pJ:=abW X G g_Holder;refine⟨PySem.W.fnOf "law" "law" (defArgs tY) (defBody tY) (defScope tY) .none T6 T7 T8 T5 PX T9,fun s v=>.of_eq rfl,fun base _ _=>?_⟩;obtain⟨hR,hN,hS⟩:=h_Shut;have N:∀{k:Nat} {x:Str} {f:Addr} {fd:FuncData} {ps:List Str} {sp:Sp},ba l.prog w K mg base df k f fd ps sp->Binds K fd ps []->PySem.W.keepIn K (.ref f)=true->mg x=some (.ref f)->Dn l.prog w K mg base k x f fd ps sp:=fun a b c d=>⟨a,b,c,d⟩;have NX:∀{k:Nat} {x:Str} {f:Addr} {fd:FuncData} {ps:List Str} {sp:Sp},ba l.prog w K mg base (wI l.prog w) k f fd ps sp->Binds K fd ps []->PySem.W.keepIn K (.ref f)=true->mg x=some (.ref f)->Wk l.prog w K mg base k x f fd ps sp:=fun a b c d=>⟨a,b,c,d⟩;have D1:=N (yq F1 o5) b1 k1 m1;have D2:=N (BO F2 sR) b2 k2 m2;have D4:=N (I0 F4 jY h_PARTS.mt qQ) b4 k4 m4;have D6:=N (O7 F6 D1 D2) b6 k6 m6;have D7:=N (Ja F7 D2 D4 D6) b7 k7 m7;have D8:=N (Fc F8) b8 k8 m8;have D9:=N (Fd F9) b9 k9 m9;have D10:=N (Fe U3) b10 Tv X7;have D11:=N (BP U4 bh) b11 UZ X8;have D14:=N (Ff U7 bh) b14 k14 Yc;have D15:=N (Jb U8) b15 k15 Yd;have D16:=NX (Jc hR l7 F16 D14 D7 D8 D15 D9 D10) (b16) k16 m16;have D17:=NX (Jd hN o7 hS yu F17 D11) (b17) k17 m17;have D3:=N (Fq F3 jY h_PARTS.mt qQ) b3 k3 m3;have D5:=N (Jh F5 jl h_SLOW_WORDS) b5 k5 m5;have D12:=N (Ji U5) b12 k12 X9;have D13:=N (Jj U6 D12 i5 Fs) b13 k13 Yb;have D18:=N (Ft F18) b18 k18 m18;have D19:=N (JM F19 h_Holder pJ D16.calm D17.calm D18 D5 D13 D14 D3 D4 bh mJ fc) b19 k19 m19;have GK:=N (IL F21) Yr k21 m21;have YD:=N (O0 F22 GK bo) b22 k22 m22;have YE:=N (EN F23 GK) b23 Nm m23;have D41:=N (EO F41 eT cU bh ER yk jm) b41 k41 m41;have D24:=N (Pk F24 GK YE) b24 k24 m24;have D25:=N (Jt F25 GK D24 bo cU) b25 k25 m25;have D26:=N (FP F26 GK YE bo cU bh) b26 k26 m26;have Vh:=N (Px F29 jm) b29 k29 m29;have D30:=N (Jy F30 Vh jm) b30 k30 m30;have Ua:=N (FV F31 bo bh) b31 k31 m31;have D32:=N (FW F32 fc) b32 k32 m32;have D33:=N (JA F33 Vh Ua fc bh) b33 k33 m33;have D34:=N (Gd F34 D33 Ua) b34 P8 m34;have D35:=N (Gf F35 Ua D30 jm) b35 k35 m35;have D36:=N (JE F36 Ua Vh bh) b36 k36 m36;have D37:=N (JF F37 GK Ua Vh D34 D36 bh Gm) b37 k37 m37;have D27:=N (Gz F27 GK YD bo bh) b27 k27 m27;have D28:=N (GB F28 GK YD bo cU) b28 k28 m28;have D38:=N (JG F38 GK D37 D35 bo) b38 k38 m38;have D39:=N (JJ F39 bo bh i5) b39 k39 m39;have D40:=N (Gu F40) b40 k40 m40;have D42:=N (Gw F42 D19 D41 fc) b42 k42 m42;have D43:=N (JK F43 GK D42 bo bh) b43 k43 m43;exact PR F44 ⟨OY F20,Yq,k20,m20⟩ GK YD YE D25 D26 D27 D28 D32 D38 D42 D43 D39 D40 bo cU bh
theorem walk{l:PySem.W.OpenLaw}{q:Program}{loose:List Str}{XP:(Str->Option Value)->Heap->Prop}{YP:World->Heap->Prop}{d:DefRec}{K:Params->PySem.W.Frag}(hn:l.most=some 63)(Q1:d.params.defaults=[])
  (hY:∀(w:World) (h:Heap),YP w h->(K w.params).In h)
  (F:∀(w:World) (mg:Str->Option Value) (fa:Addr) (h:Heap),(K w.params).In h->h.Ns mainGlobals mg->mg d.name=some (.ref fa) ->
   ∃ fd:FuncData,(∀(s:Shared) (u:Value),BindsTo s fd ⟨[u],[]⟩ [("script",u)])/\∀ base:Heap,(K w.params).In base->base.Ns mainGlobals mg->ba l.prog w (K w.params) mg base df 12 fa fd ["script"] (Ar (K w.params))) :
  PySem.W.WalkO q loose XP YP l.row.toRowW d [] (fun f vs=>PySem.call f vs) :=
 L2.Hx (n:=63) (k:=12) (x := "script") (CX:=fun _=>df) (sp:=fun w=>Ar (K w.params)) hn @1 Q1 ⟨rfl,@1,@1⟩ hY F (fun _ _ a ns hl _ hS=>⟨a,ns,rfl,hS,hl,fun _=>rfl⟩) fun _ _ _ _ _ z=>z
end T1
open PySem PySem.W PyProof.Rows
set_option maxRecDepth 100000 in
set_option maxHeartbeats 0 in
theorem PySem.Challenge.cw_twomakes_k28_right_ones_stay_right_holds : PySem.Challenge.rw_twomakes_k28_right_ones_stay_right.Holds := by
 refine HD.look fun d hn dY=>T1.walk (l:=PySem.Challenge.rw_twomakes_k28_right_ones_stay_right) rfl dY (fun w h al=>PySem.W.kIn_of al) ?F
 case F =>
  intro w mg fa h KX G Q2
  rw[hn] at Q2
  refine' T1.all_mk KX G Q2 T1.bP T1.bP T1.bP T1.bP T1.bP T1.bP T1.bP T1.bP T1.bP T1.bP T1.bP T1.bP T1.bP T1.bP T1.bP T1.bP T1.bP T1.bP T1.bP T1.bP T1.bP T1.bP T1.bP T1.bP T1.bP T1.bP T1.bP T1.bP T1.bP T1.bP T1.bP T1.bP T1.bP T1.bP T1.bP T1.bP T1.bP T1.bP T1.bP T1.bP T1.bP T1.bP T1.bP ?a44 ?l44 ?c44 ?k44 ?g_PARTS ?h_PARTS ?g_SLOW_WORDS ?h_SLOW_WORDS ?g_WORTHS ?g_CELLS ?g_Resting ?g_NoBell ?g_Shut ?h_Shut ?g_Holder ?h_Holder ?z1 ?z2 ?z3 ?z4 ?z5 ?z6 ?z7 ?z8 ?z9 ?z10 ?z11 ?z12 ?z13
  (case a44=>k_is);(case l44=>k_is);(case c44=>k_is);(case k44=>k_is)
  (case z1=>k_is);(case z2=>k_is);(case z3=>k_is);(case z4=>k_is);(case z5=>k_is);(case z6=>k_is);(case z7=>k_is);(case z8=>k_is);(case z9=>k_is);(case z10=>k_is);(case z11=>k_is);(case z12=>k_is);(case z13=>k_is)
  (case g_PARTS=>k_is)
  case h_PARTS =>
   refine' T1.GH ?lP ?ne ?e1 ?q1 ?e2 ?q2 ?e3 ?q3 ?e4 ?q4 ?e5 ?q5 ?e6 ?q6 ?e7 ?q7 ?e8 ?q8 ?e9 ?q9 ?e10 ?q10
   (case lP=>k_is)
   (case ne=>decide)
   (case e1=>rfl)
   (case q1=>(refine' T1.jQ ?t ?z ?v;(case t=>k_is);(case z=>decide);(case v=>exact .cons ⟨_,rfl⟩ (.cons ⟨_,rfl⟩ (.nil)))))
   (case e2=>rfl)
   (case q2=>(refine' T1.jQ ?t ?z ?v;(case t=>k_is);(case z=>decide);(case v=>exact .cons ⟨_,rfl⟩ (.cons ⟨_,rfl⟩ (.cons ⟨_,rfl⟩ (.nil))))))
   (case e3=>rfl)
   (case q3=>(refine' T1.jQ ?t ?z ?v;(case t=>k_is);(case z=>decide);(case v=>exact .cons ⟨_,rfl⟩ (.cons ⟨_,rfl⟩ (.cons ⟨_,rfl⟩ (.nil))))))
   (case e4=>rfl)
   (case q4=>(refine' T1.jQ ?t ?z ?v;(case t=>k_is);(case z=>decide);(case v=>exact .cons ⟨_,rfl⟩ (.cons ⟨_,rfl⟩ (.cons ⟨_,rfl⟩ (.nil))))))
   (case e5=>rfl)
   (case q5=>(refine' T1.jQ ?t ?z ?v;(case t=>k_is);(case z=>decide);(case v=>exact .cons ⟨_,rfl⟩ (.cons ⟨_,rfl⟩ (.cons ⟨_,rfl⟩ (.nil))))))
   (case e6=>rfl)
   (case q6=>(refine' T1.jQ ?t ?z ?v;(case t=>k_is);(case z=>decide);(case v=>exact .cons ⟨_,rfl⟩ (.cons ⟨_,rfl⟩ (.cons ⟨_,rfl⟩ (.nil))))))
   (case e7=>rfl)
   (case q7=>(refine' T1.jQ ?t ?z ?v;(case t=>k_is);(case z=>decide);(case v=>exact .cons ⟨_,rfl⟩ (.cons ⟨_,rfl⟩ (.nil)))))
   (case e8=>rfl)
   (case q8=>(refine' T1.jQ ?t ?z ?v;(case t=>k_is);(case z=>decide);(case v=>exact .nil)))
   (case e9=>rfl)
   (case q9=>(refine' T1.jQ ?t ?z ?v;(case t=>k_is);(case z=>decide);(case v=>exact .nil)))
   (case e10=>rfl)
   (case q10=>(refine' T1.jQ ?t ?z ?v;(case t=>k_is);(case z=>decide);(case v=>exact .nil)))
  (case g_SLOW_WORDS=>k_is)
  case h_SLOW_WORDS =>
   (refine' T1.jQ ?t ?z ?v;(case t=>k_is);(case z=>decide);(case v=>exact .cons ⟨_,rfl⟩ (.cons ⟨_,rfl⟩ .nil)))
  (case g_WORTHS=>k_is)
  (case g_CELLS=>k_is)
  (case g_Resting=>k_is)
  (case g_NoBell=>k_is)
  (case g_Shut=>k_is)
  case h_Shut =>
   refine' (And.intro (T1.tZ ?u_q0) (And.intro (T1.tZ ?u_q1) (T1.tZ ?u_q2)))
   (case u_q0=>first | kernel_rfl | rfl)
   (case u_q1=>first | kernel_rfl | rfl)
   (case u_q2=>first | kernel_rfl | rfl)
  (case g_Holder=>k_is)
  case h_Holder =>
   refine' T1.tX.mk (T1.JL ?H_pg ?H_hd ?H_po ?H_sa ?H_na) (T1.PL ?H_im ?H_ia ?H_il ?H_ic ?H_ik ?H_in ?H_iv) T1.iq T1.iq T1.iq T1.iq T1.iq T1.iq T1.iq T1.iq T1.iq T1.iq T1.iq T1.iq T1.iq T1.iq T1.iq
   (case H_pg=>first | kernel_rfl | k_is)
   (case H_hd=>first | kernel_rfl | k_is)
   (case H_po=>first | kernel_rfl | k_is)
   (case H_sa=>first | k_is | kernel_rfl)
   (case H_na=>(refine' ⟨?_,?_,?_,?_,?_,?_,?_,?_,?_,?_,?_,?_,?_,?_,?_,?_,?_,?_,trivial⟩<;>(show PySem.W.findIn _ _ _=some none;first | k_is | kernel_rfl)))
   (case H_im=>first | kernel_rfl | k_is)
   (case H_ia=>k_is)
   (case H_il=>k_is)
   (case H_ic=>k_is)
   (case H_ik=>k_is)
   (case H_in=>first | k_is | kernel_rfl)
   (case H_iv=>k_is)
