import PyProof.Rows.All
import Wide.All
import OpenK.AllK
import Wide.FinOn
import Lean
import PyProof.EqAt
import PyProof.EqKinds
import PyProof.TupleCall
import PyProof.NeKinds
import PyProof.StrWalks
import PyProof.Rows.SetFrom
import PyProof.WalksMore
import KE.KIntText
import PyProof.EnumMake
import KE.KRevSl
import KE.KDictList
import PyProof.ReprRoads
import PyProof.ReprLen
import KE.KRevIter
import PyProof.WalkInts
import PyProof.ExcClass3
import PyProof.ExcInit
import PyProof.StationsW
import OpenK.KOwn
import PyProof.RulesAs
import PyProof.RulesDel
import PyProof.ExcAttrAll.ValueError
import KE.KIsAll
import PyProof.InstStoreFacts
import PyProof.ExcBaseAll.ValueError
import PyProof.StrLawsTight
import PySem.Challenge.RW_stationrow_k13_whole_check
open PySem PySem.Spec PyProof.Rows
set_option Elab.async false
set_option linter.all false
set_option maxRecDepth 100000
namespace L2
noncomputable def a9 (s : Stmt) : Arguments:=match s with
 | .FunctionDef _ a _ _ _ _ _ _ _ _ => a
 | _ => { posonlyargs:=[],args:=[],vararg:=none,kwonlyargs:=[],kw_defaults:=[],kwarg:=none,defaults:=[] }
noncomputable def aT (s : Stmt) : List Stmt:=match s with
 | .FunctionDef _ _ b _ _ _ _ _ _ _ => b
 | _ => []
noncomputable def ah (s : Stmt) : Scope:=match s with
 | .FunctionDef _ _ _ _ _ _ sc _ _ _ => sc
 | _ => { kind:=.function,names:=[],isGenerator:=false,isCoroutine:=false }
noncomputable def bmV : List Value:=[.type "ValueError",.type "Exception",.type "BaseException",.type "object"]
end L2
namespace M
open L2
noncomputable def top (i : Nat) : Stmt:=PySem.Challenge.pw_stationrow_k13_whole_check.main.body.getD i (.Pass ⟨0,0,0,0⟩)
noncomputable def rZ : Stmt -> List Stmt
 | .ClassDef _ _ _ body _ _ _ _ _ _ _ => body
 | _ => []
noncomputable def topm (i j : Nat) : Stmt:=(rZ (top i)).getD j (.Pass ⟨0,0,0,0⟩)
noncomputable def qv : Program:={ PySem.Challenge.pw_stationrow_k13_whole_check with main:={ PySem.Challenge.pw_stationrow_k13_whole_check.main with body:=([1,2,3,4,5,6,7,9,10,11,12,13,14,15,16,17,19,20,21,22,23,24,25,26,27,29,30,31,32,33,34,35,36,37,38,39,40,41,42] : List Nat).map top } }
noncomputable def en (P : Params) (n : Str) (t : Nat) (v : Value) : DictEntry:=⟨PyData.keyHash P n,.str n t,v⟩
noncomputable def cO (n : Str) (c : Nat) (b : Bool) (a j l k : Nat) : Obj:=⟨.type "code",none,.fields #[.str n a,.str n (a + 1),.str "/claim/cut.py" (a + 2),.int l 0,.int k 0,.int 0 0,.int 0 0,.int 3 0,.ref (c - (bif b then 5 else 3)),.bool true,.int 181 0,.ref (c - (bif b then 4 else 2)),.none,bif b then .ref (c - 3) else .none,bif b then .ref (c - 2) else .none,.ref (c - 1),.int j 0,.int l 0,.str "/claim/cut.py" (j + 1)],#[]⟩
noncomputable def fO (i : Nat) (n m : Str) (t c : Nat) : Obj:=⟨.type "function",none,.func (PySem.W.fnOf n n (a9 (top i)) (aT (top i)) (ah (top i)) .none .none .none (.str m t) none (.ref c) .none),#[]⟩
noncomputable def fx (i : Nat) (n m : Str) (t c : Nat) (b : Bool) (a j l k : Nat) : (Params -> DictEntry) × PySem.W.Frag:=(fun P => en P n (j + 2) (.ref (c + 1)),[(c,cO n c b a j l k),(c + 1,fO i n m t c)])
noncomputable def TB : List ((Params -> DictEntry) × PySem.W.Frag):=[fx 1 "links_of" "stationrow.chains" 187 20 true 189 197 2 1,
 fx 2 "reached" "stationrow.chains" 187 27 true 200 209 9 2,
 fx 3 "led_to" "stationrow.chains" 187 34 true 212 217 19 2,
 fx 4 "led_from" "stationrow.chains" 187 39 false 220 223 21 2,
 fx 5 "in_both" "stationrow.chains" 187 44 false 226 229 23 3,
 fx 6 "group_of" "stationrow.chains" 187 51 true 232 237 25 2,
 fx 7 "groups_of" "stationrow.chains" 187 58 true 240 247 27 1,
 (fun P => en P "RowError" 269 (.ref 69),[]),
 (fun P => en P "NoRow" 294 (.ref 89),[]),
 (fun P => en P "Twice" 319 (.ref 108),[]),
 (fun P => en P "NoTask" 344 (.ref 127),[]),
 (fun P => en P "Ring" 369 (.ref 146),[]),
 (fun P => en P "Torn" 396 (.ref 165),[]),
 (fun P => en P "NoStand" 421 (.ref 184),[]),
 (fun P => en P "TooLong" 448 (.ref 203),[]),
 (fun P => en P "NoRoom" 464 (.ref 215),[]),
 fx 19 "steps_on_rings" "stationrow.checks" 465 223 true 467 474 70 1,
 fx 20 "ring_from" "stationrow.checks" 465 230 true 477 484 76 2,
 fx 21 "check_rings" "stationrow.checks" 465 237 true 487 492 83 1,
 fx 22 "share_group" "stationrow.checks" 465 242 false 495 498 87 3,
 fx 23 "check_torn" "stationrow.checks" 465 249 true 501 509 89 2,
 fx 24 "may_be_done" "stationrow.checks" 465 256 true 512 517 93 2,
 fx 25 "may_all_be_done" "stationrow.checks" 465 261 false 520 523 95 3,
 fx 26 "check_stands" "stationrow.checks" 465 266 false 526 529 97 2,
 fx 27 "check_works" "stationrow.checks" 465 273 true 532 537 101 1,
 fx 29 "_law_names" "law_stationrow_k13_whole_check" 540 280 true 542 558 107 2,
 fx 30 "_law_wide" "law_stationrow_k13_whole_check" 540 287 true 561 567 132 1,
 fx 31 "_law_next" "law_stationrow_k13_whole_check" 540 294 true 570 575 139 1,
 fx 32 "_law_deck" "law_stationrow_k13_whole_check" 540 301 true 578 583 144 1,
 fx 33 "_law_tasks" "law_stationrow_k13_whole_check" 540 308 true 586 601 149 4,
 fx 34 "_law_turn" "law_stationrow_k13_whole_check" 540 315 true 604 613 167 2,
 fx 35 "_law_orders" "law_stationrow_k13_whole_check" 540 322 true 616 626 175 3,
 fx 36 "_law_pairs" "law_stationrow_k13_whole_check" 540 329 true 629 641 183 4,
 fx 37 "_law_works" "law_stationrow_k13_whole_check" 540 334 false 644 647 193 3,
 fx 38 "_law_reach" "law_stationrow_k13_whole_check" 540 339 false 650 653 205 2,
 fx 39 "_law_groups" "law_stationrow_k13_whole_check" 540 344 false 656 659 221 2,
 fx 40 "_law_due" "law_stationrow_k13_whole_check" 540 349 false 662 665 228 1,
 fx 41 "_law_told" "law_stationrow_k13_whole_check" 540 356 true 668 674 245 1,
 fx 42 "law" "law_stationrow_k13_whole_check" 540 363 true 677 687 263 1]
noncomputable def nsO (P : Params) (es : List (Str × Nat × Value)) (k : Nat) : Obj:=⟨.type "dict",none,.dict (es.map fun e => en P e.1 e.2.1 e.2.2).toArray k,#[]⟩
noncomputable def xcO (C N : Nat) (n : Str) (bs mro subs : List Value) (a t u : Nat) : Obj:=⟨.type "type",none,.cls { name:=n,bases:=bs,mro:=.ref C :: mro,ns:=N,qualname:=n,subclasses:=subs },#[some (.ref a),none,some (.str n t),some (.str n u),some (.builtin "ValueError.__new__"),some (.bool true)]⟩
noncomputable def cQ (n q : Str) (c : Nat) (b : Bool) (a j l k : Nat) : Obj:=⟨.type "code",none,.fields #[.str n a,.str q (a + 1),.str "/claim/cut.py" (a + 2),.int l 0,.int k 0,.int 0 0,.int 0 0,.int 3 0,.ref (c - (bif b then 5 else 3)),.bool true,.int 181 0,.ref (c - (bif b then 4 else 2)),.none,bif b then .ref (c - 3) else .none,bif b then .ref (c - 2) else .none,.ref (c - 1),.int j 0,.int l 0,.str "/claim/cut.py" (j + 1)],#[]⟩
noncomputable def fQ (st : Stmt) (n q m : Str) (t c : Nat) : Obj:=⟨.type "function",none,.func (PySem.W.fnOf n q (a9 st) (aT st) (ah st) .none .none .none (.str m t) none (.ref c) .none),#[]⟩
noncomputable def KC (P : Params) : PySem.W.Frag:=[(68,nsO P [("__module__",259,.str "stationrow.errors" 250),("__firstlineno__",263,.int 35 262),("__static_attributes__",264,.ref 67),("__weakref__",266,.ref 70),("__doc__",267,.none)] 3),
 (69,xcO 69 68 "RowError" [.type "ValueError"] bmV [.ref 89,.ref 108,.ref 127,.ref 146,.ref 165,.ref 184,.ref 203,.ref 215] 60 252 260),
 (88,nsO P [("__module__",277,.str "stationrow.errors" 250),("__firstlineno__",281,.int 37 280),("__init__",289,.ref 86),("__static_attributes__",291,.ref 87),("__doc__",292,.none)] 2),
 (89,xcO 89 88 "NoRow" [.ref 69] [.ref 69,.type "ValueError",.type "Exception",.type "BaseException",.type "object"] [] 73 270 278),
 (107,nsO P [("__module__",302,.str "stationrow.errors" 250),("__firstlineno__",306,.int 41 305),("__init__",314,.ref 105),("__static_attributes__",316,.ref 106),("__doc__",317,.none)] 2),
 (108,xcO 108 107 "Twice" [.ref 69] [.ref 69,.type "ValueError",.type "Exception",.type "BaseException",.type "object"] [] 92 295 303),
 (126,nsO P [("__module__",327,.str "stationrow.errors" 250),("__firstlineno__",331,.int 45 330),("__init__",339,.ref 124),("__static_attributes__",341,.ref 125),("__doc__",342,.none)] 2),
 (127,xcO 127 126 "NoTask" [.ref 69] [.ref 69,.type "ValueError",.type "Exception",.type "BaseException",.type "object"] [] 111 320 328),
 (142,cQ "__init__" "Ring.__init__" 142 true 357 362 51 2),
 (143,fQ (topm 13 0) "__init__" "Ring.__init__" "stationrow.errors" 250 142),
 (145,nsO P [("__module__",352,.str "stationrow.errors" 250),("__firstlineno__",356,.int 49 355),("__init__",364,.ref 143),("__static_attributes__",366,.ref 144),("__doc__",367,.none)] 2),
 (146,xcO 146 145 "Ring" [.ref 69] [.ref 69,.type "ValueError",.type "Exception",.type "BaseException",.type "object"] [] 130 345 353),
 (161,cQ "__init__" "Torn.__init__" 161 true 382 388 55 3),
 (162,fQ (topm 14 0) "__init__" "Torn.__init__" "stationrow.errors" 250 161),
 (164,nsO P [("__module__",377,.str "stationrow.errors" 250),("__firstlineno__",381,.int 53 380),("__init__",390,.ref 162),("__static_attributes__",393,.ref 163),("__doc__",394,.none)] 2),
 (165,xcO 165 164 "Torn" [.ref 69] [.ref 69,.type "ValueError",.type "Exception",.type "BaseException",.type "object"] [] 149 370 378),
 (180,cQ "__init__" "NoStand.__init__" 180 true 409 414 60 2),
 (181,fQ (topm 15 0) "__init__" "NoStand.__init__" "stationrow.errors" 250 180),
 (183,nsO P [("__module__",404,.str "stationrow.errors" 250),("__firstlineno__",408,.int 58 407),("__init__",416,.ref 181),("__static_attributes__",418,.ref 182),("__doc__",419,.none)] 2),
 (184,xcO 184 183 "NoStand" [.ref 69] [.ref 69,.type "ValueError",.type "Exception",.type "BaseException",.type "object"] [] 168 397 405),
 (202,nsO P [("__module__",429,.str "stationrow.errors" 250),("__firstlineno__",433,.int 62 432),("__init__",442,.ref 200),("__static_attributes__",445,.ref 201),("__doc__",446,.none)] 2),
 (203,xcO 203 202 "TooLong" [.ref 69] [.ref 69,.type "ValueError",.type "Exception",.type "BaseException",.type "object"] [] 187 422 430),
 (214,nsO P [("__module__",456,.str "stationrow.errors" 250),("__firstlineno__",460,.int 67 459),("__static_attributes__",461,.ref 213),("__doc__",462,.none)] 2),
 (215,xcO 215 214 "NoRoom" [.ref 69] [.ref 69,.type "ValueError",.type "Exception",.type "BaseException",.type "object"] [] 206 449 457)]
noncomputable def KK (P : Params) : PySem.W.Frag:=(3,⟨.type "dict",none,.dict ([en P "__name__" 165 (.str "law_stationrow_k13_whole_check" 540),
 en P "__doc__" 166 .none,
 en P "__package__" 167 .none,
 en P "__loader__" 168 (.builtin "__main__.__loader__#opaque"),
 en P "__spec__" 169 .none,
 en P "__annotations__" 170 (.ref 6),
 en P "__builtins__" 171 (.ref 4),
 en P "__file__" 173 (.str "/claim/cut.py" 172),
 en P "__cached__" 174 .none] ++ TB.map fun r => r.1 P).toArray 48,#[]⟩) :: (TB.map fun r => r.2).flatten ++ KC P
noncomputable def HK : PySem.W.Hook:=PySem.W.kHook KK [3,20,21,27,28,34,35,39,40,44,45,51,52,58,59,223,224,230,231,237,238,242,243,249,250,256,257,261,262,266,267,273,274,280,281,287,288,294,295,301,302,308,309,315,316,322,323,329,330,334,335,339,340,344,345,349,350,356,357,363,364,68,69,88,89,107,108,126,127,142,143,145,146,161,162,164,165,180,181,183,184,202,203,214,215] (fun _ => by kernel_rfl)
theorem map3 {α β γ δ : Type} {o : Option α} {f : α -> β × γ} {g : α -> δ} {a : β × γ} {d : δ} (h1 : o.map (fun s => (f s).1) = some a.1) (h2 : o.map (fun s => (f s).2) = some a.2) (h3 : o.map g = some d) : o.map (fun s => (f s,g s)) = some (a,d):=by
 cases o with
 | none => cases h1
 | some s => exact congrArg some (Prod.ext (Prod.ext (Option.some.inj h1) (Option.some.inj h2)) (Option.some.inj h3))
theorem left1 (w : World) : (PySem.W.openEnds treeTable (PySem.W.OpenLaw.row PySem.Challenge.rw_stationrow_k13_whole_check).prog w 6282).map (fun s => (PySem.W.openSeen qv [] (importedModules (PySem.W.OpenLaw.row PySem.Challenge.rw_stationrow_k13_whole_check).prog.main.body) (fun s => PySem.W.xlAt qv [] s && PySem.W.recOk (PySem.W.RowW.records (PySem.W.OpenLaw.row PySem.Challenge.rw_stationrow_k13_whole_check).toRowW) s) true s).1) = some (PySem.W.openGood qv []).1:=by kernel_rfl
theorem left2 (w : World) : (PySem.W.openEnds treeTable (PySem.W.OpenLaw.row PySem.Challenge.rw_stationrow_k13_whole_check).prog w 6282).map (fun s => (PySem.W.openSeen qv [] (importedModules (PySem.W.OpenLaw.row PySem.Challenge.rw_stationrow_k13_whole_check).prog.main.body) (fun s => PySem.W.xlAt qv [] s && PySem.W.recOk (PySem.W.RowW.records (PySem.W.OpenLaw.row PySem.Challenge.rw_stationrow_k13_whole_check).toRowW) s) true s).2) = some (PySem.W.openGood qv []).2:=by kernel_rfl
theorem left3 (w : World) : (PySem.W.openEnds treeTable (PySem.W.OpenLaw.row PySem.Challenge.rw_stationrow_k13_whole_check).prog w 6282).map (PySem.W.Hook.obs HK) = some (PySem.W.Hook.val HK w):=by kernel_rfl
theorem left : PySem.W.LeftO (PySem.W.OpenLaw.row PySem.Challenge.rw_stationrow_k13_whole_check).prog qv [] (fun s => PySem.W.xlAt qv [] s && PySem.W.recOk (PySem.W.RowW.records (PySem.W.OpenLaw.row PySem.Challenge.rw_stationrow_k13_whole_check).toRowW) s) (PySem.W.Hook.obs HK) (PySem.W.Hook.val HK) 6282:=fun w => map3 (f:=fun s => PySem.W.openSeen qv [] (importedModules (PySem.W.OpenLaw.row PySem.Challenge.rw_stationrow_k13_whole_check).prog.main.body) (fun s => PySem.W.xlAt qv [] s && PySem.W.recOk (PySem.W.RowW.records (PySem.W.OpenLaw.row PySem.Challenge.rw_stationrow_k13_whole_check).toRowW) s) true s) (g:=PySem.W.Hook.obs HK) (left1 w) (left2 w) (left3 w)
end M
namespace L2
abbrev Key:=Sum Int Str
noncomputable def fz : Key -> Value -> Bool
 | .inl k,v => Value.isInt k v
 | .inr x,v => Value.isStrOf x v
noncomputable def zq (w : World) : Key -> Int
 | .inl k => hashInt k
 | .inr x => hashStr w x
theorem aV : ∀ {k : Key} {v : Value},fz k v = true -> (∃ i t,k = Sum.inl i /\ v = Value.int i t) \/ (∃ x t,k = Sum.inr x /\ v = Value.str x t)
 | .inl i,v,h => by
  obtain ⟨t,e⟩:=Value.isInt_shape (k:=i) (v:=v) h
  exact .inl ⟨i,t,rfl,e⟩
 | .inr x,v,h => by
  obtain ⟨t,e⟩:=Value.isStrOf_shape (x:=x) (v:=v) h
  exact .inr ⟨x,t,rfl,e⟩
theorem lr (i : Int) (t : Tok) : fz (.inl i) (.int i t) = true:=by simp [fz,Value.isInt]
theorem lu (x : Str) (t : Tok) : fz (.inr x) (.str x t) = true:=by simp [fz,Value.isStrOf]
theorem tj (a b : Int) : decide ((Sum.inl a : Key) = Sum.inl b) = (a == b):=by
 by_cases e : a = b
 ·
  subst e; simp
 ·
  have h : ¬ (Sum.inl a : Key) = Sum.inl b:=fun q => e (Sum.inl.inj q)
  rw [decide_eq_false h]
  exact (beq_eq_false_iff_ne.mpr e).symm
theorem tm (a b : Str) : decide ((Sum.inr a : Key) = Sum.inr b) = decide (a = b):=by
 by_cases e : a = b
 ·
  subst e; simp
 ·
  have h : ¬ (Sum.inr a : Key) = Sum.inr b:=fun q => e (Sum.inr.inj q)
  rw [decide_eq_false h,decide_eq_false e]
theorem tq (a : Int) (b : Str) : decide ((Sum.inl a : Key) = Sum.inr b) = false:=decide_eq_false (fun q => nomatch q)
theorem tu (a : Str) (b : Int) : decide ((Sum.inr a : Key) = Sum.inl b) = false:=decide_eq_false (fun q => nomatch q)
noncomputable def a4 (prog : Program) (w : World) : PySem.KeyKind prog w Key where
 is:=fz
 hash:=zq w
 inj:=fun v a b ha hb => by
  rcases aV ha with ⟨i,t,rfl,rfl⟩ | ⟨x,t,rfl,rfl⟩
  ·
   rcases aV hb with ⟨j,u,rfl,e⟩ | ⟨y,u,rfl,e⟩
   ·
    injection e with e1 _; rw [e1]
   ·
    exact nomatch e
  ·
   rcases aV hb with ⟨j,u,rfl,e⟩ | ⟨y,u,rfl,e⟩
   ·
    exact nomatch e
   ·
    injection e with e1 _; rw [e1]
 byValue:=fun k v h => by
  rcases aV h with ⟨i,t,rfl,rfl⟩ | ⟨x,t,rfl,rfl⟩ <;> rfl
 pyHash:=fun hv h => by
  rcases aV hv with ⟨i,t,rfl,rfl⟩ | ⟨x,t,rfl,rfl⟩
  ·
   exact wpAny_pyHash_int h
  ·
   exact wpAny_pyHash_str h
 eqBool:=fun hu hv h => by
  rcases aV hu with ⟨i,t,rfl,rfl⟩ | ⟨x,t,rfl,rfl⟩
  ·
   rcases aV hv with ⟨j,u,rfl,rfl⟩ | ⟨y,u,rfl,rfl⟩
   ·
    rw [tj] at h; exact wpAny_eqBool_int h
   ·
    rw [tq] at h; exact SeqAt.EqAt.int_str i t y u _ _ _ _ h
  ·
   rcases aV hv with ⟨j,u,rfl,rfl⟩ | ⟨y,u,rfl,rfl⟩
   ·
    rw [tu] at h; exact SeqAt.EqAt.str_int x t j u _ _ _ _ h
   ·
    rw [tm] at h; exact wpAny_eqBool_str h
 «strs»:=fun k x t v h => by
  rcases aV h with ⟨i,u,rfl,e⟩ | ⟨y,u,rfl,e⟩
  ·
   exact nomatch e
  ·
   injection e with e1 _
   subst e1
   cases v <;> rfl
theorem iu (prog : Program) (w : World) (i : Int) (t : Tok) : (a4 prog w).is (.inl i) (.int i t) = true:=lr i t
theorem iw (prog : Program) (w : World) (x : Str) (t : Tok) : (a4 prog w).is (.inr x) (.str x t) = true:=lu x t
inductive V where
 | non | bl (b : Bool) | int (i : Int) | str (x : Str) | byt (b : Array UInt8) | flt (b : UInt64) | ref (a : Addr) | ty (n : String)
 deriving DecidableEq
def RelV : V -> Value -> Prop
 | .non,u => u = Value.none
 | .bl b,u => u = Value.bool b
 | .int i,u => ∃ t,u = Value.int i t
 | .str x,u => ∃ t,u = Value.str x t
 | .byt b,u => ∃ t,u = Value.bytes b t
 | .flt b,u => ∃ t,u = Value.float b t
 | .ref a,u => u = Value.ref a
 | .ty n,u => u = Value.type n
abbrev Vals : List V -> List Value -> Prop:=Paired RelV
theorem Vals.length {xs : List V} {us : List Value} (r : Vals xs us) : xs.length = us.length:=Paired.length r
theorem Vals.get : ∀ {xs : List V} {us : List Value} {i : Nat} {x : V},Vals xs us -> xs[i]? = some x -> ∃ u,us[i]? = some u /\ RelV x u
 | _,_,_,_,.nil,e => by simp at e
 | _,_,0,_,.cons r _,e => by simp at e; subst e; exact ⟨_,rfl,r⟩
 | _,_,i + 1,x,.cons _ t,e => by
  obtain ⟨u,h1,h2⟩:=Vals.get (i:=i) (x:=x) t (by simpa using e)
  exact ⟨u,by simpa using h1,h2⟩
theorem Vals.set {x : V} {u : Value} (r : RelV x u) : ∀ {xs : List V} {us : List Value} (i : Nat),Vals xs us -> Vals (xs.set i x) (us.set i u)
 | _,_,_,.nil => .nil
 | _,_,0,.cons _ t => .cons r t
 | _,_,i + 1,.cons q t => .cons q (Vals.set r i t)
theorem Vals.append : ∀ {xs ys : List V} {us ws : List Value},Vals xs us -> Vals ys ws -> Vals (xs ++ ys) (us ++ ws)
 | _,_,_,_,.nil,s => s
 | _,_,_,_,.cons r t,s => .cons r (Vals.append t s)
theorem Vals.take : ∀ {xs : List V} {us : List Value} (n : Nat),Vals xs us -> Vals (xs.take n) (us.take n)
 | _,_,0,_ => .nil
 | _,_,_ + 1,.nil => .nil
 | _,_,n + 1,.cons r t => .cons r (Vals.take n t)
theorem Vals.drop : ∀ {xs : List V} {us : List Value} (n : Nat),Vals xs us -> Vals (xs.drop n) (us.drop n)
 | _,_,0,r => r
 | _,_,_ + 1,.nil => .nil
 | _,_,n + 1,.cons _ t => Vals.drop n t
theorem Vals.none_of : ∀ {xs : List V} {us : List Value} {i : Nat},Vals xs us -> xs[i]? = none -> us[i]? = none:=fun {xs us i} r e => by
 have h1:=r.length
 have h2 : xs.length <= i:=List.getElem?_eq_none_iff.mp e
 exact List.getElem?_eq_none_iff.mpr (by omega)
def RelO : Option V -> Option Value -> Prop
 | some v,some u => RelV v u
 | none,none => True
 | _,_ => False
def KV {κ : Type} : List (κ × V) -> List (κ × Value) -> Prop:=Paired fun (p : κ × V) (q : κ × Value) => p.1 = q.1 /\ RelV p.2 q.2
noncomputable def kV : Key -> V
 | .inl i => .int i
 | .inr x => .str x
inductive HO where
 | lst (xs : List V)
 | tup (xs : List V)
 | dK (kvs : List (Key × V)) | dT (kvs : List (List Key × V))
 | set (S : Int -> Bool) (n : Nat)
 | ins (C dx : Addr) (fs : List (Str × V))
 | own (x : Addr)
 | xd (fs : List (Str × V))
 | met (f x : Addr)
 | rng (lo hi : Int)
 | frz (o : Obj) (u : HO)
 | tbl (ps : Array Value)
 | ext (φ : Heap -> Prop)
abbrev Hp:=Addr -> Option HO
noncomputable def upd (H : Hp) (a : Addr) (o : HO) : Hp:=fun b => if b = a then some o else H b
theorem aC {H : Hp} {a : Addr} {o : HO} : upd H a o a = some o:=by unfold upd; rw [if_pos rfl]
theorem aq {H : Hp} {a b : Addr} {o : HO} (h : b ≠ a) : upd H a o b = H b:=by unfold upd; rw [if_neg h]
theorem pR {H : Hp} {a : Addr} {o u : HO} : upd (upd H a o) a u = upd H a u:=by
 funext b; unfold upd; split <;> rfl
theorem wH {H : Hp} {a b : Addr} {o u : HO} (h : H a = some o) (h' : H b = some u) (d : o ≠ u) : a ≠ b:=by
 intro e; subst e; rw [h] at h'; exact d (Option.some.inj h')
theorem aN {H : Hp} {a b : Addr} {o : HO} (h : H a = some o) (h' : H b = none) : a ≠ b:=by
 intro e; subst e; rw [h] at h'; cases h'
def Tup0 (h : Heap) (a : Addr) (items : Array Value) : Prop:=∃ o,h.get? a = some o /\ o.cls = .type "tuple" /\ ∃ n,o.data = .seq items n /\ o.dict = none
theorem Tup0.is {h : Heap} {a : Addr} {items : Array Value} (x : Tup0 h a items) : IsTup h a items:=by
 obtain ⟨o,ho,hc,n,hd,_⟩:=x
 exact ⟨o,ho,hc,n,hd⟩
theorem Tup0.new (h : Heap) (items : Array Value) : Tup0 (h.push { cls:=.type "tuple",data:=.seq items }) h.objs.size items:=⟨_,Heap.get?_push_size _ rfl,rfl,_,rfl,rfl⟩
section
variable (P : Program) (w : World)
def ObjOk (H : Hp) (h : Heap) (a : Addr) : HO -> Prop
 | .lst xs => xs.length <= sizeLine /\ ∃ (its : List Value) (n : Nat),Vals xs its /\ h.get? a = some { cls:=.type "list",data:=.seq its.toArray n }
 | .tup xs => xs.length <= sizeLine /\ ∃ its : List Value,Vals xs its /\ Tup0 h a its.toArray
 | .dK kvs => kvs.length <= sizeLine /\ (a == sysModules) = false /\ ∃ vs,KV kvs vs /\ h.DictOf (a4 P w) a vs
 | .dT kvs => kvs.length <= sizeLine /\ (a == sysModules) = false /\ ∃ xs : List (List Key × Addr × Value),
   Paired (fun (p : List Key × V) (q : List Key × Addr × Value) => p.1 = q.1 /\ H q.2.1 = some (.tup (p.1.map kV)) /\ RelV p.2 q.2.2) kvs xs /\
   ∃ o es ep,h.get? a = some o /\ o.ExactDict /\ o.data = .dict es ep /\ es.toList = xs.map (entryOfKey (tupleKind (a4 P w))) /\ (xs.map (·.1)).Nodup
 | .set S n => h.SetOf (intKind P w) a S n
 | .ins C dx fs => H dx = some (.own a) /\ fs.length <= 1000 /\ dx ≠ a /\ h.get? a = some (PySem.W.instObj C dx) /\
   ∃ mA,h.Ns1 dx mA /\ (∀ f,RelO (fs.lookup f) (mA f)) /\ PySem.Within mA (fs.map (·.1))
 | .own _ => ∃ o,h.get? a = some o
 | .xd fs => ∃ mA,h.Ns1 a mA /\ ∀ f,RelO (fs.lookup f) (mA f)
 | .rng lo hi => ∃ t u v,h.get? a = some { cls:=.type "range",data:=.fields #[.int lo t,.int hi u,.int 1 v] }
 | .frz o u => h.get? a = some o /\ ObjOk H h a u
 | .tbl ps => h.get? a = some { cls:=.none,data:=.fields ps }
 | .met f x => h.get? a = some (PySem.W.methodObj (.ref f) (.ref x))
 | .ext φ => φ h /\ (∃ o,h.get? a = some o) /\ ∀ h1 h2 : Heap,φ h1 -> (∀ o,h1.get? a = some o -> h2.get? a = some o) -> φ h2
def HOk (H : Hp) (h : Heap) : Prop:=∀ a o,H a = some o -> ObjOk P w H h a o
end
section
variable {P : Program} {w : World} {H H' : Hp} {h h' : Heap} {a : Addr} {o : HO}
theorem ObjOk.lt (x : ObjOk P w H h a o) : a < h.objs.size:=by
 cases o with
 | lst xs => obtain ⟨_,_,_,_,e⟩:=x; exact Heap.lt_size e
 | tup xs => obtain ⟨_,_,_,p⟩:=x; exact p.is.lt
 | dK kvs => obtain ⟨_,_,_,_,o,_,_,e,_⟩:=x; exact Heap.lt_size e
 | dT kvs => obtain ⟨_,_,_,_,o,_,_,e,_⟩:=x; exact Heap.lt_size e
 | set S n => obtain ⟨o,_,_,_,e,_⟩:=x; exact Heap.lt_size e
 | ins C dx fs => obtain ⟨_,_,_,e,_⟩:=x; exact Heap.lt_size e
 | own y => obtain ⟨_,e⟩:=x; exact Heap.lt_size e
 | xd fs => obtain ⟨_,⟨_,_,_,e,_⟩,_⟩:=x; exact Heap.lt_size e
 | rng lo hi => obtain ⟨_,_,_,e⟩:=x; exact Heap.lt_size e
 | frz ob u => obtain ⟨e,_⟩:=x; exact Heap.lt_size e
 | tbl ps => exact Heap.lt_size (show h.get? a = some _ from x)
 | met f y => exact Heap.lt_size (show h.get? a = some _ from x)
 | ext φ => obtain ⟨_,⟨_,e⟩,_⟩:=x; exact Heap.lt_size e
theorem Paired.mapP {α β : Type} {F G : α -> β -> Prop} : ∀ {l₁ : List α} {l₂ : List β},Paired F l₁ l₂ -> (∀ a b,F a b -> G a b) -> Paired G l₁ l₂
 | _,_,.nil,_ => .nil
 | _,_,.cons r t,f => .cons (f _ _ r) (Paired.mapP t f)
theorem ObjOk.stay (x : ObjOk P w H h a o) (k : ∀ b u,(b = a \/ H b = some (.own a)) -> h.get? b = some u -> h'.get? b = some u)
  (ho : ∀ b,H b = some (.own a) -> H' b = some (.own a)) (ht : ∀ b xs,H b = some (.tup xs) -> H' b = some (.tup xs)) : ObjOk P w H' h' a o:=by
 induction o with
 | lst xs => obtain ⟨z,its,n,r,e⟩:=x; exact ⟨z,its,n,r,k _ _ (.inl rfl) e⟩
 | tup xs => obtain ⟨z,its,r,ob,e,c⟩:=x; exact ⟨z,its,r,ob,k _ _ (.inl rfl) e,c⟩
 | dK kvs => obtain ⟨z,y,vs,r,ob,es,ep,e,c⟩:=x; exact ⟨z,y,vs,r,ob,es,ep,k _ _ (.inl rfl) e,c⟩
 | dT kvs =>
  obtain ⟨z,y,xs,r,ob,es,ep,e,c⟩:=x
  exact ⟨z,y,xs,Paired.mapP r fun p q z => ⟨z.1,ht _ _ z.2.1,z.2.2⟩,ob,es,ep,k _ _ (.inl rfl) e,c⟩
 | set S n => obtain ⟨ob,es,ep,t,e,c⟩:=x; exact ⟨ob,es,ep,t,k _ _ (.inl rfl) e,c⟩
 | ins C dx fs =>
  obtain ⟨d,z,ne,e,mA,⟨od,es,ep,e2,c⟩,r⟩:=x
  exact ⟨ho _ d,z,ne,k _ _ (.inl rfl) e,mA,⟨od,es,ep,k _ _ (.inr d) e2,c⟩,r⟩
 | own y => obtain ⟨ob,e⟩:=x; exact ⟨ob,k _ _ (.inl rfl) e⟩
 | xd fs => obtain ⟨mA,⟨od,es,ep,e,c⟩,r⟩:=x; exact ⟨mA,⟨od,es,ep,k _ _ (.inl rfl) e,c⟩,r⟩
 | rng lo hi => obtain ⟨t,u,v,e⟩:=x; exact ⟨t,u,v,k _ _ (.inl rfl) e⟩
 | frz ob u ih => obtain ⟨e,q⟩:=x; exact ⟨k _ _ (.inl rfl) e,ih q⟩
 | tbl ps =>
  have e : h.get? a = some { cls:=.none,data:=.fields ps }:=x
  show h'.get? a = some { cls:=.none,data:=.fields ps }
  exact k a _ (.inl rfl) e
 | met f y =>
  have e : h.get? a = some (PySem.W.methodObj (.ref f) (.ref y)):=x
  show h'.get? a = some (PySem.W.methodObj (.ref f) (.ref y))
  exact k a _ (.inl rfl) e
 | ext φ => obtain ⟨p,⟨o,e⟩,st⟩:=x; exact ⟨st _ _ p fun o q => k _ _ (.inl rfl) q,⟨o,k _ _ (.inl rfl) e⟩,st⟩
theorem HOk.lt (x : HOk P w H h) (e : H a = some o) : a < h.objs.size:=(x a o e).lt
theorem HOk.fresh (x : HOk P w H h) (e : h.objs.size <= a) : H a = none:=by
 cases q : H a with
 | none => rfl
 | some u => exact absurd (Nat.lt_of_lt_of_le (x.lt q) e) (Nat.lt_irrefl _)
theorem HOk.kept (x : HOk P w H h) (k : ∀ b u,h.get? b = some u -> h'.get? b = some u) : HOk P w H h':=fun a o e =>
 (x a o e).stay (fun b u _ q => k b u q) (fun _ q => q) fun _ _ q => q
theorem HOk.laid (x : HOk P w H h) (k : ∀ b u,h.get? b = some u -> h'.get? b = some u) (hp : h.objs.size <= a) (new : ObjOk P w (upd H a o) h' a o) : HOk P w (upd H a o) h':=fun b u e => by
 have hn:=x.fresh hp
 by_cases hb : b = a
 ·
  subst hb; rw [aC] at e; cases e; exact new
 ·
  rw [aq hb] at e
  exact (x b u e).stay (fun c v _ q => k c v q) (fun c q => by rw [aq (aN q hn)]; exact q) fun c xs q => by rw [aq (aN q hn)]; exact q
end
def Rd (H : Hp) (a : Addr) (u : HO) : Prop:=H a = some u \/ ∃ o,H a = some (.frz o u)
theorem Rd.of {H : Hp} {a : Addr} {u : HO} (h : H a = some u) : Rd H a u:=.inl h
theorem Rd.ok {P : Program} {w : World} {H : Hp} {h : Heap} {a : Addr} {u : HO} (r : Rd H a u) (x : HOk P w H h) : ObjOk P w H h a u:=by
 rcases r with r | ⟨o,r⟩
 ·
  exact x a u r
 ·
  obtain ⟨_,q⟩:=x a _ r
  exact q
def Mut : Option HO -> Prop
 | some (.lst _) => True
 | some (.dK _) => True
 | some (.dT _) => True
 | some (.set _ _) => True
 | some (.ins _ _ _) => True
 | some (.ext _) => True
 | _ => False
section
variable {P : Program} {w : World} {H : Hp} {h h' : Heap} {x e : Addr} {o' : HO}
theorem HOk.write (ok : HOk P w H h) (mu : Mut (H x)) (he : e = x \/ H e = some (.own x)) (k : ∀ b u,b ≠ e -> h.get? b = some u -> h'.get? b = some u) (heo : ∃ u,h'.get? e = some u)
  (new : ObjOk P w (upd H x o') h' x o') : HOk P w (upd H x o') h':=fun b u q => by
 have nown : ∀ c y,H c = some (.own y) -> c ≠ x:=fun c y r z => by subst z; rw [r] at mu; exact mu
 have ntup : ∀ c xs,H c = some (.tup xs) -> c ≠ x:=fun c xs r z => by subst z; rw [r] at mu; exact mu
 by_cases hb : b = x
 ·
  subst hb; rw [aC] at q; cases q; exact new
 ·
  rw [aq hb] at q
  by_cases hbe : b = e
  ·
   have q' : H b = some (.own x):=by
    rcases he with z | z
    ·
     exact absurd (hbe.trans z) hb
    ·
     rw [hbe]; exact z
   rw [q] at q'; cases q'
   obtain ⟨v,hv⟩:=heo
   exact ⟨v,by rw [hbe]; exact hv⟩
  ·
   refine (ok b u q).stay (fun c v hc r => k c v ?_ r) (fun c r => by rw [aq (nown c b r)]; exact r) fun c xs r => by rw [aq (ntup c xs r)]; exact r
   rcases hc with rfl | hc
   ·
    exact hbe
   ·
    rintro rfl
    rcases he with z | z
    ·
     exact nown c b hc z
    ·
     rw [hc] at z; cases z; exact hb rfl
end
structure Un (fs ex : List Addr) (H H' : Hp) (h h' : Heap) : Prop where
 keep : ∀ b o,h.get? b = some o -> H b = none -> b ∉ fs -> b ∉ ex -> h'.get? b = some o
 slot : ∀ b o,h.get? b = some o -> H b = none -> b ∈ fs -> b ∉ ex -> ∃ sl,h'.get? b = some { o with slots:=sl }
 free : ∀ b o,h.get? b = some o -> H b = none -> b ∉ ex -> H' b = none
 there : ∀ b o,h.get? b = some o -> b ∉ ex -> ∃ o',h'.get? b = some o'
 tups : ∀ b xs,H b = some (.tup xs) -> H' b = some (.tup xs)
 frzs : ∀ b o u,H b = some (.frz o u) -> H' b = some (.frz o u)
 tbls : ∀ b ps,H b = some (.tbl ps) -> ∃ more,H' b = some (.tbl (ps ++ more))
section
variable {fs fs' ex ex' : List Addr} {H H1 H2 : Hp} {h h1 h2 h' : Heap} {a x e : Addr} {o : HO}
theorem Un.any (u : Un fs ex H H1 h h1) {b : Addr} {ob : Obj} (q : h.get? b = some ob) (n : H b = none) (hx : b ∉ ex) : ∃ sl,h1.get? b = some { ob with slots:=sl }:=by
 by_cases hb : b ∈ fs
 ·
  exact u.slot b ob q n hb hx
 ·
  exact ⟨ob.slots,u.keep b ob q n hb hx⟩
theorem Un.trans (a : Un fs ex H H1 h h1) (b : Un fs ex H1 H2 h1 h2) : Un fs ex H H2 h h2 where
 keep:=fun c ob q n hc hx => b.keep c ob (a.keep c ob q n hc hx) (a.free c ob q n hx) hc hx
 slot:=fun c ob q n hc hx => by
  obtain ⟨sl,e1⟩:=a.slot c ob q n hc hx
  obtain ⟨sl',e2⟩:=b.slot c _ e1 (a.free c ob q n hx) hc hx
  exact ⟨sl',e2⟩
 free:=fun c ob q n hx => by
  obtain ⟨o',e1⟩:=a.there c ob q hx
  exact b.free c o' e1 (a.free c ob q n hx) hx
 there:=fun c ob q hx => by
  obtain ⟨o',e1⟩:=a.there c ob q hx
  exact b.there c o' e1 hx
 tups:=fun c xs q => b.tups c xs (a.tups c xs q)
 frzs:=fun c ob xs q => b.frzs c ob xs (a.frzs c ob xs q)
 tbls:=fun c ps q => by
  obtain ⟨m1,e1⟩:=a.tbls c ps q
  obtain ⟨m2,e2⟩:=b.tbls c _ e1
  exact ⟨m1 ++ m2,by rw [e2,Array.append_assoc]⟩
theorem Un.kept (k : ∀ b u,h.get? b = some u -> h'.get? b = some u) : Un fs ex H H h h' :=
 ⟨fun b ob q _ _ _ => k b ob q,fun b ob q _ _ _ => ⟨ob.slots,k b ob q⟩,fun _ _ _ n _ => n,fun b ob q _ => ⟨ob,k b ob q⟩,fun _ _ q => q,fun _ _ _ q => q,fun _ ps q => ⟨#[],by rw [q]; simp⟩⟩
theorem Un.refl : Un fs ex H H h h:=Un.kept fun _ _ q => q
theorem Un.laid (k : ∀ b u,h.get? b = some u -> h'.get? b = some u) (hp : h.objs.size <= a) (hn : H a = none) : Un fs ex H (upd H a o) h h' where
 keep:=fun b u q _ _ _ => k b u q
 slot:=fun b u q _ _ _ => ⟨u.slots,k b u q⟩
 free:=fun b u q n _ => by rw [aq (Nat.ne_of_lt (Nat.lt_of_lt_of_le (Heap.lt_size q) hp))]; exact n
 there:=fun b u q _ => ⟨u,k b u q⟩
 tups:=fun b xs q => by rw [aq (aN q hn)]; exact q
 frzs:=fun b u xs q => by rw [aq (aN q hn)]; exact q
 tbls:=fun b ps q => ⟨#[],by rw [aq (aN q hn),q]; simp⟩
theorem Un.write (mu : Mut (H x)) (he : e = x \/ H e = some (.own x)) (k : ∀ b u,b ≠ e -> h.get? b = some u -> h'.get? b = some u) (heo : ∃ u,h'.get? e = some u) : Un fs ex H (upd H x o) h h':=by
 have hx : ∀ b,H b = none -> b ≠ x:=fun b n z => by subst z; rw [n] at mu; exact mu
 have hb : ∀ b,H b = none -> b ≠ e:=fun b n z => by
  subst z
  rcases he with r | r
  ·
   exact hx b n r
  ·
   rw [n] at r; cases r
 have hm : ∀ b u,H b = some u -> ¬ Mut (some u) -> b ≠ x:=fun b u q nm z => by subst z; rw [q] at mu; exact nm mu
 refine ⟨fun b u q n _ _ => k b u (hb b n) q,fun b u q n _ _ => ⟨u.slots,k b u (hb b n) q⟩,fun b u q n _ => by rw [aq (hx b n)]; exact n,fun b u q _ => ?_,
  fun b xs q => by rw [aq (hm b _ q fun z => z)]; exact q,fun b u xs q => by rw [aq (hm b _ q fun z => z)]; exact q,fun b ps q => ⟨#[],by rw [aq (hm b _ q fun z => z),q]; simp⟩⟩
 by_cases hbe : b = e
 ·
  subst hbe; exact heo
 ·
  exact ⟨u,k b u hbe q⟩
theorem Un.mono (u : Un fs ex H H1 h h1) (hs : ∀ b ∈ fs,b ∈ fs') (hx : ∀ b ∈ ex,b ∈ ex') : Un fs' ex' H H1 h h1 :=
 ⟨fun b ob q n hb he => u.keep b ob q n (fun z => hb (hs b z)) fun z => he (hx b z),fun _ _ q n _ he => u.any q n fun z => he (hx _ z),fun b ob q n he => u.free b ob q n fun z => he (hx b z),fun b ob q he => u.there b ob q fun z => he (hx b z),u.tups,u.frzs,u.tbls⟩
end
noncomputable def trk (h : Heap) (H : Hp) : List Addr:=(List.range h.objs.size).filter fun a => (H a).isSome
noncomputable def gu (h : Heap) (H : Hp) : Heap:=PySem.W.hideAll h (trk h H)
theorem lv (h : Heap) (H : Hp) : (gu h H).objs.size = h.objs.size:=PySem.W.hideAll_size _ _
theorem mh {h : Heap} {H : Hp} {b : Addr} {o : Obj} (e : h.get? b = some o) (n : H b = none) : (gu h H).get? b = some o :=
 PySem.W.hideAll_get _ e fun hm => by
  have q : (H b).isSome = true:=(List.mem_filter.mp hm).2
  rw [n] at q; simp at q
theorem pS {h : Heap} {H : Hp} {b : Addr} {o : Obj} (e : (gu h H).get? b = some o) : h.get? b = some o /\ H b = none:=by
 have e' : h.get? b = some o:=PySem.W.of_hideAll (trk h H) e
 refine ⟨e',?_⟩
 cases q : H b with
 | none => rfl
 | some x =>
  have hm : b ∈ trk h H:=List.mem_filter.mpr ⟨List.mem_range.mpr (Heap.lt_size e'),by simp [q]⟩
  have z : (gu h H).get? b = none:=PySem.W.hideAll_none (trk h H) hm
  rw [z] at e; cases e
noncomputable def pT (g h : Heap) (L : Addr) : List (Addr × Obj):=(List.range h.objs.size).filterMap fun a => if a = L \/ (g.get? a).isSome = true then none else (h.get? a).map fun o => (a,o)
noncomputable def rest (g h : Heap) (L d : Addr) : List (Addr × Obj):=(pT g h L).filter fun p => decide (p.1 ≠ d)
structure Mod (K : PySem.W.Frag) (mg : Str -> Option Value) (base : Heap) : Prop where
 kin : K.In base
 glob : base.Ns mainGlobals mg
 blt : ∃ mb,base.Ns builtinsNs mb /\ ∀ x : Str,x ≠ "__name__" -> mb x = bootBuiltins x
 nolimit : base.NoLimit
structure Cx where
 prog : Program
 w : World
 K : PySem.W.Frag
 mg : Str -> Option Value
 base : Heap
 A : Around
 N : List Str
 s₀ : Shared
 H₀ : Hp
 env : Env
 outer : List Env
 stack : List Env
 ex : List Addr
 fn : Str -> Bool
 calm : Bool
 pn : List (Addr × Obj)
 xe : Value -> Shared -> Prop
noncomputable def frs (l : List Env) : List Addr:=l.filterMap (·.frame)
noncomputable abbrev Cx.fs (X : Cx) : List Addr:=frs X.outer
def Vis (sc : Scope) (x : Str) : Prop:=sc.names.lookup x = some .local \/ sc.names.lookup x = some .cell \/ sc.names.lookup x = some .free
def Loc (sc : Scope) (x : Str) : Prop:=sc.names.lookup x = some .local \/ sc.names.lookup x = some .cell
def Look (env : Env) (h : Heap) (m : Str -> Option Value) (x : Str) (u : Value) : Prop :=
 (env.kindOf x = some .local /\ m x = some u) \/ ((env.kindOf x = some .cell \/ env.kindOf x = some .free) /\ ∃ c,env.cells.lookup x = some c /\ h.IsCell c (some u))
structure Cx.Ok (X : Cx) : Prop where
 mod : Mod X.K X.mg X.base
 kind : X.env.scope.kind = .function
 glob : X.env.globals = mainGlobals
 blt : X.env.builtins = builtinsNs
 above : X.s₀.heap.objs.size <= X.env.locals
 inj : ∀ x y c,X.env.cells.lookup x = some c -> X.env.cells.lookup y = some c -> x = y
 has : ∀ x,(X.env.kindOf x = some .cell \/ X.env.kindOf x = some .free) -> ∃ c,X.env.cells.lookup x = some c
 cab : ∀ x c,X.fn x = true -> X.env.cells.lookup x = some c -> X.s₀.heap.objs.size <= c
 hd : X.calm = true -> X.A.handled = none
 frames : X.A.frames = some X.stack
 stk : X.stack = X.outer \/ (X.stack = X.env :: X.outer /\ X.env.frame = some X.env.locals)
 exf : ∀ b ∈ X.ex,b ≠ X.env.locals /\ ∀ x c,X.env.cells.lookup x = some c -> c ≠ b
 bs : ∀ b o,X.base.get? b = some o -> X.s₀.heap.get? b = some o /\ X.H₀ b = none
 bsz : X.base.objs.size <= X.s₀.heap.objs.size
 noex : ∀ b o,X.base.get? b = some o -> b ∉ X.ex
 exfs : ∀ b ∈ X.ex,b ∉ X.fs
 funs : X.s₀.heap.FunFrames X.base X.outer
 frf : ∀ b ∈ X.fs,X.H₀ b = none
structure Inv (X : Cx) (pins : List (Addr × Obj)) (σ : List (Option V)) (H : Hp) (s : Shared) : Prop where
 ok : X.Ok
 os : s.os = X.s₀.os
 bare : AllBare s.gens
 base : Un X.fs X.ex X.H₀ H X.s₀.heap s.heap
 loc : ∃ m,s.heap.Ns X.env.locals m /\ ∀ (i : Nat) (x : Str) (v : V),X.N[i]? = some x -> σ[i]? = some (some v) -> Vis X.env.scope x -> ∃ u,RelV v u /\ Look X.env s.heap m x u
 cell : ∀ x c,X.env.cells.lookup x = some c -> ∃ v,s.heap.IsCell c v
 free : H X.env.locals = none
 freeC : ∀ x c,X.env.cells.lookup x = some c -> H c = none
 pin : ∀ p ∈ X.pn ++ pins,s.heap.get? p.1 = some p.2 /\ H p.1 = none /\ p.1 ≠ X.env.locals /\ p.1 ∉ X.fs /\ ∀ v,p.2.data ≠ .cell v
 hok : HOk X.prog X.w H s.heap
 len : σ.length = X.N.length
section
variable {X : Cx} {pins : List (Addr × Obj)} {σ : List (Option V)} {H H' : Hp} {s : Shared} {h' : Heap}
theorem Cx.Ok.nofr (ok : X.Ok) {b : Addr} {o : Obj} (e : X.base.get? b = some o) : b ∉ X.fs:=fun hb => by
 have:=(ok.funs.mem hb).1
 rw [e] at this; cases this
theorem Inv.bs (I : Inv X pins σ H s) : ∀ b o,X.base.get? b = some o -> s.heap.get? b = some o /\ H b = none:=fun b o e =>
 ⟨I.base.keep b o (I.ok.bs b o e).1 (I.ok.bs b o e).2 (I.ok.nofr e) (I.ok.noex b o e),I.base.free b o (I.ok.bs b o e).1 (I.ok.bs b o e).2 (I.ok.noex b o e)⟩
theorem Inv.bk (I : Inv X pins σ H s) : ∀ b o,X.base.get? b = some o -> s.heap.get? b = some o:=fun b o e => (I.bs b o e).1
theorem Inv.mod (I : Inv X pins σ H s) : Mod X.K X.mg X.base:=I.ok.mod
theorem Inv.kIn (I : Inv X pins σ H s) : X.K.In s.heap:=I.ok.mod.kin.keeps I.bk
theorem Inv.nolimit (I : Inv X pins σ H s) : s.heap.NoLimit:=I.ok.mod.nolimit.keeps I.bk
theorem Inv.fr (I : Inv X pins σ H s) : ∃ m,Fr X.base X.env.locals s.heap m :=
 let ⟨m,hn,_⟩:=I.loc
 ⟨m,hn,I.bk,Nat.le_trans I.ok.bsz I.ok.above⟩
theorem Inv.lt (I : Inv X pins σ H s) : X.env.locals < s.heap.objs.size:=let ⟨_,hn,_⟩:=I.loc; hn.lt
theorem Inv.sz (I : Inv X pins σ H s) : X.s₀.heap.objs.size <= s.heap.objs.size:=Nat.le_trans I.ok.above (Nat.le_of_lt I.lt)
theorem Inv.nofs (I : Inv X pins σ H s) {a : Addr} (h : s.heap.objs.size <= a) : a ∉ X.fs:=fun hb => by
 obtain ⟨_,o,ho,_⟩:=I.ok.funs.mem hb
 exact absurd (Nat.lt_of_lt_of_le (Heap.lt_size ho) (Nat.le_trans I.sz h)) (Nat.lt_irrefl _)
theorem Inv.cne (I : Inv X pins σ H s) : ∀ x c,X.env.cells.lookup x = some c -> c ≠ X.env.locals:=fun x c e z => by
 obtain ⟨v,o,ho,hd⟩:=I.cell x c e
 obtain ⟨m,⟨o',es,ep,ho',hd',_⟩,_⟩:=I.loc
 rw [z,ho'] at ho; cases ho; rw [hd'] at hd; cases hd
theorem Inv.funs (I : Inv X pins σ H s) : s.heap.FunFrames X.base X.outer:=by
 have all : ∀ (l : List Env),(∀ b ∈ frs l,b ∈ X.fs) -> X.s₀.heap.FunFrames X.base l -> s.heap.FunFrames X.base l:=by
  intro l
  induction l with
  | nil => intro _ _; trivial
  | cons env r ih =>
   intro hs hl
   obtain ⟨hk,⟨L,o,hf,hn,ho,hd⟩,hr⟩:=hl
   have hL : L ∈ X.fs:=hs L (by unfold frs; rw [List.filterMap_cons,hf]; exact List.mem_cons_self)
   obtain ⟨sl,e⟩:=I.base.slot L o ho (I.ok.frf L hL) hL fun z => I.ok.exfs L z hL
   exact ⟨hk,⟨L,_,hf,hn,e,hd⟩,ih (fun b hb => hs b (by unfold frs; rw [List.filterMap_cons,hf]; exact List.mem_cons_of_mem _ hb)) hr⟩
 exact all X.outer (fun _ hb => hb) I.ok.funs
theorem Inv.stack (I : Inv X pins σ H s) : s.heap.FunFrames X.base X.stack:=by
 rcases I.ok.stk with e | ⟨e,hf⟩
 ·
  rw [e]; exact I.funs
 ·
  rw [e]
  obtain ⟨m,hn,_⟩:=I.loc
  refine .cons (by rw [I.ok.kind]; decide) hf hn ?_ I.funs
  exact Heap.get?_none_of_le (Nat.le_trans I.ok.bsz I.ok.above)
theorem Inv.stkSub (I : Inv X pins σ H s) : ∀ b ∈ frs X.stack,b ∈ X.env.locals :: X.fs:=fun b hb => by
 rcases I.ok.stk with e | ⟨e,hf⟩
 ·
  rw [e] at hb; exact List.mem_cons_of_mem _ hb
 ·
  rw [e] at hb
  unfold frs at hb
  rw [List.filterMap_cons,hf] at hb
  exact hb
theorem Inv.stkFree (I : Inv X pins σ H s) : ∀ b ∈ frs X.stack,H b = none:=fun b hb => by
 rcases List.mem_cons.mp (I.stkSub b hb) with e | hb
 ·
  rw [e]; exact I.free
 ·
  obtain ⟨_,o,ho,_⟩:=I.ok.funs.mem hb
  exact I.base.free b o ho (I.ok.frf b hb) fun z => I.ok.exfs b z hb
theorem Inv.step {g' : Array GenState} {t' : Nat} {d' : Drawn} {ch : List Addr} (I : Inv X pins σ H s)
  (hch : ∀ b ∈ ch,(b ∈ X.ex \/ X.s₀.heap.objs.size <= b) /\ b ≠ X.env.locals /\ (∀ x c,X.env.cells.lookup x = some c -> c ≠ b) /\ ∀ p ∈ X.pn ++ pins,p.1 ≠ b)
  (keep : ∀ b o,b ≠ X.env.locals -> b ∉ X.fs -> b ∉ ch -> s.heap.get? b = some o -> H b = none -> h'.get? b = some o)
  (slot : ∀ b o,b ≠ X.env.locals -> b ∈ X.fs -> b ∉ ch -> s.heap.get? b = some o -> H b = none -> ∃ sl,h'.get? b = some { o with slots:=sl }) (free : ∀ b o,b ∉ ch -> s.heap.get? b = some o -> H b = none -> H' b = none)
  (there : ∀ b o,b ∉ ch -> s.heap.get? b = some o -> ∃ o',h'.get? b = some o')
  (tups : ∀ b xs,H b = some (.tup xs) -> H' b = some (.tup xs)) (frzs : ∀ b o u,H b = some (.frz o u) -> H' b = some (.frz o u)) (tbls : ∀ b ps,H b = some (.tbl ps) -> ∃ more,H' b = some (.tbl (ps ++ more)))
  (ns : ∀ m,s.heap.Ns X.env.locals m -> h'.Ns X.env.locals m) (hok : HOk X.prog X.w H' h') (hg : AllBare g') :
  Inv X pins σ H' { s with heap:=h',gens:=g',drawn:=d',toks:=t' }:=by
 have neL : ∀ b o,X.s₀.heap.get? b = some o -> b ≠ X.env.locals:=fun b o e => Nat.ne_of_lt (Nat.lt_of_lt_of_le (Heap.lt_size e) I.ok.above)
 have neC : ∀ b o,X.s₀.heap.get? b = some o -> b ∉ X.ex -> b ∉ ch:=fun b o e hx hb => by
  rcases (hch b hb).1 with z | z
  ·
   exact hx z
  ·
   exact absurd (Nat.lt_of_lt_of_le (Heap.lt_size e) z) (Nat.lt_irrefl _)
 have cellK : ∀ x c,X.env.cells.lookup x = some c -> ∀ v,s.heap.IsCell c v -> h'.IsCell c v:=fun x c e v ⟨o,ho,hd⟩ => by
  have nch : c ∉ ch:=fun z => (hch c z).2.2.1 x c e rfl
  by_cases hc : c ∈ X.fs
  ·
   obtain ⟨sl,q⟩:=slot c o (I.cne x c e) hc nch ho (I.freeC x c e)
   exact ⟨_,q,hd⟩
  ·
   exact ⟨o,keep c o (I.cne x c e) hc nch ho (I.freeC x c e),hd⟩
 refine ⟨I.ok,I.os,hg,⟨fun b o e n hb hx => ?_,fun b o e n hb hx => ?_,fun b o e n hx => ?_,fun b o e hx => ?_,fun b xs e => tups b xs (I.base.tups b xs e),fun b o xs e => frzs b o xs (I.base.frzs b o xs e),fun b ps e => ?_⟩,?_,fun x c e => ?_,?_,fun x c e => ?_,fun p hp => ?_,hok,I.len⟩
 ·
  exact keep b o (neL b o e) hb (neC b o e hx) (I.base.keep b o e n hb hx) (I.base.free b o e n hx)
 ·
  obtain ⟨sl,e1⟩:=I.base.slot b o e n hb hx
  obtain ⟨sl',e2⟩:=slot b _ (neL b o e) hb (neC b o e hx) e1 (I.base.free b o e n hx)
  exact ⟨sl',e2⟩
 ·
  obtain ⟨o',e1⟩:=I.base.there b o e hx
  exact free b o' (neC b o e hx) e1 (I.base.free b o e n hx)
 ·
  obtain ⟨o',e1⟩:=I.base.there b o e hx
  exact there b o' (neC b o e hx) e1
 ·
  obtain ⟨m1,e1⟩:=I.base.tbls b ps e
  obtain ⟨m2,e2⟩:=tbls b _ e1
  exact ⟨m1 ++ m2,by rw [e2,Array.append_assoc]⟩
 ·
  obtain ⟨m,hn,hl⟩:=I.loc
  refine ⟨m,ns m hn,fun i x v e1 e2 e3 => ?_⟩
  obtain ⟨u,r,l⟩:=hl i x v e1 e2 e3
  refine ⟨u,r,?_⟩
  rcases l with l | ⟨k,c,e,z⟩
  ·
   exact .inl l
  ·
   exact .inr ⟨k,c,e,cellK x c e _ z⟩
 ·
  obtain ⟨v,z⟩:=I.cell x c e
  exact ⟨v,cellK x c e v z⟩
 ·
  obtain ⟨m,⟨o,_,_,ho,_⟩,_⟩:=I.loc
  exact free _ o (fun z => (hch _ z).2.1 rfl) ho I.free
 ·
  obtain ⟨v,o,ho,hd⟩:=I.cell x c e
  exact free c o (fun z => (hch c z).2.2.1 x c e rfl) ho (I.freeC x c e)
 ·
  obtain ⟨e,n,ne,nf,d⟩:=I.pin p hp
  have nch : p.1 ∉ ch:=fun z => (hch p.1 z).2.2.2 p hp rfl
  exact ⟨keep p.1 p.2 ne nf nch e n,free p.1 p.2 nch e n,ne,nf,d⟩
theorem Inv.un {t' : Nat} (I : Inv X pins σ H s) (u : Un X.fs [] H H' s.heap h') (hok : HOk X.prog X.w H' h') : Inv X pins σ H' { s with heap:=h',toks:=t' }:=by
 obtain ⟨m,⟨o,es,ep,ho,r⟩,_⟩:=id I.loc
 obtain ⟨sl,hL⟩:=u.any ho I.free (by simp)
 exact I.step (g':=s.gens) (d':=s.drawn) (ch:=[]) (fun _ z => nomatch z) (fun b o _ hb _ e n => u.keep b o e n hb (by simp)) (fun b o _ hb _ e n => u.slot b o e n hb (by simp)) (fun b o _ e n => u.free b o e n (by simp)) (fun b o _ e => u.there b o e (by simp)) u.tups u.frzs u.tbls (fun m' hm => by
  obtain ⟨o',es',ep',ho',r'⟩:=hm
  rw [ho] at ho'; cases ho'
  exact ⟨_,es',ep',hL,r'⟩) hok I.bare
theorem Inv.call {g' : Array GenState} {t' : Nat} {d' : Drawn} {ch : List Addr} (I : Inv X pins σ H s) (u : Un (frs X.stack) ch H H' s.heap h') (hok : HOk X.prog X.w H' h') (hg : AllBare g')
  (hch : ∀ b ∈ ch,(b ∈ X.ex \/ X.s₀.heap.objs.size <= b) /\ b ≠ X.env.locals /\ (∀ x c,X.env.cells.lookup x = some c -> c ≠ b) /\ ∀ p ∈ X.pn ++ pins,p.1 ≠ b) :
  Inv X pins σ H' { s with heap:=h',gens:=g',drawn:=d',toks:=t' }:=by
 obtain ⟨m,⟨o,es,ep,ho,r⟩,_⟩:=id I.loc
 obtain ⟨sl,hL⟩:=u.any ho I.free fun z => (hch _ z).2.1 rfl
 exact I.step (ch:=ch) hch (fun b o hL hb hc e n => u.keep b o e n (fun z => (List.mem_cons.mp (I.stkSub b z)).elim hL hb) hc) (fun b o _ _ hc e n => u.any e n hc) (fun b o hc e n => u.free b o e n hc) (fun b o hc e => u.there b o e hc) u.tups u.frzs u.tbls (fun m' hm => by
  obtain ⟨o',es',ep',ho',r'⟩:=hm
  rw [ho] at ho'; cases ho'
  exact ⟨_,es',ep',hL,r'⟩) hok hg
theorem Inv.turned {t' : Nat} {it : Addr} (I : Inv X pins σ H s) (k : ∀ b o,b ≠ it -> s.heap.get? b = some o -> h'.get? b = some o) (hn : H it = none) (hL : it ≠ X.env.locals)
  (h1 : it ∈ X.ex \/ X.s₀.heap.objs.size <= it) (h2 : ∀ x c,X.env.cells.lookup x = some c -> c ≠ it) (h3 : ∀ p ∈ X.pn ++ pins,p.1 ≠ it) : Inv X pins σ H { s with heap:=h',toks:=t' }:=by
 have nit : ∀ b u,H b = some u -> b ≠ it:=fun b u e z => by rw [z,hn] at e; cases e
 refine I.step (g':=s.gens) (d':=s.drawn) (ch:=[it]) (fun b hb => ?_) (fun b o _ _ hc e _ => k b o (fun z => hc (by simp [z])) e) (fun b o _ _ hc e _ => ⟨o.slots,k b o (fun z => hc (by simp [z])) e⟩) (fun _ _ _ _ n => n)
  (fun b o hc e => ⟨o,k b o (fun z => hc (by simp [z])) e⟩) (fun _ _ e => e) (fun _ _ _ e => e) (fun b ps e => ⟨#[],by rw [e]; simp⟩) (fun m hm => ?_) (fun b u e => ?_) I.bare
 ·
  have e : b = it:=by simpa using hb
  subst e
  exact ⟨h1,hL,h2,h3⟩
 ·
  obtain ⟨o,es,ep,ho,r⟩:=hm
  exact ⟨o,es,ep,k _ o (Ne.symm hL) ho,r⟩
 ·
  refine (I.hok b u e).stay (fun c v hc q => k c v ?_ q) (fun _ q => q) fun _ _ q => q
  rcases hc with z | z
  ·
   rw [z]; exact nit b u e
  ·
   exact nit c _ z
theorem Inv.tok (I : Inv X pins σ H s) (t : Nat) : Inv X pins σ H { s with toks:=t }:=I.un (h':=s.heap) (t':=t) Un.refl I.hok
theorem Inv.kept {t' : Nat} (I : Inv X pins σ H s) (k : ∀ b u,s.heap.get? b = some u -> h'.get? b = some u) : Inv X pins σ H { s with heap:=h',toks:=t' }:=I.un (Un.kept k) (I.hok.kept k)
theorem Inv.laid {a : Addr} {o : HO} {t' : Nat} (I : Inv X pins σ H s) (k : ∀ b u,s.heap.get? b = some u -> h'.get? b = some u) (hp : s.heap.objs.size <= a) (new : ObjOk X.prog X.w (upd H a o) h' a o) :
  Inv X pins σ (upd H a o) { s with heap:=h',toks:=t' }:=I.un (Un.laid k hp (I.hok.fresh hp)) (I.hok.laid k hp new)
theorem Inv.write {x e : Addr} {o : HO} {t' : Nat} (I : Inv X pins σ H s) (mu : Mut (H x)) (he : e = x \/ H e = some (.own x)) (k : ∀ b u,b ≠ e -> s.heap.get? b = some u -> h'.get? b = some u) (heo : ∃ u,h'.get? e = some u)
  (new : ObjOk X.prog X.w (upd H x o) h' x o) : Inv X pins σ (upd H x o) { s with heap:=h',toks:=t' }:=I.un (Un.write mu he k heo) (I.hok.write mu he k heo new)
theorem Inv.pins_of {pins' : List (Addr × Obj)} (I : Inv X pins σ H s) (h : ∀ p ∈ pins',s.heap.get? p.1 = some p.2 /\ H p.1 = none /\ p.1 ≠ X.env.locals /\ p.1 ∉ X.fs /\ ∀ v,p.2.data ≠ .cell v) : Inv X pins' σ H s :=
 ⟨I.ok,I.os,I.bare,I.base,I.loc,I.cell,I.free,I.freeC,fun p hp => (List.mem_append.mp hp).elim (fun z => I.pin p (List.mem_append_left _ z)) (h p),I.hok,I.len⟩
theorem eA {N : List Str} (hN : N.Nodup) {i j : Nat} {x : Str} (a : N[i]? = some x) (b : N[j]? = some x) : i = j:=by
 obtain ⟨h1,e1⟩:=List.getElem?_eq_some_iff.mp a
 obtain ⟨h2,e2⟩:=List.getElem?_eq_some_iff.mp b
 exact (List.getElem_inj hN).mp (e1.trans e2.symm)
theorem cP {M : Model} {A : Around} {E : Value -> Shared -> Prop} {i : Nat} {x : Str} {v : V} {u : Value} {Q : Unit -> Shared -> Prop} (I : Inv X pins σ H s) (hN : X.N.Nodup) (hi : X.N[i]? = some x) (hx : Loc X.env.scope x) (r : RelV v u)
  (h : ∀ s',Inv X pins (σ.set i (some v)) H s' -> (∃ a,Heap.SameBut a s.heap s'.heap /\ (a = X.env.locals \/ X.env.cells.lookup x = some a)) -> Q () s') (hf : X.fn x = true \/ X.env.scope.names.lookup x = some .local:=by first | exact .inl rfl | exact .inr rfl | assumption) : wpAny M A (storeName X.env x u) Q E s:=by
 obtain ⟨m,hn,hl⟩:=id I.loc
 have hcls : (X.env.scope.kind == .class || (X.env.scope.kind == .module && X.env.locals != X.env.globals)) = false:=by rw [I.ok.kind]; rfl
 have hiσ : i < σ.length:=by rw [I.len]; exact (List.getElem?_eq_some_iff.mp hi).1
 have cne:=I.cne
 have tracked : ∀ {a : Addr} {h' : Heap},(∃ o,s.heap.get? a = some o /\ H a = none) -> Heap.SameBut a s.heap h' -> HOk X.prog X.w H h':=fun {a h'} ha hs b ob e => by
  obtain ⟨_,_,hfree⟩:=ha
  refine (I.hok b ob e).stay (fun c w' hc q => (hs.2 c ?_).trans q) (fun _ q => q) fun _ _ q => q
  rintro rfl
  rcases hc with rfl | hc
  ·
   rw [hfree] at e; cases e
  ·
   rw [hfree] at hc; cases hc
 rcases hx with hk | hk
 ·
  refine wpAny_storeName_local hk hn (fun h' hn' hs => ?_) hcls
  obtain ⟨oL,_,_,hoL,_⟩:=id hn
  refine h _ ⟨I.ok,I.os,I.bare,⟨fun b o e n hb hx => ?_,fun b o e n hb hx => ?_,I.base.free,fun b o e hx => ?_,I.base.tups,I.base.frzs,I.base.tbls⟩,⟨_,hn',fun j y v' e1 e2 e3 => ?_⟩,fun y c e => ?_,I.free,I.freeC,fun p hp => ?_,tracked ⟨oL,hoL,I.free⟩ hs,by simpa using I.len⟩ ⟨_,hs,.inl rfl⟩
  ·
   exact (hs.2 b (Nat.ne_of_lt (Nat.lt_of_lt_of_le (Heap.lt_size e) I.ok.above))).trans (I.base.keep b o e n hb hx)
  ·
   obtain ⟨sl,e1⟩:=I.base.slot b o e n hb hx
   exact ⟨sl,(hs.2 b (Nat.ne_of_lt (Nat.lt_of_lt_of_le (Heap.lt_size e) I.ok.above))).trans e1⟩
  ·
   obtain ⟨o',e1⟩:=I.base.there b o e hx
   exact ⟨o',(hs.2 b (Nat.ne_of_lt (Nat.lt_of_lt_of_le (Heap.lt_size e) I.ok.above))).trans e1⟩
  ·
   by_cases hj : j = i
   ·
    subst hj
    rw [hi] at e1; cases e1
    rw [List.getElem?_set_self hiσ] at e2
    cases e2
    exact ⟨u,r,.inl ⟨hk,by simp⟩⟩
   ·
    rw [List.getElem?_set_ne (Ne.symm hj)] at e2
    obtain ⟨u',r',q⟩:=hl j y v' e1 e2 e3
    refine ⟨u',r',?_⟩
    rcases q with ⟨k,e⟩ | ⟨k,c,e,z⟩
    ·
     refine .inl ⟨k,?_⟩
     have : y ≠ x:=fun e => hj (eA hN e1 (e ▸ hi))
     simp [this,e]
    ·
     exact .inr ⟨k,c,e,z.sameBut hs (cne y c e)⟩
  ·
   obtain ⟨w',z⟩:=I.cell y c e
   exact ⟨w',z.sameBut hs (cne y c e)⟩
  ·
   obtain ⟨e,n,ne,nf,d⟩:=I.pin p hp
   exact ⟨(hs.2 p.1 ne).trans e,n,ne,nf,d⟩
 ·
  have hfn : X.fn x = true:=by
   rcases hf with z | z
   ·
    exact z
   ·
    rw [z] at hk; cases hk
  obtain ⟨c,hc⟩:=I.ok.has x (.inl hk)
  obtain ⟨w',z⟩:=I.cell x c hc
  refine wpAny_storeName_cell I.ok.kind hk hc z (fun h' hc' hs => ?_)
  obtain ⟨oc,hoc,hocd⟩:=id z
  refine h { s with heap:=h' } ⟨I.ok,I.os,I.bare,⟨fun b o e n hb hx => ?_,fun b o e n hb hx => ?_,I.base.free,fun b o e hx => ?_,I.base.tups,I.base.frzs,I.base.tbls⟩,⟨m,hn.sameBut hs (Ne.symm (cne x c hc)),fun j y v' e1 e2 e3 => ?_⟩,fun y c' e => ?_,I.free,I.freeC,fun p hp => ?_,tracked ⟨oc,hoc,I.freeC x c hc⟩ hs,by simpa using I.len⟩ ⟨c,hs,.inr hc⟩
  ·
   exact (hs.2 b (Nat.ne_of_lt (Nat.lt_of_lt_of_le (Heap.lt_size e) (I.ok.cab x c hfn hc)))).trans (I.base.keep b o e n hb hx)
  ·
   obtain ⟨sl,e1⟩:=I.base.slot b o e n hb hx
   exact ⟨sl,(hs.2 b (Nat.ne_of_lt (Nat.lt_of_lt_of_le (Heap.lt_size e) (I.ok.cab x c hfn hc)))).trans e1⟩
  ·
   obtain ⟨o',e1⟩:=I.base.there b o e hx
   exact ⟨o',(hs.2 b (Nat.ne_of_lt (Nat.lt_of_lt_of_le (Heap.lt_size e) (I.ok.cab x c hfn hc)))).trans e1⟩
  ·
   by_cases hj : j = i
   ·
    subst hj
    rw [hi] at e1; cases e1
    rw [List.getElem?_set_self hiσ] at e2
    cases e2
    exact ⟨u,r,.inr ⟨.inl hk,c,hc,hc'⟩⟩
   ·
    rw [List.getElem?_set_ne (Ne.symm hj)] at e2
    obtain ⟨u',r',q⟩:=hl j y v' e1 e2 e3
    refine ⟨u',r',?_⟩
    rcases q with q | ⟨k,c',e,z'⟩
    ·
     exact .inl q
    ·
     refine .inr ⟨k,c',e,z'.sameBut hs ?_⟩
     rintro rfl
     exact hj (eA hN e1 (I.ok.inj _ _ _ e hc ▸ hi))
  ·
   by_cases hcc : c' = c
   ·
    subst hcc; exact ⟨_,hc'⟩
   ·
    obtain ⟨w2,z2⟩:=I.cell y c' e
    exact ⟨w2,z2.sameBut hs hcc⟩
  ·
   obtain ⟨e,n,ne,nf,d⟩:=I.pin p hp
   refine ⟨(hs.2 p.1 ?_).trans e,n,ne,nf,d⟩
   intro q
   rw [q,hoc] at e
   have q' : oc = p.2:=Option.some.inj e
   exact d w' (by rw [<- q']; exact hocd)
theorem iy {M : Model} {A : Around} {E : Value -> Shared -> Prop} {i : Nat} {x : Str} {v : V} {u : Value} {Q : Unit -> Shared -> Prop} (I : Inv X pins σ H s) (hN : X.N.Nodup) (hi : X.N[i]? = some x) (hx : Loc X.env.scope x) (r : RelV v u)
  (h : ∀ s',Inv X pins (σ.set i (some v)) H s' -> Q () s') (hf : X.fn x = true \/ X.env.scope.names.lookup x = some .local:=by first | exact .inl rfl | exact .inr rfl | assumption) : wpAny M A (storeName X.env x u) Q E s :=
 cP I hN hi hx r (fun s' I' _ => h s' I') hf
theorem Inv.call' {s' : Shared} {ch : List Addr} (I : Inv X pins σ H s) (ho : s'.os = s.os) (u : Un (frs X.stack) ch H H' s.heap s'.heap) (hok : HOk X.prog X.w H' s'.heap) (hg : AllBare s'.gens)
  (hch : ∀ b ∈ ch,(b ∈ X.ex \/ X.s₀.heap.objs.size <= b) /\ b ≠ X.env.locals /\ (∀ x c,X.env.cells.lookup x = some c -> c ≠ b) /\ ∀ p ∈ X.pn ++ pins,p.1 ≠ b) : Inv X pins σ H' s':=by
 obtain ⟨h',g',d',t',o'⟩:=s'
 have e : o' = s.os:=ho
 subst e
 exact I.call (g':=g') (t':=t') (d':=d') u hok hg hch
end
abbrev XK:=Value -> Option Addr -> Hp -> Prop
abbrev St:=List (Option V)
abbrev VK:=V -> Hp -> Prop
abbrev TE:=St -> Hp -> VK -> Prop
abbrev TT:=St -> Hp -> (Bool -> Hp -> Prop) -> Prop
abbrev TA:=St -> Hp -> (List V -> Hp -> Prop) -> Prop
structure Ends where
 nx : St -> Hp -> Prop
 rt : VK
 bk : St -> Hp -> Prop:=fun _ _ => False
 ct : St -> Hp -> Prop:=fun _ _ => False
abbrev TS:=Ends -> St -> Hp -> Prop
def EP (X : Cx) (pins : List (Addr × Obj)) (σ : St) (Q : VK) (u : Value) (s' : Shared) : Prop:=∃ v H',Inv X pins σ H' s' /\ RelV v u /\ Q v H'
def TP (X : Cx) (pins : List (Addr × Obj)) (σ : St) (Q : Bool -> Hp -> Prop) (b : Bool) (s' : Shared) : Prop:=∃ H',Inv X pins σ H' s' /\ Q b H'
def AP (X : Cx) (pins : List (Addr × Obj)) (σ : St) (Q : List V -> Hp -> Prop) (us : List Value) (s' : Shared) : Prop:=∃ vs H',Inv X pins σ H' s' /\ Vals vs us /\ Q vs H'
def SP (X : Cx) (pins : List (Addr × Obj)) (D : Ends) (f : Flow) (s' : Shared) : Prop :=
 match f with
 | .next => ∃ σ' H',Inv X pins σ' H' s' /\ D.nx σ' H'
 | .brk => ∃ σ' H',Inv X pins σ' H' s' /\ D.bk σ' H'
 | .cont => ∃ σ' H',Inv X pins σ' H' s' /\ D.ct σ' H'
 | .ret u => ∃ v σ' H',Inv X pins σ' H' s' /\ RelV v u /\ D.rt v H'
def PE (X : Cx) (e : Expr) (t : TE) : Prop :=
 ∀ (pins : List (Addr × Obj)) (s : Shared) (σ : St) (H : Hp) (Q : VK),Inv X pins σ H s -> t σ H Q -> wpAny (model X.prog X.w) X.A (eval e X.env) (EP X pins σ Q) X.xe s
def PT (X : Cx) (e : Expr) (t : TT) : Prop :=
 ∀ (pins : List (Addr × Obj)) (s : Shared) (σ : St) (H : Hp) (Q : Bool -> Hp -> Prop),Inv X pins σ H s -> t σ H Q -> wpAny (model X.prog X.w) X.A (isTrue e X.env (eval e X.env)) (TP X pins σ Q) X.xe s
def PW (X : Cx) (e : Expr) (t : TT) : Prop :=
 ∀ (whole : Sem Value) (pins : List (Addr × Obj)) (s : Shared) (σ : St) (H : Hp) (Q : Bool -> Hp -> Prop),Inv X pins σ H s -> t σ H Q -> wpAny (model X.prog X.w) X.A (isTrue e X.env whole) (TP X pins σ Q) X.xe s
theorem PW.pt {X : Cx} {e : Expr} {t : TT} (h : PW X e t) : PT X e t:=h _
def PA (X : Cx) (es : List Expr) (t : TA) : Prop :=
 ∀ (pos : Pos) (pins : List (Addr × Obj)) (s : Shared) (σ : St) (H : Hp) (Q : List V -> Hp -> Prop),Inv X pins σ H s -> t σ H Q -> wpAny (model X.prog X.w) X.A (spliced (backTo pos (starEach es X.env))) (AP X pins σ Q) X.xe s
def PS (X : Cx) (st : Stmt) (t : TS) : Prop :=
 ∀ (pins : List (Addr × Obj)) (s : Shared) (σ : St) (H : Hp) (D : Ends),Inv X pins σ H s -> t D σ H -> wpAny (model X.prog X.w) X.A (exec st X.env) (SP X pins D) X.xe s
def PSs (X : Cx) (st : List Stmt) (t : TS) : Prop :=
 ∀ (pins : List (Addr × Obj)) (s : Shared) (σ : St) (H : Hp) (D : Ends),Inv X pins σ H s -> t D σ H -> wpAny (model X.prog X.w) X.A (execs st X.env) (SP X pins D) X.xe s
theorem thn {α : Type} {t : Sem α} {Q Q' : α -> Shared -> Prop} {M : Model} {A : Around} {E : Value -> Shared -> Prop} {s : Shared} (h : wpAny M A t Q E s) (hQ : ∀ a s,Q a s -> Q' a s) : wpAny M A t Q' E s:=wpAny_mono h hQ fun _ _ x => x
section
variable {X : Cx}
def wI (i : Nat) : TE:=fun σ H Q => ∃ v,σ[i]? = some (some v) /\ Q v H
def tC (v : V) : TE:=fun _ H Q => Q v H
theorem tw {i : Nat} {x : Str} {pos : Pos} (hN : X.N[i]? = some x) (hv : Vis X.env.scope x) (hd : (x == ("__debug__" : Str)) = false:=by decide) (hcd : (x == ("__classdict__" : Str)) = false:=by decide) : PE X (.Name x pos) (wI i):=by
 intro pins s σ H Q I h
 obtain ⟨v,e,h⟩:=h
 obtain ⟨m,hn,hl⟩:=I.loc
 obtain ⟨u,r,l⟩:=hl i x v hN e hv
 have fin : EP X pins σ Q u s:=⟨v,H,I,r,h⟩
 rcases l with ⟨hk,hm⟩ | ⟨hk,c,hc,hcell⟩
 ·
  exact wpAny_Name (wpAny_loadName_local I.ok.kind hk hn hm fin) hd
 ·
  rcases hk with hk | hk
  ·
   exact wpAny_Name (wpAny_loadName_cell I.ok.kind hk hc hcell fin) hd
  ·
   exact wpAny_Name (wpAny_loadName_free I.ok.kind hk hc hcell fin hcd) hd
theorem tD {i j pos} : PE X (.Constant (.int i) j pos) (tC (.int i)):=fun _ _ _ H _ I h => wpAny_Constant_int ⟨.int i,H,I.tok _,⟨_,rfl⟩,h⟩
theorem wJ {b j pos} : PE X (.Constant (.bool b) j pos) (tC (.bl b)):=fun _ _ _ H _ I h => Constant_bool ⟨.bl b,H,I,rfl,h⟩
theorem tE {j pos} : PE X (.Constant .none j pos) (tC .non):=fun _ _ _ H _ I h => Constant_none ⟨.non,H,I,rfl,h⟩
theorem tF {x j pos} : PE X (.Constant (.str x) j pos) (tC (.str x)):=fun _ _ _ H _ I h => Calls.Constant_str ⟨.str x,H,I.tok _,⟨_,rfl⟩,h⟩
def Gl (X : Cx) (x : Str) : Prop:=X.env.kindOf x = some .globalImplicit
theorem cR {E : Value -> Shared -> Prop} {pins : List (Addr × Obj)} {s : Shared} {σ : St} {H : Hp} {x : Str} {u : Value} {pos : Pos} {Q : Value -> Shared -> Prop} (I : Inv X pins σ H s) (hg : Gl X x) (hm : X.mg x = some u) (h : Q u s)
  (hd : (x == ("__debug__" : Str)) = false:=by decide) : wpAny (model X.prog X.w) X.A (eval (.Name x pos) X.env) Q E s :=
 Calls.Name_function_global I.ok.kind hg (Calls.loadGlobal_global (by rw [I.ok.glob]; exact I.mod.glob.keeps I.bk) hm h) hd
theorem eC {E : Value -> Shared -> Prop} {pins : List (Addr × Obj)} {s : Shared} {σ : St} {H : Hp} {x : Str} {u : Value} {pos : Pos} {Q : Value -> Shared -> Prop} (I : Inv X pins σ H s) (hg : Gl X x) (hm : X.mg x = none) (hv : bootBuiltins x = some u) (h : Q u s)
  (hn : x ≠ "__name__":=by decide) (hd : (x == ("__debug__" : Str)) = false:=by decide) : wpAny (model X.prog X.w) X.A (eval (.Name x pos) X.env) Q E s:=by
 obtain ⟨mb,h1,h2⟩:=I.mod.blt
 exact Calls.Name_function_global I.ok.kind hg (Calls.loadGlobal_builtin (by rw [I.ok.glob]; exact I.mod.glob.keeps I.bk) hm (by rw [I.ok.blt]; exact h1.keeps I.bk) ((h2 x hn).trans hv) h) hd
theorem pU {x : Str} {v : V} {u : Value} {pos : Pos} (hg : Gl X x) (hm : X.mg x = some u) (r : RelV v u) (hd : (x == ("__debug__" : Str)) = false:=by decide) : PE X (.Name x pos) (tC v) :=
 fun _ _ _ H _ I h => cR I hg hm ⟨v,H,I,r,h⟩ hd
theorem pV {x : Str} {v : V} {u : Value} {pos : Pos} (hg : Gl X x) (hm : X.mg x = none) (hv : bootBuiltins x = some u) (r : RelV v u) (hn : x ≠ "__name__":=by decide) (hd : (x == ("__debug__" : Str)) = false:=by decide) : PE X (.Name x pos) (tC v) :=
 fun _ _ _ H _ I h => eC I hg hm hv ⟨v,H,I,r,h⟩ hn hd
variable {a b : Expr} {ta tb : TE} {pos : Pos}
def PC (X : Cx) (op : CmpOp) (a b : Expr) (t : TE) : Prop :=
 ∀ (pins : List (Addr × Obj)) (s : Shared) (σ : St) (H : Hp) (Q : VK),Inv X pins σ H s -> t σ H Q ->
  wpAny (model X.prog X.w) X.A (eval a X.env) (fun v s₁ => wpAny (model X.prog X.w) X.A (eval b X.env) (fun u s₂ => wpAny (model X.prog X.w) X.A (compareOp op v u) (EP X pins σ Q) X.xe s₂) X.xe s₁) X.xe s
theorem mi (b : Expr) {op : CmpOp} (h : op ≠ .In) (h2 : op ≠ .NotIn) : behindInMarks op b = false:=by
 have e1 : (op == CmpOp.In) = false:=by cases op <;> first | rfl | exact absurd rfl h
 have e2 : (op == CmpOp.NotIn) = false:=by cases op <;> first | rfl | exact absurd rfl h2
 cases b <;> simp [behindInMarks,e1,e2]
def tB (t : TE) : TT:=fun σ H Q => t σ H fun x H1 => ∃ c,x = .bl c /\ Q c H1
theorem mj {op : CmpOp} {t : TE} (h : PC X op a b t) (h1 : behindInMarks op b = false:=by first | exact mi _ (by decide) (by decide) | rfl) : PT X (.Compare a [op] [b] pos) (tB t):=by
 intro pins s σ H Q I hw
 refine wpAny_isTrue_Compare1 (thn (h pins s σ H _ I hw) fun v s1 h1 => thn h1 fun u s2 h2 => thn h2 fun c s3 ⟨x,H1,I1,r1,q1⟩ => ?_) h1
 obtain ⟨d,rfl,q⟩:=q1
 cases r1
 exact wpAny_truthy_bool ⟨H1,I1,q⟩
theorem tG {e : Expr} {t : TE} (h : PE X e t) (he : ∀ whole,isTrue e X.env whole = (do let v <- whole; standAt e.pos; holding [v] (truthy v)):=by intro _; rfl) : PT X e (tB t):=by
 intro pins s σ H Q I hw
 refine isTrue_plain (thn (h pins s σ H _ I hw) fun v s1 ⟨x,H1,I1,r1,q1⟩ => ?_) (he _)
 obtain ⟨d,rfl,q⟩:=q1
 cases r1
 exact wpAny_truthy_bool ⟨H1,I1,q⟩
variable {tA tB' : TT} {rest : List Expr}
def zr (t u : TT) : TT:=fun σ H Q => t σ H fun c H1 => if c = true then u σ H1 Q else Q false H1
def tOr (t u : TT) : TT:=fun σ H Q => t σ H fun c H1 => if c = true then Q true H1 else u σ H1 Q
def zt (t : TT) : TT:=fun σ H Q => t σ H fun c H1 => Q (!c) H1
theorem pW (ha : PT X a tA) : PW X (.BoolOp .And [a] pos) tA:=by
 intro wh pins s σ H Q I h
 refine isTrue_and (thn (ha pins s σ H Q I h) fun c s1 e => ?_)
 cases c with
 | true => exact isTrue_and_nil e
 | false => exact e
theorem tH (ha : PT X a tA) : PW X (.BoolOp .Or [a] pos) tA:=by
 intro wh pins s σ H Q I h
 refine isTrue_or (thn (ha pins s σ H Q I h) fun c s1 e => ?_)
 cases c with
 | false => exact isTrue_or_nil e
 | true => exact e
theorem tI (ha : PT X a tA) (hb : PW X (.BoolOp .And (b :: rest) pos) tB') : PW X (.BoolOp .And (a :: b :: rest) pos) (zr tA tB'):=by
 intro wh pins s σ H Q I h
 refine isTrue_and (thn (ha pins s σ H _ I h) fun c s1 ⟨H1,I1,q1⟩ => ?_)
 cases c with
 | true => exact hb wh pins s1 σ H1 Q I1 q1
 | false => exact ⟨H1,I1,q1⟩
theorem wK (ha : PT X a tA) (hb : PW X (.BoolOp .Or (b :: rest) pos) tB') : PW X (.BoolOp .Or (a :: b :: rest) pos) (tOr tA tB'):=by
 intro wh pins s σ H Q I h
 refine isTrue_or (thn (ha pins s σ H _ I h) fun c s1 ⟨H1,I1,q1⟩ => ?_)
 cases c with
 | true => exact ⟨H1,I1,q1⟩
 | false => exact hb wh pins s1 σ H1 Q I1 q1
theorem tJ (ha : PT X a tA) : PT X (.UnaryOp .Not a pos) (zt tA):=by
 intro pins s σ H Q I h
 exact isTrue_not (ha pins s σ H (fun c H1 => Q (!c) H1) I h)
def wL (ta tb : TE) : TE:=fun σ H Q => ta σ H fun x H1 => ∃ c,x = .bl c /\ if c = true then tb σ H1 Q else Q (.bl false) H1
def zu (ta tb : TE) : TE:=fun σ H Q => ta σ H fun x H1 => ∃ c,x = .bl c /\ if c = true then Q (.bl true) H1 else tb σ H1 Q
theorem tK {op} {t : TE} (h : PE X a t) : PE X (.BoolOp op [a] pos) t:=fun pins s σ H Q I hw => BoolOp_one (h pins s σ H Q I hw)
theorem tL (ha : PE X a ta) (hb : PE X (.BoolOp .And (b :: rest) pos) tb) : PE X (.BoolOp .And (a :: b :: rest) pos) (wL ta tb):=by
 intro pins s σ H Q I h
 refine BoolOp_and (thn (ha pins s σ H _ I h) fun v s1 ⟨x,H1,I1,r1,q1⟩ => ?_)
 obtain ⟨c,rfl,q1⟩:=q1
 cases r1
 refine wpAny_truthy_bool ?_
 cases c with
 | true => exact hb pins s1 σ H1 Q I1 q1
 | false => exact ⟨.bl false,H1,I1,rfl,q1⟩
theorem wM (ha : PE X a ta) (hb : PE X (.BoolOp .Or (b :: rest) pos) tb) : PE X (.BoolOp .Or (a :: b :: rest) pos) (zu ta tb):=by
 intro pins s σ H Q I h
 refine BoolOp_or (thn (ha pins s σ H _ I h) fun v s1 ⟨x,H1,I1,r1,q1⟩ => ?_)
 obtain ⟨c,rfl,q1⟩:=q1
 cases r1
 refine wpAny_truthy_bool ?_
 cases c with
 | false => exact hb pins s1 σ H1 Q I1 q1
 | true => exact ⟨.bl true,H1,I1,rfl,q1⟩
end
def SqL (K : PySem.W.Frag) (H : Hp) (a : Addr) (xs : List V) : Prop :=
 Rd H a (.lst xs) \/
  ∃ (o : Obj) (its : Array Value) (n : Nat),K.lookup a = some o /\ o.cls = .type "list" /\ o.dict = none /\ o.data = .seq its n /\ its.size <= sizeLine /\ Vals xs its.toList
def SqT (K : PySem.W.Frag) (H : Hp) (a : Addr) (xs : List V) : Prop :=
 Rd H a (.tup xs) \/
  ∃ (o : Obj) (its : Array Value) (n : Nat),K.lookup a = some o /\ o.cls = .type "tuple" /\ o.dict = none /\ o.data = .seq its n /\ its.size <= sizeLine /\ Vals xs its.toList
noncomputable def zv : Value -> Option V
 | .none => some .non
 | .bool b => some (.bl b)
 | .int i _ => some (.int i)
 | .str x _ => some (.str x)
 | .bytes b _ => some (.byt b)
 | .float b _ => some (.flt b)
 | .ref a => some (.ref a)
 | .type n => some (.ty n)
 | _ => none
theorem RelV.abs {x : V} {u : Value} (r : RelV x u) : zv u = some x:=by
 cases x with
 | non => cases r; rfl
 | bl _ => cases r; rfl
 | int _ => obtain ⟨t,rfl⟩:=r; rfl
 | str _ => obtain ⟨t,rfl⟩:=r; rfl
 | byt _ => obtain ⟨t,rfl⟩:=r; rfl
 | flt _ => obtain ⟨t,rfl⟩:=r; rfl
 | ref _ => cases r; rfl
 | ty _ => cases r; rfl
theorem RelV.inj {x y : V} {u : Value} (r : RelV x u) (q : RelV y u) : x = y:=Option.some.inj (r.abs.symm.trans q.abs)
theorem Vals.inj {xs ys : List V} {us : List Value} (h : Vals xs us) (h' : Vals ys us) : xs = ys:=by
 induction h generalizing ys with
 | nil => cases h'; rfl
 | cons r t ih =>
  cases h' with
  | cons r' t' => rw [r.inj r',ih t']
section
variable {X : Cx} {pins : List (Addr × Obj)} {σ : St} {H : Hp} {s : Shared} {a : Addr} {xs ys : List V}
theorem SqL.of {K : PySem.W.Frag} (h : H a = some (.lst xs)) : SqL K H a xs:=.inl (.inl h)
theorem SqT.of {K : PySem.W.Frag} (h : H a = some (.tup xs)) : SqT K H a xs:=.inl (.inl h)
theorem Inv.list (I : Inv X pins σ H s) (h : SqL X.K H a xs) : ∃ its : List Value,Vals xs its /\ PlainL s.heap a its.toArray /\ xs.length <= sizeLine:=by
 rcases h with h | ⟨o,its,n,hk,hc,hd,hs,hz,r⟩
 ·
  obtain ⟨z,its,n,r,e⟩:=h.ok I.hok
  exact ⟨its,r,⟨_,n,e,rfl,rfl,rfl⟩,z⟩
 ·
  refine ⟨its.toList,r,⟨o,n,I.kIn a o hk,hc,hd,by simpa using hs⟩,?_⟩
  have e:=r.length
  simp only [Array.length_toList] at e
  omega
theorem Inv.tuple (I : Inv X pins σ H s) (h : SqT X.K H a xs) : ∃ its : List Value,Vals xs its /\ IsTup s.heap a its.toArray /\ xs.length <= sizeLine:=by
 rcases h with h | ⟨o,its,n,hk,hc,_,hs,hz,r⟩
 ·
  obtain ⟨z,its,r,p⟩:=h.ok I.hok
  exact ⟨its,r,p.is,z⟩
 ·
  refine ⟨its.toList,r,⟨o,I.kIn a o hk,hc,n,by simpa using hs⟩,?_⟩
  have e:=r.length
  simp only [Array.length_toList] at e
  omega
theorem Inv.list_inj (I : Inv X pins σ H s) (h : SqL X.K H a xs) (h' : SqL X.K H a ys) : xs = ys:=by
 obtain ⟨its,r,⟨o,n,e,_,_,d⟩,_⟩:=I.list h
 obtain ⟨its',r',⟨o',n',e',_,_,d'⟩,_⟩:=I.list h'
 rw [e] at e'; cases e'
 rw [d] at d'
 injection d' with d1 _
 have : its = its':=by simpa using congrArg Array.toList d1
 subst this
 exact r.inj r'
theorem Inv.tuple_inj (I : Inv X pins σ H s) (h : SqT X.K H a xs) (h' : SqT X.K H a ys) : xs = ys:=by
 obtain ⟨its,r,⟨o,e,_,n,d⟩,_⟩:=I.tuple h
 obtain ⟨its',r',⟨o',e',_,n',d'⟩,_⟩:=I.tuple h'
 rw [e] at e'; cases e'
 rw [d] at d'
 injection d' with d1 _
 have : its = its':=by simpa using congrArg Array.toList d1
 subst this
 exact r.inj r'
end
noncomputable abbrev Cx.wish (X : Cx) (E : Value -> Shared -> Prop) : Cx:={ X with xe:=E }
noncomputable abbrev Cx.nox (X : Cx) : Cx:=X.wish fun _ _ => False
theorem Cx.Ok.wish {X : Cx} (ok : X.Ok) (E : Value -> Shared -> Prop) : (X.wish E).Ok :=
 ⟨ok.mod,ok.kind,ok.glob,ok.blt,ok.above,ok.inj,ok.has,ok.cab,ok.hd,ok.frames,ok.stk,ok.exf,ok.bs,ok.bsz,ok.noex,ok.exfs,ok.funs,ok.frf⟩
theorem Cx.Ok.unwish {X : Cx} {E : Value -> Shared -> Prop} (ok : (X.wish E).Ok) : X.Ok :=
 ⟨ok.mod,ok.kind,ok.glob,ok.blt,ok.above,ok.inj,ok.has,ok.cab,ok.hd,ok.frames,ok.stk,ok.exf,ok.bs,ok.bsz,ok.noex,ok.exfs,ok.funs,ok.frf⟩
section
variable {X : Cx} {pins : List (Addr × Obj)} {σ : St} {H : Hp} {s : Shared} {E : Value -> Shared -> Prop}
theorem Inv.wish (I : Inv X pins σ H s) (E : Value -> Shared -> Prop) : Inv (X.wish E) pins σ H s:=⟨I.ok.wish E,I.os,I.bare,I.base,I.loc,I.cell,I.free,I.freeC,I.pin,I.hok,I.len⟩
theorem Inv.unwish (I : Inv (X.wish E) pins σ H s) : Inv X pins σ H s:=⟨I.ok.unwish,I.os,I.bare,I.base,I.loc,I.cell,I.free,I.freeC,I.pin,I.hok,I.len⟩
theorem SP.unwish {D : Ends} {f : Flow} {s' : Shared} (h : SP (X.wish E) pins D f s') : SP X pins D f s':=by
 cases f with
 | next => obtain ⟨σ',H',I,q⟩:=h; exact ⟨σ',H',I.unwish,q⟩
 | brk => obtain ⟨σ',H',I,q⟩:=h; exact ⟨σ',H',I.unwish,q⟩
 | cont => obtain ⟨σ',H',I,q⟩:=h; exact ⟨σ',H',I.unwish,q⟩
 | ret u => obtain ⟨v,σ',H',I,r,q⟩:=h; exact ⟨v,σ',H',I.unwish,r,q⟩
theorem PE.nox {e : Expr} {t : TE} (h : PE X.nox e t) : PE X e t:=fun pins s σ H Q I hw =>
 wpAny_mono (h pins s σ H Q (I.wish _) hw) (fun _ _ ⟨v,H',I',r,q⟩ => ⟨v,H',I'.unwish,r,q⟩) fun _ _ z => False.elim z
theorem PT.nox {e : Expr} {t : TT} (h : PT X.nox e t) : PT X e t:=fun pins s σ H Q I hw =>
 wpAny_mono (h pins s σ H Q (I.wish _) hw) (fun _ _ ⟨H',I',q⟩ => ⟨H',I'.unwish,q⟩) fun _ _ z => False.elim z
theorem PSs.nox {st : List Stmt} {t : TS} (h : PSs X.nox st t) : PSs X st t:=fun pins s σ H D I hw =>
 wpAny_mono (h pins s σ H D (I.wish _) hw) (fun _ _ q => q.unwish) fun _ _ z => False.elim z
end
section
variable {X : Cx} {st : Stmt} {rest : List Stmt} {t u : TS} {e : Expr} {te : TE} {pos : Pos}
def wN : TS:=fun D σ H => D.nx σ H
def zw (t u : TS) : TS:=fun D σ H => t { D with nx:=u D } σ H
theorem pX : PSs X [] wN:=fun _ _ σ H _ I h => wpAny_execs_nil ⟨σ,H,I,h⟩
theorem iz (h1 : PS X st t) (h2 : PSs X rest u) : PSs X (st :: rest) (zw t u):=by
 intro pins s σ H D I h
 refine wpAny_execs_cons (thn (h1 pins s σ H { D with nx:=u D } I h) fun f s1 q => ?_)
 cases f with
 | next =>
  obtain ⟨σ',H',I',q⟩:=q
  exact h2 pins s1 σ' H' D I' q
 | ret v => exact q
 | brk => exact q
 | cont => exact q
theorem d3 (h1 : PS X st t) : PSs X [st] t:=by
 intro pins s σ H D I h
 refine wpAny_execs_cons (thn (h1 pins s σ H D I h) fun f s1 q => ?_)
 cases f with
 | next => exact wpAny_execs_nil q
 | ret v => exact q
 | brk => exact q
 | cont => exact q
theorem Inv.quiet {pins : List (Addr × Obj)} {σ : St} {H : Hp} {s : Shared} (I : Inv X pins σ H s) : interactive X.env = false:=by simp [interactive,I.ok.kind]
def wO (te : TE) : TS:=fun D σ H => te σ H fun _ H1 => D.nx σ H1
theorem pY (he : PE X e te) (hs : swapsWith e none pos.line X.env = pure false:=by rfl) : PS X (.Expr e pos) (wO te):=by
 intro pins s σ H D I h
 exact wpAny_Expr_any (thn (he pins s σ H _ I h) fun v s1 ⟨x,H1,I1,r1,q1⟩ => ⟨σ,H1,I1,q1⟩) I.quiet hs
def zx (te : TE) : TS:=fun D σ H => te σ H D.rt
theorem tM (he : PE X e te) : PS X (.Return (some e) pos) (zx te):=by
 intro pins s σ H D I h
 exact wpAny_Return_some (thn (he pins s σ H _ I h) fun v s1 ⟨x,H1,I1,r1,q1⟩ => ⟨x,σ,H1,I1,r1,q1⟩)
def zy (c : TT) (t u : TS) : TS:=fun D σ H => c σ H fun b H1 => if b = true then t D σ H1 else u D σ H1
theorem wQ {c : Expr} {a b : List Stmt} {tc : TT} (hc : PT X c tc) (ha : PSs X a t) (hb : PSs X b u) : PS X (.If c a b pos) (zy tc t u):=by
 intro pins s σ H D I h
 refine wpAny_If (thn (hc pins s σ H _ I h) fun d s1 ⟨H1,I1,q1⟩ => ?_)
 cases d with
 | true => exact ha pins s1 σ H1 D I1 q1
 | false => exact hb pins s1 σ H1 D I1 q1
end
abbrev TG:=V -> St -> Hp -> (St -> Hp -> Prop) -> Prop
abbrev TGs:=List V -> St -> Hp -> (St -> Hp -> Prop) -> Prop
def PG (X : Cx) (target : Expr) (t : TG) : Prop :=
 ∀ (pins : List (Addr × Obj)) (s : Shared) (σ : St) (H : Hp) (v : V) (u : Value) (Q : St -> Hp -> Prop),Inv X pins σ H s -> RelV v u -> t v σ H Q ->
  wpAny (model X.prog X.w) X.A (assign target X.env u) (fun _ s' => ∃ σ' H',Inv X pins σ' H' s' /\ Q σ' H') X.xe s
def PGs (X : Cx) (ts : List Expr) (t : TGs) : Prop :=
 ∀ (pins : List (Addr × Obj)) (s : Shared) (σ : St) (H : Hp) (vs : List V) (us : List Value) (Q : St -> Hp -> Prop),Inv X pins σ H s -> Vals vs us -> t vs σ H Q ->
  wpAny (model X.prog X.w) X.A (assignInOrder ((assignEach ts X.env).map (·.2)) us) (fun _ s' => ∃ σ' H',Inv X pins σ' H' s' /\ Q σ' H') X.xe s
abbrev ml:=V -> V -> V -> Hp -> (Hp -> Prop) -> Prop
def PSet (X : Cx) (t : ml) : Prop :=
 ∀ (pins : List (Addr × Obj)) (s : Shared) (σ : St) (H : Hp) (o i v : V) (ov iv u : Value) (Q : Hp -> Prop),Inv X pins σ H s -> RelV o ov -> RelV i iv -> RelV v u -> t o i v H Q ->
  wpAny (model X.prog X.w) X.A (setItem ov iv u) (fun _ s' => ∃ H',Inv X pins σ H' s' /\ Q H') X.xe s
section
variable {X : Cx} {pos : Pos}
def sj (i : Nat) : TG:=fun v σ H Q => Q (σ.set i (some v)) H
theorem pZ {i : Nat} {x : Str} (hN : X.N.Nodup) (hi : X.N[i]? = some x) (hx : Loc X.env.scope x) (hf : X.fn x = true \/ X.env.scope.names.lookup x = some .local:=by first | exact .inl rfl | exact .inr rfl | assumption) : PG X (.Name x pos) (sj i):=by
 intro pins s σ H v u Q I r h
 exact wpAny_assign_Name (iy I hN hi hx r (fun s' I' => ⟨_,H,I',h⟩) hf)
def zz : TGs:=fun vs σ H Q => vs = [] /\ Q σ H
def wR (t : TG) (u : TGs) : TGs:=fun vs σ H Q => ∃ v r,vs = v :: r /\ t v σ H fun σ' H' => u r σ' H' Q
theorem p0 : PGs X [] zz:=by
 intro pins s σ H vs us Q I r h
 obtain ⟨e,h⟩:=h
 subst e
 cases r
 exact assignInOrder_nil ⟨σ,H,I,h⟩
theorem mm {e : Expr} {es : List Expr} {t : TG} {u : TGs} (h1 : PG X e t) (h2 : PGs X es u)
  (hs : (assignEach (e :: es) X.env).map (·.2) = assign e X.env :: (assignEach es X.env).map (·.2):=by rfl) : PGs X (e :: es) (wR t u):=by
 intro pins s σ H vs us Q I r h
 obtain ⟨v,vr,e1,h⟩:=h
 subst e1
 cases r with
 | cons r rr =>
  rw [hs]
  refine assignInOrder_cons (thn (h1 pins s σ H _ _ _ I r h) fun _ s1 ⟨σ1,H1,I1,q1⟩ => ?_)
  exact h2 pins s1 σ1 H1 _ _ Q I1 rr q1
def zA (K : PySem.W.Frag) (n : Nat) (t : TGs) : TG:=fun v σ H Q => ∃ a xs,v = .ref a /\ SqT K H a xs /\ xs.length = n /\ t xs σ H Q
theorem tN {es : List Expr} {k : Nat} {t : TGs} {n : Nat} (hc : X.calm = true) (h : PGs X es t)
  (hn : (assignEach es X.env).length = n:=by rfl) (hst : (assignEach es X.env).findIdx? (·.1) = none:=by rfl) : PG X (.Tuple es k pos) (zA X.K n t):=by
 intro pins s σ H v u Q I r hw
 obtain ⟨a,xs,e1,hq,hl,hw⟩:=hw
 subst e1
 cases r
 obtain ⟨its,rv,ht,hz⟩:=I.tuple hq
 refine assign_Tuple_tuple (I.ok.hd hc) ht (by simp [hn,<- hl,rv.length]) hst fun h' hx => ?_
 have I1 : Inv X pins σ H { s with heap:=h' }:=I.kept (t':=s.toks) fun b o e => hx b o (Nat.ne_of_lt (Heap.lt_size e)) e
 exact h pins _ σ H xs _ Q I1 (by simpa using rv) hw
def zB (to ti : TE) (t : ml) : TG:=fun v σ H Q => to σ H fun o H1 => ti σ H1 fun i H2 => t o i v H2 fun H3 => Q σ H3
theorem tO {o i : Expr} {to ti : TE} {t : ml} (ho : PE X o to) (hi : PE X i ti) (hs : PSet X t)
  (ha : ∀ v,assign (.Subscript o i pos) X.env v = (do
   let ov <- holding [v] (eval o X.env)
   let iv <- holding [v,ov] (eval i X.env)
   standAt pos
   holding [v,ov,iv] (setItem ov iv v)
   release [v,ov,iv] []):=by intro _; rfl) : PG X (.Subscript o i pos) (zB to ti t):=by
 intro pins s σ H v u Q I r h
 rw [ha]
 refine wpAny_bind (wpAny_holding (thn (ho pins s σ H _ I h) fun ov s1 ⟨x,H1,I1,r1,q1⟩ => ?_))
 refine wpAny_bind (wpAny_holding (thn (hi pins s1 σ H1 _ I1 q1) fun iv s2 ⟨y,H2,I2,r2,q2⟩ => ?_))
 refine wpAny_bind (wpAny_standAt (wpAny_bind (wpAny_holding (thn (hs pins s2 σ H2 x y v ov iv u _ I2 r1 r2 r q2) fun _ s3 ⟨H3,I3,q3⟩ => ?_))))
 exact wpAny_release ⟨σ,H3,I3,q3⟩
def wU (te : TE) (g : TG) : TS:=fun D σ H => te σ H fun x H1 => g x σ H1 D.nx
theorem tP {tg e : Expr} {te : TE} {g : TG} (he : PE X e te) (hg : PG X tg g) (hs : swapsWithSole [tg] e pos.line X.env = pure false:=by rfl) (hw : swappedStores [tg] e X.env = pure none:=by rfl)
  (h1 : (assignEach [tg] X.env).map (·.2) = [assign tg X.env]:=by rfl) : PS X (.Assign [tg] e pos) (wU te g):=by
 intro pins s σ H D I h
 refine wpAny_Assign_stores (thn (he pins s σ H _ I h) fun v s1 ⟨x,H1,I1,r1,q1⟩ => ?_) hs hw
 rw [h1]
 exact thn (hg pins s1 σ H1 x v _ I1 r1 q1) fun _ s2 q => q
theorem tQ {i : Nat} {x : Str} {e : Expr} {te : TE} {pos' : Pos} (hN : X.N.Nodup) (hi : X.N[i]? = some x) (hx : Loc X.env.scope x) (he : PE X e te) (hs : swapsWith e (some (.Name x pos')) pos.line X.env = pure false:=by rfl) (hf : X.fn x = true \/ X.env.scope.names.lookup x = some .local:=by first | exact .inl rfl | exact .inr rfl | assumption) :
  PS X (.Assign [.Name x pos'] e pos) (wU te (sj i)):=by
 intro pins s σ H D I h
 refine wpAny_Assign_Name (thn (he pins s σ H _ I h) fun v s1 ⟨y,H1,I1,r1,q1⟩ => ?_) hs
 exact iy I1 hN hi hx r1 (fun s2 I2 => ⟨_,H1,I2,q1⟩) hf
end
section
variable {X : Cx} {pos : Pos}
def tR (c : TT) (tb : TS) : TS:=fun D σ H => ∃ W : Nat -> St -> Hp -> Prop,(∃ m,W m σ H) /\ ∀ m σ H,W m σ H ->
 c σ H fun b H1 => if b = true then ∃ N : St -> Hp -> Prop,(∀ σ' H',N σ' H' -> ∃ m',m' < m /\ W m' σ' H') /\ tb { D with nx:=N,ct:=N,bk:=D.nx } σ H1 else D.nx σ H1
theorem mn {c : Expr} {body : List Stmt} {tc : TT} {tb : TS} (hp : PassesOwn (model X.prog X.w) X.A X.env X.xe) (hc : PT X c tc) (hb : PSs X body tb) : PS X (.While c body [] pos) (tR tc tb):=by
 intro pins s σ H D I h
 obtain ⟨W,⟨m0,w0⟩,turn⟩:=h
 refine wpAny_While (codeAny_whileLoop (fun n s' => ∃ σ' H',Inv X pins σ' H' s' /\ W n σ' H') ?_ m0 ⟨σ,H,I,w0⟩)
 rintro n s1 ⟨σ1,H1,I1,w1⟩
 refine wpAny_passesOwn hp (thn (hc pins s1 σ1 H1 _ I1 (turn n σ1 H1 w1)) fun b s2 ⟨H2,I2,q2⟩ => ?_)
 cases b with
 | true =>
  obtain ⟨N,hN,q2⟩:=q2
  rw [if_pos rfl]
  refine wpAny_passesOwn hp (thn (hb pins s2 σ1 H2 _ I2 q2) fun f s3 q3 => ?_)
  cases f with
  | next =>
   obtain ⟨σ3,H3,I3,n3⟩:=q3
   obtain ⟨m',hm,w3⟩:=hN σ3 H3 n3
   exact ⟨m',hm,σ3,H3,I3,w3⟩
  | cont =>
   obtain ⟨σ3,H3,I3,n3⟩:=q3
   obtain ⟨m',hm,w3⟩:=hN σ3 H3 n3
   exact ⟨m',hm,σ3,H3,I3,w3⟩
  | brk => exact q3
  | ret v => exact q3
 | false =>
  rw [if_neg Bool.false_ne_true]
  exact wpAny_execs_nil ⟨σ1,H2,I2,q2⟩
end
structure It where
 go : Nat -> Hp -> Prop
 yld : Nat -> Hp -> V -> Hp -> Prop
 stop : Nat -> Hp -> Prop
def fj (X : Cx) (pins : List (Addr × Obj)) (H : Hp) (b : Addr) : Prop :=
 H b = none /\ b ≠ X.env.locals /\ b ∉ X.fs /\ (b ∈ X.ex \/ X.s₀.heap.objs.size <= b) /\ (∀ x c,X.env.cells.lookup x = some c -> c ≠ b) /\ ∀ p ∈ X.pn ++ pins,p.1 ≠ b
theorem Inv.fpOk {X : Cx} {pins : List (Addr × Obj)} {σ : St} {H H' : Hp} {s : Shared} {b : Addr} (I : Inv X pins σ H s) (hb : s.heap.objs.size <= b) (hn : H' b = none) : fj X pins H' b:=by
 refine ⟨hn,Nat.ne_of_gt (Nat.lt_of_lt_of_le I.lt hb),I.nofs hb,.inr (Nat.le_trans I.sz hb),fun x c e z => ?_,fun p hp z => ?_⟩
 ·
  obtain ⟨v,q⟩:=I.cell x c e
  exact absurd (Nat.lt_of_lt_of_le q.lt (by rw [z]; exact hb)) (Nat.lt_irrefl _)
 ·
  exact absurd (Nat.lt_of_lt_of_le (Heap.lt_size (I.pin p hp).1) (by rw [z]; exact hb)) (Nat.lt_irrefl _)
structure Turn (P : Program) (w : World) (K : PySem.W.Frag) (tg : Expr) (J : It) (fp : List Addr) (it : Addr) (tn : Nat -> Heap -> Prop) : Prop where
 mem : it ∈ fp
 obj : ∀ i h,tn i h -> ∀ b ∈ fp,∃ o,h.get? b = some o /\ ∀ v,o.data ≠ .cell v
 keep : ∀ i h h',tn i h -> (∀ b ∈ fp,∀ o,h.get? b = some o -> h'.get? b = some o) -> tn i h'
 item : ∀ (X : Cx),X.prog = P -> X.w = w -> X.K = K -> X.calm = true -> ∀ (i : Nat) (pins : List (Addr × Obj)) (s : Shared) (σ : St) (H : Hp) (E : Value -> Shared -> Prop),Inv X pins σ H s -> (∀ b ∈ fp,fj X pins H b) -> tn i s.heap -> J.go i H ->
  wpAny (model P w) X.A (pyNext (.ref it)) (fun r s1 => ∃ u,r = some u /\
   wpAny (model P w) X.A (letOwnedTupleGo tg (.ref it) u) (fun _ s2 => ∃ x H',Inv X pins σ H' s2 /\ RelV x u /\ J.yld i H x H' /\ tn (i + 1) s2.heap /\ ∀ b ∈ fp,H' b = none) E s1) E s
 done : ∀ (X : Cx),X.prog = P -> X.w = w -> X.K = K -> X.calm = true -> ∀ (i : Nat) (pins : List (Addr × Obj)) (s : Shared) (σ : St) (H : Hp) (E : Value -> Shared -> Prop),Inv X pins σ H s -> (∀ b ∈ fp,fj X pins H b) -> tn i s.heap -> J.stop i H ->
  wpAny (model P w) X.A (pyNext (.ref it)) (fun r s1 => r = none /\ Inv X pins σ H s1) E s
 self : ∀ (A : Around) (i : Nat) (s : Shared) (Q : Value -> Shared -> Prop) (E : Value -> Shared -> Prop),tn i s.heap -> Q (.ref it) s -> wpAny (model P w) A (pyIter (.ref it)) Q E s
abbrev TI:=St -> Hp -> (It -> Hp -> Prop) -> Prop
def PIE (X : Cx) (pins : List (Addr × Obj)) (σ : St) (tg : Expr) (R : It -> Hp -> Prop) (itv : Value) (s2 : Shared) : Prop :=
 ∃ (it : Addr) (fp : List Addr) (tn : Nat -> Heap -> Prop) (J : It) (H' : Hp),itv = .ref it /\ Inv X pins σ H' s2 /\ Turn X.prog X.w X.K tg J fp it tn /\ tn 0 s2.heap /\ (∀ b ∈ fp,fj X pins H' b) /\ R J H'
def PI (X : Cx) (tg iter : Expr) (wi : TI) : Prop :=
 ∀ (pins : List (Addr × Obj)) (s : Shared) (σ : St) (H : Hp) (R : It -> Hp -> Prop),Inv X pins σ H s -> wi σ H R ->
  wpAny (model X.prog X.w) X.A (eval iter X.env) (fun v s1 => wpAny (model X.prog X.w) X.A (pyIter v) (PIE X pins σ tg R) X.xe s1) X.xe s
theorem mq {M : Model} {A : Around} {E : Value -> Shared -> Prop} {s : Shared} {tg : Expr} {it : Addr} {u : Value} {o : Obj} {n : String} {vs : Array Value} {Q : Unit -> Shared -> Prop} (ho : s.heap.get? it = some o) (hc : o.cls = .type n) (hd : o.data = .fields vs)
  (hn : ["enumerate","zip","dict_itemiterator","dict_reverseitemiterator","odict_iterator","itertools.zip_longest","itertools.pairwise"].contains n = false) (hQ : Q () s) : wpAny M A (letOwnedTupleGo tg (.ref it) u) Q E s:=by
 unfold letOwnedTupleGo
 cases tg <;> first
  | exact wpAny_pure hQ
  | (cases u <;> first
    | exact wpAny_pure hQ
    | (refine wpAny_bind (wpAny_load ho ?_)
       rw [hc,hd]
       show wpAny M A (if (["enumerate","zip","dict_itemiterator","dict_reverseitemiterator","odict_iterator","itertools.zip_longest","itertools.pairwise"].contains n && vs[0]? == some (rawInt _)) = true then _ else _) Q E s
       rw [if_neg (by intro h; rw [hn,Bool.false_and] at h; cases h)]
       exact wpAny_pure hQ))
noncomputable def Itl (K : PySem.W.Frag) (a : Addr) : It :=
 ⟨fun i H => ∃ xs x,SqL K H a xs /\ xs[i]? = some x,fun i H x H' => H' = H /\ ∀ xs,SqL K H a xs -> xs[i]? = some x,fun i H => ∃ xs,SqL K H a xs /\ xs.length <= i⟩
noncomputable def Itt (K : PySem.W.Frag) (a : Addr) : It :=
 ⟨fun i H => ∃ xs x,SqT K H a xs /\ xs[i]? = some x,fun i H x H' => H' = H /\ ∀ xs,SqT K H a xs -> xs[i]? = some x,fun i H => ∃ xs,SqT K H a xs /\ xs.length <= i⟩
noncomputable def Itr (lo : Int) (n : Nat) : It:=⟨fun i _ => i < n,fun i H x H' => H' = H /\ x = .int (lo + i),fun i _ => n <= i⟩
theorem lw {P : Program} {w : World} {K : PySem.W.Frag} {tg : Expr} (a it : Addr) : Turn P w K tg (Itl K a) [it] it (fun i h => h.IsListIter it a i) where
 mem:=by simp
 obj:=fun i h st b hb => by
  have e : b = it:=by simpa using hb
  subst e
  obtain ⟨o,e,c,d⟩:=st
  exact ⟨o,e,fun v z => by rw [d] at z; cases z⟩
 keep:=fun i h h' st k => st.at fun o e => k it (by simp) o e
 item:=by
  intro X hP hw hK hc i pins s σ H E I hf st hg
  subst hP hw hK
  obtain ⟨xs,x,hq,hx⟩:=hg
  obtain ⟨its,rv,p,hz⟩:=I.list hq
  obtain ⟨u,hu,ru⟩:=rv.get hx
  obtain ⟨f0,f1,f2,f3,f4,f5⟩:=hf it (by simp)
  refine wpAny_pyNext_list_item st p.isList (x:=u) (by simpa using hu) fun h' st' sb => ?_
  have I1 : Inv X pins σ H { s with heap:=h' }:=I.turned (t':=s.toks) (fun b o hb e => (sb.2 b hb).trans e) f0 f1 f3 f4 f5
  obtain ⟨o,e,c,d⟩:=id st'
  exact ⟨u,rfl,mq (s:={ s with heap:=h' }) e c d (by decide) ⟨x,H,I1,ru,⟨rfl,fun ys hy => by rw [I.list_inj hy hq]; exact hx⟩,st',fun b hb => (hf b hb).1⟩⟩
 done:=by
  intro X hP hw hK hc i pins s σ H E I hf st hg
  subst hP hw hK
  obtain ⟨xs,hq,hx⟩:=hg
  obtain ⟨its,rv,p,hz⟩:=I.list hq
  obtain ⟨f0,f1,f2,f3,f4,f5⟩:=hf it (by simp)
  have hl:=rv.length
  exact wpAny_pyNext_list_end (I.ok.hd hc) st p.isList (by simp; omega) fun h' eb => ⟨rfl,I.turned (t':=s.toks) (fun b o hb e => eb b o hb e) f0 f1 f3 f4 f5⟩
 self:=fun _ _ _ _ _ st h => wpAny_pyIter_listiter st h
theorem jn {P : Program} {w : World} {K : PySem.W.Frag} {tg : Expr} (a it : Addr) : Turn P w K tg (Itt K a) [it] it (fun i h => h.IsTupleIter it a i) where
 mem:=by simp
 obj:=fun i h st b hb => by
  have e : b = it:=by simpa using hb
  subst e
  obtain ⟨o,e,c,d⟩:=st
  exact ⟨o,e,fun v z => by rw [d] at z; cases z⟩
 keep:=fun i h h' st k => st.at fun o e => k it (by simp) o e
 item:=by
  intro X hP hw hK hc i pins s σ H E I hf st hg
  subst hP hw hK
  obtain ⟨xs,x,hq,hx⟩:=hg
  obtain ⟨its,rv,p,hz⟩:=I.tuple hq
  obtain ⟨u,hu,ru⟩:=rv.get hx
  obtain ⟨f0,f1,f2,f3,f4,f5⟩:=hf it (by simp)
  refine wpAny_pyNext_tuple_item st (show s.heap.IsTuple a its.toArray from p) (x:=u) (by simpa using hu) fun h' st' sb => ?_
  have I1 : Inv X pins σ H { s with heap:=h' }:=I.turned (t':=s.toks) (fun b o hb e => (sb.2 b hb).trans e) f0 f1 f3 f4 f5
  obtain ⟨o,e,c,d⟩:=id st'
  exact ⟨u,rfl,mq (s:={ s with heap:=h' }) e c d (by decide) ⟨x,H,I1,ru,⟨rfl,fun ys hy => by rw [I.tuple_inj hy hq]; exact hx⟩,st',fun b hb => (hf b hb).1⟩⟩
 done:=by
  intro X hP hw hK hc i pins s σ H E I hf st hg
  subst hP hw hK
  obtain ⟨xs,hq,hx⟩:=hg
  obtain ⟨its,rv,p,hz⟩:=I.tuple hq
  obtain ⟨f0,f1,f2,f3,f4,f5⟩:=hf it (by simp)
  have hl:=rv.length
  exact wpAny_pyNext_tuple_end (I.ok.hd hc) st (show s.heap.IsTuple a its.toArray from p) (by simp; omega) fun h' eb => ⟨rfl,I.turned (t':=s.toks) (fun b o hb e => eb b o hb e) f0 f1 f3 f4 f5⟩
 self:=fun _ _ _ _ _ st h => wpAny_pyIter_tupleiter st h
theorem jo {P : Program} {w : World} {K : PySem.W.Frag} {tg : Expr} (it : Addr) (lo : Int) (n : Nat) : Turn P w K tg (Itr lo n) [it] it (fun i h => IsRangeIter h it (lo + (i : Nat) * 1) ((n : Int) - (i : Nat)) 1) where
 mem:=by simp
 obj:=fun i h st b hb => by
  have e : b = it:=by simpa using hb
  subst e
  exact ⟨_,st,fun v z => by
   have z' : Data.fields _ = Data.cell v:=z
   cases z'⟩
 keep:=fun i h h' st k => k it (by simp) _ st
 item:=by
  intro X hP hw hK hc i pins s σ H E I hf st hg
  subst hP hw hK
  obtain ⟨f0,f1,f2,f3,f4,f5⟩:=hf it (by simp)
  have W:=Walks.range (prog:=X.prog) (w:=X.w) (I.ok.hd hc) it lo 1 n
  refine W.item i s _ _ hg st fun v h' tk hv st' kk => ?_
  obtain ⟨t,rfl⟩:=hv
  have I1 : Inv X pins σ H { s with heap:=h',toks:=tk }:=I.turned (fun b o hb e => kk b o (by simpa using hb) e) f0 f1 f3 f4 f5
  refine ⟨_,rfl,mq (s:={ s with heap:=h',toks:=tk }) (n:="range_iterator") st' rfl rfl (by decide) ⟨.int (lo + i),H,I1,⟨t,?_⟩,⟨rfl,rfl⟩,st',fun b hb => (hf b hb).1⟩⟩
  rw [Int.mul_one]
 done:=by
  intro X hP hw hK hc i pins s σ H E I hf st hg
  subst hP hw hK
  obtain ⟨f0,f1,f2,f3,f4,f5⟩:=hf it (by simp)
  exact wpAny_pyNext_range_end (I.ok.hd hc) st (by have : n <= i:=hg; omega) fun h' eb => ⟨rfl,I.turned (t':=s.toks) (fun b o hb e => eb b o hb e) f0 f1 f3 f4 f5⟩
 self:=fun _ _ _ _ _ st h => wpAny_pyIter_rangeiter st h
section
variable {X : Cx} {tg : Expr}
def wV (K : PySem.W.Frag) (tl : TE) : TI:=fun σ H R => tl σ H fun x H1 => ∃ a,x = .ref a /\ (∃ xs,SqL K H1 a xs) /\ R (Itl K a) H1
def zC (K : PySem.W.Frag) (tl : TE) : TI:=fun σ H R => tl σ H fun x H1 => ∃ a,x = .ref a /\ (∃ xs,SqT K H1 a xs) /\ R (Itt K a) H1
theorem p7 {l : Expr} {tl : TE} (hl : PE X l tl) : PI X tg l (wV X.K tl):=by
 intro pins s σ H R I h
 refine thn (hl pins s σ H _ I h) fun v s1 ⟨x,H1,I1,r1,q1⟩ => ?_
 obtain ⟨a,e,⟨xs,hq⟩,q⟩:=q1
 subst e
 cases r1
 obtain ⟨its,rv,p,hz⟩:=I1.list hq
 refine wpAny_pyIter_list p.isList ?_
 refine ⟨s1.heap.objs.size,[s1.heap.objs.size],_,_,H1,rfl,I1.kept (t':=s1.toks) fun b o e => Heap.get?_push_of_some _ e,lw a _,⟨_,Heap.get?_push_size _ rfl,rfl,rfl⟩,fun b hb => ?_,q⟩
 have e : b = s1.heap.objs.size:=by simpa using hb
 subst e
 exact I1.fpOk (Nat.le_refl _) (I1.hok.fresh (Nat.le_refl _))
theorem tS {l : Expr} {tl : TE} (hl : PE X l tl) : PI X tg l (zC X.K tl):=by
 intro pins s σ H R I h
 refine thn (hl pins s σ H _ I h) fun v s1 ⟨x,H1,I1,r1,q1⟩ => ?_
 obtain ⟨a,e,⟨xs,hq⟩,q⟩:=q1
 subst e
 cases r1
 obtain ⟨its,rv,p,hz⟩:=I1.tuple hq
 refine wpAny_pyIter_tuple (show s1.heap.IsTuple a its.toArray from p) ?_
 refine ⟨s1.heap.objs.size,[s1.heap.objs.size],_,_,H1,rfl,I1.kept (t':=s1.toks) fun b o e => Heap.get?_push_of_some _ e,jn a _,⟨_,Heap.get?_push_size _ rfl,rfl,rfl⟩,fun b hb => ?_,q⟩
 have e : b = s1.heap.objs.size:=by simpa using hb
 subst e
 exact I1.fpOk (Nat.le_refl _) (I1.hok.fresh (Nat.le_refl _))
theorem mt {pins : List (Addr × Obj)} {σ : St} {H : Hp} {s : Shared} {R : It -> Hp -> Prop} {E : Value -> Shared -> Prop} {lo hi : Int} {t u v : Tok} {tk : Nat} (I : Inv X pins σ H s) (h1 : -(2 ^ 62) <= lo) (h2 : lo < 2 ^ 62) (h3 : -(2 ^ 62) <= hi) (h4 : hi < 2 ^ 62)
  (q : R (Itr lo (hi - lo).toNat) H) : wpAny (model X.prog X.w) X.A (pyIter (.ref s.heap.objs.size)) (PIE X pins σ tg R) E { s with heap:=s.heap.push { cls:=.type "range",data:=.fields #[.int lo t,.int hi u,.int 1 v] },toks:=tk }:=by
 refine wpAny_pyIter_range (IsRange.new ..) (small_one h1 h2 h3 h4) ?_
 have I1 : Inv X pins σ H { s with heap:=s.heap.push { cls:=.type "range",data:=.fields #[.int lo t,.int hi u,.int 1 v] },toks:=tk }:=I.kept fun b o e => Heap.get?_push_of_some _ e
 refine ⟨(s.heap.push { cls:=.type "range",data:=.fields #[.int lo t,.int hi u,.int 1 v] }).objs.size,[(s.heap.push { cls:=.type "range",data:=.fields #[.int lo t,.int hi u,.int 1 v] }).objs.size],_,_,H,rfl,
  I1.kept (t':=tk) fun b o e => Heap.get?_push_of_some _ e,jo _ lo (hi - lo).toNat,?_,fun b hb => ?_,q⟩
 ·
  have e1 : lo + ((0 : Nat) : Int) * 1 = lo:=by simp
  have e2 : (((hi - lo).toNat : Nat) : Int) - ((0 : Nat) : Int) = Builtin.Range.rangeSize lo hi 1:=by rw [rangeSize_one]; split <;> omega
  show IsRangeIter _ _ (lo + ((0 : Nat) : Int) * 1) ((((hi - lo).toNat : Nat) : Int) - ((0 : Nat) : Int)) 1
  rw [e1,e2]
  exact Heap.get?_push_size _ rfl
 ·
  have e : b = (s.heap.push { cls:=.type "range",data:=.fields #[.int lo t,.int hi u,.int 1 v] }).objs.size:=by simpa using hb
  subst e
  exact I1.fpOk (Nat.le_refl _) (I1.hok.fresh (Nat.le_refl _))
def wW (ta : TA) : TI:=fun σ H R => ta σ H fun vs H1 => ∃ j : Int,vs = [.int j] /\ -(2 ^ 62) <= j /\ j < 2 ^ 62 /\ R (Itr 0 j.toNat) H1
theorem lx {a : Expr} {ta : TA} {p pos : Pos} (hg : Gl X "range") (hm : X.mg "range" = none) (ha : PA X [a] ta) (hs : starEach [a] X.env = [(false,eval a X.env)]:=by rfl) : PI X tg (.Call (.Name "range" p) [a] [] pos) (wW ta):=by
 intro pins s σ H R I h
 refine Call_ (eC I hg hm boot_range (PyProof.Rows.callWith_type1 (thn (ha pos pins s σ H _ I h) fun us s1 ⟨vs,H1,I1,r1,q1⟩ => ?_) hs rfl))
 obtain ⟨j,e,q1,q2,q⟩:=q1
 subst e
 cases r1 with
 | cons r rr =>
  cases rr
  obtain ⟨t,rfl⟩:=r
  exact call_range_1 (mt I1 (by omega) (by omega) q1 q2 (by simpa using q))
def zD (wi : TI) (g : TG) (tb : TS) : TS:=fun D σ H => wi σ H fun J H1 => ∃ W : Nat -> Nat -> St -> Hp -> Prop,(∃ m,W 0 m σ H1) /\ ∀ i m σ H,W i m σ H ->
 (J.stop i H /\ D.nx σ H) \/ (J.go i H /\ ∃ N : St -> Hp -> Prop,(∀ σ' H',N σ' H' -> ∃ m',m' < m /\ W (i + 1) m' σ' H') /\ ∀ x H',J.yld i H x H' -> g x σ H' fun σ2 H2 => tb { D with nx:=N,ct:=N,bk:=D.nx } σ2 H2)
noncomputable def eD (fp : List Addr) (h : Heap) : List (Addr × Obj):=fp.filterMap fun b => (h.get? b).map fun o => (b,o)
theorem cy {fp : List Addr} {h : Heap} {b : Addr} {o : Obj} (hb : b ∈ fp) (e : h.get? b = some o) : (b,o) ∈ eD fp h:=List.mem_filterMap.mpr ⟨b,hb,by rw [e]; rfl⟩
theorem ly {fp : List Addr} {h : Heap} {p : Addr × Obj} (hp : p ∈ eD fp h) : p.1 ∈ fp /\ h.get? p.1 = some p.2:=by
 obtain ⟨b,hb,e⟩:=List.mem_filterMap.mp hp
 cases q : h.get? b with
 | none => rw [q] at e; cases e
 | some o =>
  rw [q] at e
  have e' : (b,o) = p:=Option.some.inj e
  subst e'
  exact ⟨hb,q⟩
theorem Inv.pinned {pins : List (Addr × Obj)} {σ : St} {H : Hp} {s : Shared} {fp : List Addr} (I : Inv X pins σ H s) (hf : ∀ b ∈ fp,fj X pins H b) (ho : ∀ b ∈ fp,∃ o,s.heap.get? b = some o /\ ∀ v,o.data ≠ .cell v) : Inv X (pins ++ eD fp s.heap) σ H s :=
 I.pins_of fun p hp => (List.mem_append.mp hp).elim (fun z => I.pin p (List.mem_append_right _ z)) fun z => by
  obtain ⟨hb,e⟩:=ly z
  obtain ⟨f0,f1,f2,_⟩:=hf p.1 hb
  obtain ⟨o,e',d⟩:=ho p.1 hb
  rw [e] at e'; cases e'
  exact ⟨e,f0,f1,f2,d⟩
theorem Inv.unpinned {pins pl : List (Addr × Obj)} {σ : St} {H : Hp} {s : Shared} (I : Inv X (pins ++ pl) σ H s) : Inv X pins σ H s:=I.pins_of fun p hp => I.pin p (List.mem_append_right _ (List.mem_append_left _ hp))
theorem tT {iter : Expr} {body : List Stmt} {wi : TI} {g : TG} {tb : TS} {pos : Pos} (hp : PassesOwn (model X.prog X.w) X.A X.env X.xe) (hc : X.calm = true) (hi : PI X tg iter wi) (hg : PG X tg g) (hb : PSs X body tb)
  (hs : ∀ x,foldedSetIterable iter X.env x = pure x:=by intro _; rfl) : PS X (.For tg iter body [] pos) (zD wi g tb):=by
 intro pins s σ H D I h
 refine wpAny_For (thn (hi pins s σ H _ I h) fun v s1 h1 => thn h1 fun itv s2 h2 => ?_) hs
 obtain ⟨it,fp,tn,J,H2,e,I2,T,st2,f2,W,⟨m0,w0⟩,turn⟩:=h2
 subst e
 -- what stays true of the iterator's objects through the loop
 have stat : ∀ {H' : Hp},(∀ b ∈ fp,H' b = none) -> ∀ b ∈ fp,fj X pins H' b:=fun hn b hb => ⟨hn b hb,(f2 b hb).2⟩
 refine codeAny_forLoop_any (fun n s' => ∃ i σ' H',Inv X pins σ' H' s' /\ tn i s'.heap /\ (∀ b ∈ fp,H' b = none) /\ W i n σ' H') ?_ m0 ⟨0,σ,H2,I2,st2,fun b hb => (f2 b hb).1,w0⟩
 rintro n s3 ⟨i,σ3,H3,I3,st3,fr3,w3⟩
 rcases turn i n σ3 H3 w3 with ⟨stop,qn⟩ | ⟨go,N,hN,step⟩
 ·
  refine wpAny_passesOwn hp (thn (T.done X rfl rfl rfl hc i pins s3 σ3 H3 X.xe I3 (stat fr3) st3 stop) fun r s4 ⟨hr,I4⟩ => ?_)
  subst hr
  exact wpAny_execs_nil ⟨σ3,H3,I4,qn⟩
 ·
  refine wpAny_passesOwn hp (thn (T.item X rfl rfl rfl hc i pins s3 σ3 H3 X.xe I3 (stat fr3) st3 go) fun r s4 ⟨u,hr,h4⟩ => ?_)
  subst hr
  refine wpAny_passesOwn hp (thn h4 fun _ s5 ⟨x,H5,I5,r5,y5,st5,fr5⟩ => ?_)
  have I5':=I5.pinned (stat fr5) (T.obj _ _ st5)
  refine wpAny_passesOwn hp (thn (hg _ s5 σ3 H5 x u _ I5' r5 (step x H5 y5)) fun _ s6 ⟨σ6,H6,I6,q6⟩ => ?_)
  refine wpAny_passesOwn hp (thn (hb _ s6 σ6 H6 _ I6 q6) fun f s7 q7 => ?_)
  have again : ∀ {σ7 : St} {H7 : Hp},Inv X (pins ++ eD fp s5.heap) σ7 H7 s7 -> N σ7 H7 -> ∃ m,m < n /\ ∃ i σ' H',Inv X pins σ' H' s7 /\ tn i s7.heap /\ (∀ b ∈ fp,H' b = none) /\ W i m σ' H':=fun {σ7 H7} I7 n7 => by
   obtain ⟨m',hm,w7⟩:=hN σ7 H7 n7
   refine ⟨m',hm,i + 1,σ7,H7,I7.unpinned,T.keep _ _ _ st5 fun b hb o e => (I7.pin (b,o) (List.mem_append_right _ (List.mem_append_right _ (cy hb e)))).1,fun b hb => ?_,w7⟩
   obtain ⟨o,e,d⟩:=T.obj _ _ st5 b hb
   exact (I7.pin (b,o) (List.mem_append_right _ (List.mem_append_right _ (cy hb e)))).2.1
  cases f with
  | next => obtain ⟨σ7,H7,I7,n7⟩:=q7; exact again I7 n7
  | cont => obtain ⟨σ7,H7,I7,n7⟩:=q7; exact again I7 n7
  | brk => obtain ⟨σ7,H7,I7,q7⟩:=q7; exact ⟨σ7,H7,I7.unpinned,q7⟩
  | ret v => obtain ⟨x7,σ7,H7,I7,r7,q7⟩:=q7; exact ⟨x7,σ7,H7,I7.unpinned,r7,q7⟩
end
abbrev R2:=V -> V -> Hp -> VK -> Prop
def OpR (X : Cx) (f : Value -> Value -> Sem Value) (r : R2) : Prop :=
 ∀ (pins : List (Addr × Obj)) (s : Shared) (σ : St) (H : Hp) (x y : V) (v u : Value) (Q : VK),Inv X pins σ H s -> RelV x v -> RelV y u -> r x y H Q ->
  wpAny (model X.prog X.w) X.A (f v u) (EP X pins σ Q) X.xe s
def CallR (X : Cx) (f : Value) (r : List V -> Hp -> VK -> Prop) : Prop :=
 ∀ (pins : List (Addr × Obj)) (s : Shared) (σ : St) (H : Hp) (xs : List V) (us : List Value) (Q : VK),Inv X pins σ H s -> Vals xs us -> r xs H Q ->
  wpAny (model X.prog X.w) X.A (call f us) (EP X pins σ Q) X.xe s
def tOp (r : R2) (ta tb : TE) : TE:=fun σ H Q => ta σ H fun x H1 => tb σ H1 fun y H2 => r x y H2 Q
def rI (C : Int -> Int -> Prop) (g : Int -> Int -> V) : R2:=fun x y H Q => ∃ i j,x = .int i /\ y = .int j /\ C i j /\ Q (g i j) H
def rI0 (g : Int -> Int -> V) : R2:=fun x y H Q => ∃ i j,x = .int i /\ y = .int j /\ Q (g i j) H
section
variable {X : Cx} {a b c : Expr} {ta tb tc : TE} {pos : Pos}
theorem tU (ha : PE X a ta) (hb : PE X b tb) {pins : List (Addr × Obj)} {s : Shared} {σ : St} {H : Hp} {R : V -> V -> Hp -> Prop} (I : Inv X pins σ H s)
  (h : ta σ H fun x H1 => tb σ H1 fun y H2 => R x y H2) {Q : Value -> Shared -> Prop} {f : Value -> Value -> Sem Value}
  (hf : ∀ v u s2 x y H2,Inv X pins σ H2 s2 -> RelV x v -> RelV y u -> R x y H2 -> wpAny (model X.prog X.w) X.A (f v u) Q X.xe s2) :
  wpAny (model X.prog X.w) X.A (eval a X.env) (fun v s₁ => wpAny (model X.prog X.w) X.A (eval b X.env) (fun u s₂ => wpAny (model X.prog X.w) X.A (f v u) Q X.xe s₂) X.xe s₁) X.xe s:=by
 refine thn (ha pins s σ H _ I h) fun v s1 ⟨x,H1,I1,r1,q1⟩ => ?_
 refine thn (hb pins s1 σ H1 _ I1 q1) fun u s2 ⟨y,H2,I2,r2,q2⟩ => ?_
 exact hf v u s2 x y H2 I2 r1 r2 q2
theorem wX {op : Operator} {r : R2} (ho : OpR X (binaryOp op) r) (ha : PE X a ta) (hb : PE X b tb) : PE X (.BinOp a op b pos) (tOp r ta tb):=by
 intro pins s σ H Q I h
 exact wpAny_BinOp (tU ha hb I h fun v u s2 x y H2 I2 rx ry q => ho pins s2 σ H2 x y v u Q I2 rx ry q)
theorem opI {f : Value -> Value -> Sem Value} {C : Int -> Int -> Prop} {g : Int -> Int -> Int}
  (rule : ∀ (i j : Int) (t u : Tok) (s : Shared) (Q : Value -> Shared -> Prop) (E : Value -> Shared -> Prop),C i j -> Q (.int (g i j) s.toks) { s with toks:=s.toks + 1 } -> wpAny (model X.prog X.w) X.A (f (.int i t) (.int j u)) Q E s) :
  OpR X f (rI C fun i j => .int (g i j)):=by
 intro pins s σ H x y v u Q I rx ry h
 obtain ⟨i,j,rfl,rfl,hc,q⟩:=h
 obtain ⟨t,rfl⟩:=rx
 obtain ⟨t',rfl⟩:=ry
 exact rule i j t t' s _ _ hc ⟨.int (g i j),H,I.tok _,⟨_,rfl⟩,q⟩
theorem wY {f : Value -> Value -> Sem Value} {g : Int -> Int -> Int}
  (rule : ∀ (i j : Int) (t u : Tok) (s : Shared) (Q : Value -> Shared -> Prop) (E : Value -> Shared -> Prop),Q (.int (g i j) s.toks) { s with toks:=s.toks + 1 } -> wpAny (model X.prog X.w) X.A (f (.int i t) (.int j u)) Q E s) :
  OpR X f (rI0 fun i j => .int (g i j)):=by
 intro pins s σ H x y v u Q I rx ry h
 obtain ⟨i,j,rfl,rfl,q⟩:=h
 obtain ⟨t,rfl⟩:=rx
 obtain ⟨t',rfl⟩:=ry
 exact rule i j t t' s _ _ ⟨.int (g i j),H,I.tok _,⟨_,rfl⟩,q⟩
theorem wZ {f : Value -> Value -> Sem Value} {g : Int -> Int -> Bool}
  (rule : ∀ (i j : Int) (t u : Tok) (s : Shared) (Q : Value -> Shared -> Prop) (E : Value -> Shared -> Prop),Q (.bool (g i j)) s -> wpAny (model X.prog X.w) X.A (f (.int i t) (.int j u)) Q E s) :
  OpR X f (rI0 fun i j => .bl (g i j)):=by
 intro pins s σ H x y v u Q I rx ry h
 obtain ⟨i,j,rfl,rfl,q⟩:=h
 obtain ⟨t,rfl⟩:=rx
 obtain ⟨t',rfl⟩:=ry
 exact rule i j t t' s _ _ ⟨.bl (g i j),H,I,rfl,q⟩
def jp (i j : Int) : Prop:=0 <= j /\ j <= 1000000 /\ i.natAbs < 2 ^ 64
def CMul (i j : Int) : Prop:=(-(2 ^ 64) < i /\ i < 2 ^ 64) \/ (-(2 ^ 64) < j /\ j < 2 ^ 64)
theorem CMul.ok {i j : Int} (h : CMul i j) : IntMulOk i j:=by
 rcases h with ⟨h1,h2⟩ | ⟨h1,h2⟩
 ·
  exact .of_left (intBits_le_64 h1 h2)
 ·
  exact .of_right (intBits_le_64 h1 h2)
theorem op_add : OpR X (binaryOp .Add) (rI0 fun i j => .int (i + j)):=wY fun _ _ _ _ _ _ _ q => add_int q
theorem tV : OpR X (binaryOp .Sub) (rI0 fun i j => .int (i - j)):=wY fun _ _ _ _ _ _ _ q => sub_int q
theorem tW : OpR X (binaryOp .Mult) (rI CMul fun i j => .int (i * j)):=opI fun _ _ _ _ _ _ _ hc q => mul_int q hc.ok
theorem tX : OpR X (binaryOp .Mod) (rI (fun _ j => 0 < j) fun i j => .int (i % j)):=opI fun i j _ _ _ _ _ hc q => by
 have h1 : (0 : Int) < j:=hc
 exact mod_int' (by omega) (by rw [Int.fmod_eq_emod_of_nonneg i (by omega)]; exact q)
theorem tY : OpR X (binaryOp .Pow) (rI jp fun i j => .int (i ^ j.toNat)):=opI fun _ _ _ _ _ _ _ hc q => pow_int_small hc.1 hc.2.1 hc.2.2 q
theorem tZ : OpR X (binaryOp .LShift) (rI jp fun i j => .int (i * 2 ^ j.toNat)):=opI fun _ _ _ _ _ _ _ hc q => lshift_int_small hc.1 hc.2.1 hc.2.2 q
end
noncomputable def cZ : V -> V -> Bool
 | .non,.non => true | .non,.int _ => true | .int _,.non => true | .non,.bl _ => true | .bl _,.non => true | .non,.str _ => true | .str _,.non => true
 | .int _,.int _ => true | .bl _,.bl _ => true | .str _,.str _ => true | .byt _,.byt _ => true
 | .int _,.str _ => true | .str _,.int _ => true | .bl _,.str _ => true | .str _,.bl _ => true
 | _,_ => false
def rEq : R2:=fun x y H Q => cZ x y = true /\ Q (.bl (decide (x = y))) H
def rNe : R2:=fun x y H Q => cZ x y = true /\ Q (.bl (!decide (x = y))) H
theorem kj {i j : Int} : decide (V.int i = V.int j) = (i == j):=by
 rw [Bool.eq_iff_iff]
 simp
theorem mv {i j : Bool} : decide (V.bl i = V.bl j) = (i == j):=by
 rw [Bool.eq_iff_iff]
 simp
theorem km {i j : Str} : decide (V.str i = V.str j) = (i == j):=by
 rw [Bool.eq_iff_iff]
 simp
theorem kn {i j : Array UInt8} : decide (V.byt i = V.byt j) = (i.toList == j.toList):=by
 rw [Bool.eq_iff_iff]
 cases i
 cases j
 simp
section
variable {X : Cx} {a b c : Expr} {ta tb tc : TE} {pos : Pos}
theorem aE {pins : List (Addr × Obj)} {σ : St} {H : Hp} {s : Shared} {Q : VK} {k k' : Bool} (I : Inv X pins σ H s) (q : Q (.bl k) H) (e : k = k') : EP X pins σ Q (.bool k') s:=by
 subst e
 exact ⟨.bl k,H,I,rfl,q⟩
theorem xa : OpR X (compareOp .Eq) rEq:=by
 intro pins s σ H x y v u Q I rx ry h
 obtain ⟨hs,q⟩:=h
 cases x with
 | non =>
  cases rx
  cases y with
  | non => cases ry; exact PySem.EqNone.eq_none_none (aE I q (by simp))
  | bl j => cases ry; exact PySem.EqNone.eq_none_bool (aE I q (by simp))
  | int j => obtain ⟨t',rfl⟩:=ry; exact PySem.EqNone.eq_none_int (aE I q (by simp))
  | str j => obtain ⟨t',rfl⟩:=ry; exact PySem.EqNone.eq_none_str (aE I q (by simp))
  | _ => exact absurd (show false = true from hs) Bool.false_ne_true
 | bl i =>
  cases rx
  cases y with
  | non => cases ry; exact PySem.EqNone.eq_bool_none (aE I q (by simp))
  | bl j => cases ry; exact eq_bool (aE I q mv)
  | str j => obtain ⟨t',rfl⟩:=ry; exact PySem.EqMixed.eq_bool_str (aE I q (by simp))
  | _ => exact absurd (show false = true from hs) Bool.false_ne_true
 | int i =>
  obtain ⟨t,rfl⟩:=rx
  cases y with
  | non => cases ry; exact PySem.EqNone.eq_int_none (aE I q (by simp))
  | int j => obtain ⟨t',rfl⟩:=ry; exact eq_int (aE I q kj)
  | str j => obtain ⟨t',rfl⟩:=ry; exact PySem.EqMixed.eq_int_str (aE I q (by simp))
  | _ => exact absurd (show false = true from hs) Bool.false_ne_true
 | str i =>
  obtain ⟨t,rfl⟩:=rx
  cases y with
  | non => cases ry; exact PySem.EqNone.eq_str_none (aE I q (by simp))
  | bl j => cases ry; exact PySem.EqMixed.eq_str_bool (aE I q (by simp))
  | int j => obtain ⟨t',rfl⟩:=ry; exact PySem.EqMixed.eq_str_int (aE I q (by simp))
  | str j => obtain ⟨t',rfl⟩:=ry; exact eq_str (aE I q km)
  | _ => exact absurd (show false = true from hs) Bool.false_ne_true
 | byt i =>
  obtain ⟨t,rfl⟩:=rx
  cases y with
  | byt j => obtain ⟨t',rfl⟩:=ry; exact PySem.W.eq_bytes (aE I q kn)
  | _ => exact absurd (show false = true from hs) Bool.false_ne_true
 | _ => cases y <;> exact absurd (show false = true from hs) Bool.false_ne_true
theorem xb : OpR X (compareOp .NotEq) rNe:=by
 intro pins s σ H x y v u Q I rx ry h
 obtain ⟨hs,q⟩:=h
 cases x with
 | non =>
  cases rx
  cases y with
  | non => cases ry; exact PySem.EqNone.ne_none_none (aE I q (by simp))
  | bl j => cases ry; exact PySem.EqNone.ne_none_bool (aE I q (by simp))
  | int j => obtain ⟨t',rfl⟩:=ry; exact PySem.EqNone.ne_none_int (aE I q (by simp))
  | str j => obtain ⟨t',rfl⟩:=ry; exact PySem.EqNone.ne_none_str (aE I q (by simp))
  | _ => exact absurd (show false = true from hs) Bool.false_ne_true
 | bl i =>
  cases rx
  cases y with
  | non => cases ry; exact PySem.EqNone.ne_bool_none (aE I q (by simp))
  | bl j => cases ry; exact ne_bool (aE I q (congrArg not mv))
  | str j => obtain ⟨t',rfl⟩:=ry; exact PySem.EqMixed.ne_bool_str (aE I q (by simp))
  | _ => exact absurd (show false = true from hs) Bool.false_ne_true
 | int i =>
  obtain ⟨t,rfl⟩:=rx
  cases y with
  | non => cases ry; exact PySem.EqNone.ne_int_none (aE I q (by simp))
  | int j => obtain ⟨t',rfl⟩:=ry; exact ne_int (aE I q (congrArg not kj))
  | str j => obtain ⟨t',rfl⟩:=ry; exact PySem.EqMixed.ne_int_str (aE I q (by simp))
  | _ => exact absurd (show false = true from hs) Bool.false_ne_true
 | str i =>
  obtain ⟨t,rfl⟩:=rx
  cases y with
  | non => cases ry; exact PySem.EqNone.ne_str_none (aE I q (by simp))
  | bl j => cases ry; exact PySem.EqMixed.ne_str_bool (aE I q (by simp))
  | int j => obtain ⟨t',rfl⟩:=ry; exact PySem.EqMixed.ne_str_int (aE I q (by simp))
  | str j => obtain ⟨t',rfl⟩:=ry; exact ne_str (aE I q (congrArg not km))
  | _ => exact absurd (show false = true from hs) Bool.false_ne_true
 | byt i =>
  obtain ⟨t,rfl⟩:=rx
  cases y with
  | byt j => obtain ⟨t',rfl⟩:=ry; exact PySem.W.ne_bytes (aE I q (congrArg not kn))
  | _ => exact absurd (show false = true from hs) Bool.false_ne_true
 | _ => cases y <;> exact absurd (show false = true from hs) Bool.false_ne_true
theorem xc : OpR X (compareOp .Lt) (rI0 fun i j => .bl (decide (i < j))):=wZ fun _ _ _ _ _ _ _ q => lt_int q
theorem xf : OpR X (compareOp .Gt) (rI0 fun i j => .bl (decide (j < i))):=wZ fun _ _ _ _ _ _ _ q => gt_int q
theorem lz : OpR X (compareOp .In) (fun x y H Q => ∃ i j,x = .str i /\ y = .str j /\ Q (.bl (!(Builtin.Str.occurrences j i 0 j.length 1).isEmpty)) H):=by
 intro pins s σ H x y v u Q I rx ry h
 obtain ⟨i,j,rfl,rfl,q⟩:=h
 obtain ⟨t,rfl⟩:=rx
 obtain ⟨t',rfl⟩:=ry
 exact in_str (aE I q rfl)
theorem gv : OpR X (compareOp .NotIn) (fun x y H Q => ∃ i j,x = .str i /\ y = .str j /\ Q (.bl (!(!(Builtin.Str.occurrences j i 0 j.length 1).isEmpty))) H):=by
 intro pins s σ H x y v u Q I rx ry h
 obtain ⟨i,j,rfl,rfl,q⟩:=h
 obtain ⟨t,rfl⟩:=rx
 obtain ⟨t',rfl⟩:=ry
 exact notIn_str (aE I q rfl)
theorem OpR.or {f : Value -> Value -> Sem Value} {r r' : R2} (h : OpR X f r) (h' : OpR X f r') : OpR X f (fun x y H Q => r x y H Q \/ r' x y H Q):=by
 intro pins s σ H x y v u Q I rx ry q
 rcases q with q | q
 ·
  exact h pins s σ H x y v u Q I rx ry q
 ·
  exact h' pins s σ H x y v u Q I rx ry q
theorem mw (b : Expr) {op : CmpOp} (h : op ≠ .In:=by decide) (h2 : op ≠ .NotIn:=by decide) : behindInMarks op b = false:=by
 have e1 : (op == CmpOp.In) = false:=by cases op <;> first | rfl | exact absurd rfl h
 have e2 : (op == CmpOp.NotIn) = false:=by cases op <;> first | rfl | exact absurd rfl h2
 cases b <;> simp [behindInMarks,e1,e2]
theorem p9 {op : CmpOp} {r : R2} (ho : OpR X (compareOp op) r) (ha : PE X a ta) (hb : PE X b tb) (hm : behindInMarks op b = false) : PE X (.Compare a [op] [b] pos) (tOp r ta tb):=by
 intro pins s σ H Q I h
 exact wpAny_Compare1 (tU ha hb I h fun v u s2 x y H2 I2 rx ry q => ho pins s2 σ H2 x y v u Q I2 rx ry q) hm
def xg (t : TE) : TT:=fun σ H Q => t σ H fun x H' => ∃ k,x = .bl k /\ Q k H'
theorem qa {op : CmpOp} {r : R2} (ho : OpR X (compareOp op) r) (ha : PE X a ta) (hb : PE X b tb) (hm : behindInMarks op b = false) : PT X (.Compare a [op] [b] pos) (xg (tOp r ta tb)):=by
 intro pins s σ H Q I h
 refine wpAny_isTrue_Compare1 (thn (ha pins s σ H _ I h) fun v s1 ⟨x,H1,I1,r1,q1⟩ => thn (hb pins s1 σ H1 _ I1 q1) fun u s2 ⟨y,H2,I2,r2,q2⟩ =>
  thn (ho pins s2 σ H2 x y v u _ I2 r1 r2 q2) fun c s3 ⟨z,H3,I3,r3,k,e,q3⟩ => ?_) hm
 subst e
 cases r3
 exact wpAny_truthy_bool ⟨H3,I3,q3⟩
theorem c4 : (sizeLine : Nat) < 2 ^ 63:=by rw [sizeLine_eq]; decide
theorem op_add_str : OpR X (binaryOp .Add) (fun x y H Q => ∃ i j,x = .str i /\ y = .str j /\ i.length + j.length <= sizeLine /\ Q (.str (i ++ j)) H):=by
 intro pins s σ H x y v u Q I rx ry h
 obtain ⟨i,j,rfl,rfl,hz,q⟩:=h
 obtain ⟨t,rfl⟩:=rx
 obtain ⟨t',rfl⟩:=ry
 exact add_str (fun t' tk => ⟨.str (i ++ j),H,I.tok _,⟨_,rfl⟩,q⟩) hz
theorem vals1 {x : V} {us : List Value} (r : Vals [x] us) : ∃ u,us = [u] /\ RelV x u:=by
 cases r with
 | cons r1 r2 => cases r2; exact ⟨_,rfl,r1⟩
theorem vals2 {x y : V} {us : List Value} (r : Vals [x,y] us) : ∃ u w',us = [u,w'] /\ RelV x u /\ RelV y w':=by
 cases r with
 | cons r1 r2 =>
  cases r2 with
  | cons r3 r4 => cases r4; exact ⟨_,_,rfl,r1,r3⟩
theorem lA : CallR X (.type "int") (fun xs H Q => (∃ i,xs = [.int i] /\ Q (.int i) H) \/ ∃ k,xs = [.bl k] /\ Q (.int (if k then 1 else 0)) H):=by
 intro pins s σ H xs us Q I r h
 rcases h with ⟨i,rfl,q⟩ | ⟨k,rfl,q⟩
 ·
  obtain ⟨u,rfl,t,rfl⟩:=vals1 r
  exact call_int_int ⟨.int i,H,I,⟨_,rfl⟩,q⟩
 ·
  obtain ⟨u,rfl,r1⟩:=vals1 r
  cases r1
  exact call_int_bool ⟨.int (if k then 1 else 0),H,I.tok _,⟨_,rfl⟩,q⟩
end
theorem dy {h : Heap} {dx : Addr} {mA : Str -> Option Value} (n : h.Ns1 dx mA) : ∃ od,h.get? dx = some od /\ ∀ name,PySem.W.lookIn name od = some (mA name):=by
 obtain ⟨o,es,ep,ho,hd,hk,_,hm⟩:=n
 refine ⟨o,ho,fun name => ?_⟩
 have e:=hm name
 unfold nsFind findBy at e
 rw [<- Array.find?_toList] at e
 unfold PySem.W.lookIn
 rw [hd]
 dsimp only
 split
 ·
  rename_i y q
  rw [q] at e
  exact congrArg some e
 ·
  rename_i q
  rw [q] at e
  have a : es.toList.any (·.refKey) = false:=by
   rw [List.any_eq_false]
   intro y hy
   obtain ⟨z,t,hkey⟩:=hk y (Array.mem_toList_iff.mp hy)
   simp [DictEntry.refKey,hkey]
  have a' : ¬ es.toList.any (·.refKey) = true:=by rw [a]; exact Bool.false_ne_true
  rw [if_neg a']
  exact congrArg some e
section
variable {prog : Program} {w : World} {A : Around} {E : Value -> Shared -> Prop} {s : Shared} {K : PySem.W.Frag} {x dx C f : Addr} {mA : Str -> Option Value} {name : Str} {v : Value}
end
noncomputable def cU (f : Str) (v : V) : List (Str × V) -> List (Str × V)
 | [] => [(f,v)]
 | (g,x) :: r => if g = f then (g,v) :: r else (g,x) :: cU f v r
theorem dL (f g : Str) (v : V) : ∀ fs : List (Str × V),(cU f v fs).lookup g = if g = f then some v else fs.lookup g
 | [] => by
  show List.lookup g [(f,v)] = _
  by_cases h : g = f
  ·
   have hb : (g == f) = true:=beq_iff_eq.mpr h
   simp only [List.lookup,hb,if_pos h]
  ·
   have hb : (g == f) = false:=beq_eq_false_iff_ne.mpr h
   simp only [List.lookup,hb,if_neg h]
 | (k,x) :: r => by
  have ih:=dL f g v r
  rw [show cU f v ((k,x) :: r) = (if k = f then (k,v) :: r else (k,x) :: cU f v r) from rfl]
  by_cases hk : k = f
  ·
   rw [if_pos hk]
   by_cases h : g = k
   ·
    have hb : (g == k) = true:=beq_iff_eq.mpr h
    simp only [List.lookup,hb,if_pos (h.trans hk)]
   ·
    have hb : (g == k) = false:=beq_eq_false_iff_ne.mpr h
    simp only [List.lookup,hb,if_neg (fun e : g = f => h (e.trans hk.symm))]
  ·
   rw [if_neg hk]
   by_cases h : g = k
   ·
    have hb : (g == k) = true:=beq_iff_eq.mpr h
    simp only [List.lookup,hb,if_neg (fun e : g = f => hk (h.symm.trans e))]
   ·
    have hb : (g == k) = false:=beq_eq_false_iff_ne.mpr h
    simp only [List.lookup,hb]
    exact ih
theorem dz (f : Str) (v : V) : ∀ fs : List (Str × V),f ∈ (cU f v fs).map (·.1) /\ ∀ g,g ∈ fs.map (·.1) -> g ∈ (cU f v fs).map (·.1)
 | [] => ⟨by simp [cU],fun g h => by simp at h⟩
 | (k,x) :: r => by
  obtain ⟨i1,i2⟩:=dz f v r
  rw [show cU f v ((k,x) :: r) = (if k = f then (k,v) :: r else (k,x) :: cU f v r) from rfl]
  by_cases hk : k = f
  ·
   rw [if_pos hk]
   subst hk
   exact ⟨by simp,fun g h => by simpa using h⟩
  ·
   rw [if_neg hk]
   refine ⟨?_,fun g h => ?_⟩
   ·
    rw [List.map_cons]
    exact List.mem_cons_of_mem _ i1
   ·
    rw [List.map_cons] at h ⊢
    rcases List.mem_cons.mp h with e | e
    ·
     exact List.mem_cons.mpr (.inl e)
    ·
     exact List.mem_cons_of_mem _ (i2 g e)
theorem RelO.some_of {v : V} {o : Option Value} (r : RelO (some v) o) : ∃ u,o = some u /\ RelV v u:=by
 cases o with
 | none => exact (show False from r).elim
 | some u => exact ⟨u,rfl,r⟩
theorem RelO.none_of {o : Option Value} (r : RelO none o) : o = none:=by
 cases o with
 | none => rfl
 | some u => exact (show False from r).elim
theorem lB {v : V} {u : Value} (r : RelV v u) : PySem.W.handedIn u = true:=by
 cases v with
 | non => cases (show u = Value.none from r); rfl
 | bl b => cases (show u = Value.bool b from r); rfl
 | int i => obtain ⟨t,e⟩:=(show ∃ t,u = Value.int i t from r); cases e; rfl
 | str x => obtain ⟨t,e⟩:=(show ∃ t,u = Value.str x t from r); cases e; rfl
 | byt b => obtain ⟨t,e⟩:=(show ∃ t,u = Value.bytes b t from r); cases e; rfl
 | flt b => obtain ⟨t,e⟩:=(show ∃ t,u = Value.float b t from r); cases e; rfl
 | ref a => cases (show u = Value.ref a from r); rfl
 | ty n => cases (show u = Value.type n from r); rfl
section
variable {P : Program} {w : World} {H H' : Hp} {h h' : Heap} {a C dx : Addr} {fs fs' : List (Str × V)}
end
section
variable {X : Cx} {pins : List (Addr × Obj)} {σ : St} {H : Hp} {s : Shared} {a C dx : Addr} {fs : List (Str × V)} {f : Str} {v : V} {A : Around} {E : Value -> Shared -> Prop}
theorem Inv.made (I : Inv X pins σ H s) : Inv X pins σ (upd (upd H s.heap.objs.size (.own (s.heap.objs.size + 1))) (s.heap.objs.size + 1) (.ins C s.heap.objs.size []))
  { s with heap:=(s.heap.push PySem.W.emptyDict).push (PySem.W.instObj C s.heap.objs.size) }:=by
 have e1 : (s.heap.push PySem.W.emptyDict).get? s.heap.objs.size = some PySem.W.emptyDict:=Heap.get?_push_size s.heap rfl
 have e2 : ((s.heap.push PySem.W.emptyDict).push (PySem.W.instObj C s.heap.objs.size)).get? (s.heap.objs.size + 1) = some (PySem.W.instObj C s.heap.objs.size):=by
  have:=Heap.get?_push_size (s.heap.push PySem.W.emptyDict) (o:=PySem.W.instObj C s.heap.objs.size) rfl
  rwa [Heap.size_push] at this
 have e3 : (s.heap.push PySem.W.emptyDict).Ns s.heap.objs.size (fun _ => none):=⟨PySem.W.emptyDict,#[],_,e1,rfl,(fun e he => absurd he (by simp)),fun _ => rfl⟩
 have I1:=I.laid (a:=s.heap.objs.size) (o:=.own (s.heap.objs.size + 1)) (h':=s.heap.push PySem.W.emptyDict) (t':=s.toks) (fun b u q => Heap.get?_push_of_some _ q) (Nat.le_refl _) ⟨_,e1⟩
 refine I1.laid (a:=s.heap.objs.size + 1) (o:=.ins C s.heap.objs.size []) (t':=s.toks) (fun b u q => Heap.get?_push_of_some _ q) (Nat.le_of_eq (Heap.size_push _ _)) ?_
 have ne : s.heap.objs.size ≠ s.heap.objs.size + 1:=Nat.ne_of_lt (Nat.lt_succ_self _)
 refine ⟨by rw [aq ne,aC],Nat.zero_le _,ne,e2,fun _ => none,(Heap.Ns1.of_empty e3).at fun o q => Heap.get?_push_of_some _ q,fun _ => True.intro,fun y hy => absurd rfl hy⟩
theorem qb {prog : Program} {w : World} {env : Env} {e : Expr} {f : Str} {pos : Pos} {s : Shared} {Q : Value -> Shared -> Prop} (hb : attributeBase e f env (eval e env) = eval e env)
  (h : wpAny (model prog w) A (eval e env) (fun o s₁ => wpAny (model prog w) A (getAttr o f true) Q E s₁) E s) : wpAny (model prog w) A (eval (.Attribute e f pos) env) Q E s :=
 Attribute_any_ h (by rw [arm_eval_Attribute,hb])
end
section
variable {X : Cx} {o e value : Expr} {f : Str} {pos pos' tpos : Pos} {ta tv : TE}
end
section
variable {X : Cx} {pins : List (Addr × Obj)} {σ : St} {H : Hp} {s : Shared} {A : Around} {E : Value -> Shared -> Prop} {Q : Value -> Shared -> Prop} {c : Value} {b : Bool}
end
structure Room (k : Nat) (A : Around) : Prop where
 hd : A.handled = none
 dp : A.depth + 3 * k + 5 < recursionLimit
 un : A.units + 16 * k + 200 < cLine
 gd : A.guards = some []
theorem Room.mono {j k : Nat} {A : Around} (r : Room k A) (h : j <= k) : Room j A:=⟨r.hd,by have:=r.dp; omega,by have:=r.un; omega,r.gd⟩
theorem Room.deeper {k : Nat} {A : Around} (r : Room (k + 1) A) (env : Env) : Room k (A.deeper env) :=
 ⟨r.hd,by have:=r.dp; show A.depth + 1 + 3 * k + 5 < _; omega,by have:=r.un; show A.units + 3 + 16 * k + 200 < _; omega,r.gd⟩
theorem Room.in1 {k : Nat} {A : Around} (r : Room (k + 1) A) : Room k A.in1 :=
 ⟨r.hd,by have:=r.dp; show A.depth + 3 * k + 5 < _; omega,by have:=r.un; show A.units + 1 + 16 * k + 200 < _; omega,r.gd⟩
theorem jq {A : Around} {C : Addr} {us : List Value} {kw : List (Str × Value)} : (A.under (.builtin "type.__call__" ⟨.ref C :: us,kw⟩)).depth = A.depth + 1:=by
 first | rfl | simp [Around.under,Code.weight,Code.isCreation,Code.isGuard,Code.isCaller,Code.frames,Code.isFrame,guardIds]
theorem jr {A : Around} {C : Addr} {us : List Value} {kw : List (Str × Value)} : (A.under (.builtin "type.__call__" ⟨.ref C :: us,kw⟩)).units = A.units + 1:=by
 first | rfl | simp [Around.under,Code.cUnits,Code.frames,Code.isFrame]
theorem Room.make {k : Nat} {A : Around} (r : Room (k + 1) A) (C : Addr) (us : List Value) (kw : List (Str × Value)) : Room k (A.under (.builtin "type.__call__" ⟨.ref C :: us,kw⟩)) :=
 ⟨r.hd,by have:=r.dp; rw [jq]; omega,by have:=r.un; rw [jr]; omega,by first | exact r.gd | (simp [Around.under,Code.guards,Code.isGuard,guardIds,pushGuards,r.gd])⟩
theorem Room.depth {k : Nat} {A : Around} (r : Room k A) : A.depth < recursionLimit:=by have:=r.dp; omega
theorem Room.units {k : Nat} {A : Around} (r : Room k A) : A.units + 64 < cLine:=by have:=r.un; omega
def zE : TA:=fun _ H Q => Q [] H
def xh (ta : TE) (tr : TA) : TA:=fun σ H Q => ta σ H fun x H1 => tr σ H1 fun xs H2 => Q (x :: xs) H2
section
variable {X : Cx} {e : Expr} {es : List Expr} {te : TE} {t : TA} {pos : Pos}
theorem t0 : PA X [] zE:=fun _ _ _ _ H Q I h => Calls.spliced_nil ⟨[],H,I,.nil,h⟩
theorem qc (ha : PE X e te) (hr : PA X es t) (hs : starEach (e :: es) X.env = (false,eval e X.env) :: starEach es X.env:=by rfl) : PA X (e :: es) (xh te t):=by
 intro pos pins s σ H Q I h
 rw [hs]
 show wpAny _ _ (spliced ((false,eval e X.env) :: backTo pos (starEach es X.env))) _ _ s
 refine Calls.spliced_cons (thn (ha pins s σ H _ I h) fun u s1 ⟨x,H1,I1,r1,q1⟩ => ?_)
 exact thn (hr pos pins s1 σ H1 _ I1 q1) fun us s2 ⟨xs,H2,I2,r2,q2⟩ => ⟨x :: xs,H2,I2,.cons r1 r2,q2⟩
def zF (t : TA) : TE:=fun σ H Q => t σ H fun xs H1 => xs.length <= sizeLine /\ ∀ p,H1 p = none -> Q (.ref p) (upd H1 p (.tup xs))
def zG (t : TA) : TE:=fun σ H Q => t σ H fun xs H1 => xs.length <= sizeLine /\ ∀ p,H1 p = none -> Q (.ref p) (upd H1 p (.lst xs))
theorem js {x1} (h : PA X es t) : PE X (.Tuple es x1 pos) (zF t):=by
 intro pins s σ H Q I hq
 refine wpAny_Tuple_spliced (thn (h pos pins s σ H _ I hq) fun us s1 ⟨xs,H1,I1,r,z,q⟩ => ⟨by rw [<- r.length]; exact z,?_⟩)
 have hf : H1 s1.heap.objs.size = none:=I1.hok.fresh (Nat.le_refl _)
 refine ⟨.ref s1.heap.objs.size,upd H1 s1.heap.objs.size (.tup xs),I1.laid (t':=s1.toks) (fun b u e => Heap.get?_push_of_some _ e) (Nat.le_refl _) ?_,rfl,q _ hf⟩
 exact ⟨z,us,r,⟨_,Heap.get?_push_size _ rfl,rfl,_,rfl,rfl⟩⟩
theorem t2 (h : PA X es t) : PE X (.List es pos) (zG t):=by
 intro pins s σ H Q I hq
 refine wpAny_List_spliced (thn (h pos pins s σ H _ I hq) fun us s1 ⟨xs,H1,I1,r,z,q⟩ => ⟨by rw [<- r.length]; exact z,?_⟩)
 have hf : H1 s1.heap.objs.size = none:=I1.hok.fresh (Nat.le_refl _)
 refine ⟨.ref s1.heap.objs.size,upd H1 s1.heap.objs.size (.lst xs),I1.laid (t':=s1.toks) (fun b u e => Heap.get?_push_of_some _ e) (Nat.le_refl _) ?_,rfl,q _ hf⟩
 exact ⟨z,us,0,r,Heap.get?_push_size _ rfl⟩
end
abbrev Sp:=List V -> Hp -> VK -> XK -> Prop
abbrev CXT:=List Env -> Hp -> Shared -> XK -> Value -> Shared -> Prop
structure Env0 (P : Program) (w : World) (K : PySem.W.Frag) (mg : Str -> Option Value) (base : Heap) (A : Around) (outer : List Env) (s : Shared) (H : Hp) : Prop where
 frames : A.frames = some outer
 mod : Mod K mg base
 bs : ∀ b o,base.get? b = some o -> s.heap.get? b = some o /\ H b = none
 bsz : base.objs.size <= s.heap.objs.size
 funs : s.heap.FunFrames base outer
 frf : ∀ b ∈ frs outer,H b = none
 hok : HOk P w H s.heap
 bare : AllBare s.gens
def CE (outer : List Env) (P : Program) (w : World) (H : Hp) (s : Shared) (Q : VK) (u : Value) (s' : Shared) : Prop :=
 ∃ v H',s'.os = s.os /\ AllBare s'.gens /\ Un (frs outer) [] H H' s.heap s'.heap /\ HOk P w H' s'.heap /\ RelV v u /\ Q v H'
def CR (CX : CXT) (outer : List Env) (P : Program) (w : World) (H : Hp) (s : Shared) (Q : VK) (E : XK) (r : Result) (s' : Shared) : Prop :=
 match r with
 | .ok (.ret u) => CE outer P w H s Q u s'
 | .ok _ => False
 | .error e => CX outer H s E e s'
structure FnOk (P : Program) (w : World) (K : PySem.W.Frag) (mg : Str -> Option Value) (base : Heap) (CX : CXT) (k : Nat) (f : Addr) (fd : FuncData) (ps : List Str) (sp : Sp) : Prop where
 len : ∀ vs H Q E,sp vs H Q E -> vs.length = ps.length
 run : ∀ (A : Around) (outer : List Env) (s : Shared) (H : Hp) (args : Args) (us : List Value) (vs : List V) (Q : VK) (E : XK),Room k A -> Env0 P w K mg base A outer s H -> BindsTo s fd args (ps.zip us) -> Vals vs us -> sp vs H Q E ->
  codeAny (model P w) A (.call (.ref f) args) (CR CX outer P w H s Q E) s
theorem FnOk.mono {P : Program} {w : World} {K : PySem.W.Frag} {mg : Str -> Option Value} {base : Heap} {CX : CXT} {j k : Nat} {f : Addr} {fd : FuncData} {ps : List Str} {sp : Sp} (F : FnOk P w K mg base CX j f fd ps sp) (h : j <= k) :
  FnOk P w K mg base CX k f fd ps sp:=⟨F.len,fun A outer s H args us vs Q E hr => F.run A outer s H args us vs Q E (hr.mono h)⟩
theorem FnOk.imp {P : Program} {w : World} {K : PySem.W.Frag} {mg : Str -> Option Value} {base : Heap} {CX : CXT} {k : Nat} {f : Addr} {fd : FuncData} {ps : List Str} {sp sp' : Sp} (F : FnOk P w K mg base CX k f fd ps sp)
  (h : ∀ vs H Q E,sp' vs H Q E -> sp vs H Q E) : FnOk P w K mg base CX k f fd ps sp' :=
 ⟨fun vs H Q E q => F.len vs H Q E (h _ _ _ _ q),fun A outer s H args us vs Q E hr he hb hv hs => F.run A outer s H args us vs Q E hr he hb hv (h _ _ _ _ hs)⟩
theorem Env0.make {P : Program} {w : World} {K : PySem.W.Frag} {mg : Str -> Option Value} {base : Heap} {A : Around} {outer : List Env} {s : Shared} {H : Hp} (e : Env0 P w K mg base A outer s H) (C : Addr) (us : List Value) (kw : List (Str × Value)) :
  Env0 P w K mg base (A.under (.builtin "type.__call__" ⟨.ref C :: us,kw⟩)) outer s H:=⟨by first | exact e.frames | (simpa [Around.under,Code.envs,Code.isFrame,pushEnvs] using e.frames),e.mod,e.bs,e.bsz,e.funs,e.frf,e.hok,e.bare⟩
theorem Env0.in1 {P : Program} {w : World} {K : PySem.W.Frag} {mg : Str -> Option Value} {base : Heap} {A : Around} {outer : List Env} {s : Shared} {H : Hp} (e : Env0 P w K mg base A outer s H) :
  Env0 P w K mg base A.in1 outer s H:=⟨e.frames,e.mod,e.bs,e.bsz,e.funs,e.frf,e.hok,e.bare⟩
section
variable {X : Cx} {pins : List (Addr × Obj)} {σ : St} {H : Hp} {s s' : Shared}
theorem Inv.env0 (I : Inv X pins σ H s) : Env0 X.prog X.w X.K X.mg X.base X.A X.stack s H :=
 ⟨I.ok.frames,I.ok.mod,I.bs,Nat.le_trans I.ok.bsz I.sz,I.stack,I.stkFree,I.hok,I.bare⟩
theorem Inv.after {Q : VK} {u : Value} (I : Inv X pins σ H s) (h : CE X.stack X.prog X.w H s Q u s') : EP X pins σ Q u s':=by
 obtain ⟨v,H',os,bare,un,hok,r,q⟩:=h
 obtain ⟨hh,g,d,t,os'⟩:=s'
 obtain rfl : os' = s.os:=os
 exact ⟨v,H',I.call (h':=hh) (g':=g) (d':=d) (t':=t) (ch:=[]) un hok bare (fun b z => absurd z (by simp)),r,q⟩
end
def xi (sp : Sp) (dvs : List V) (E : XK) (t : TA) : TE:=fun σ H Q => t σ H fun vs H1 => sp (vs ++ dvs) H1 Q E
def Binds (K : PySem.W.Frag) (fd : FuncData) (ps : List Str) (ds : List Value) : Prop :=
 ∀ (s : Shared) (us : List Value),K.In s.heap -> (us ++ ds).length = ps.length -> BindsTo s fd ⟨us,[]⟩ (ps.zip (us ++ ds))
theorem Binds.all {K : PySem.W.Frag} {fd : FuncData} {ps : List Str} (h : ∀ us : List Value,us.length = ps.length -> bindArgs fd ⟨us,[]⟩ = pure (ps.zip us)) : Binds K fd ps []:=fun s us _ hl => by
 rw [List.append_nil] at hl ⊢
 exact .of_eq (h us hl)
def jt (CX : CXT) (X : Cx) (E : XK) : Prop:=∀ (pins : List (Addr × Obj)) (σ : St) (H : Hp) (s : Shared) (e : Value) (s' : Shared),Inv X pins σ H s -> CX X.stack H s E e s' -> X.xe e s'
section
variable {X : Cx} {CX : CXT} {k : Nat} {f C : Addr} {fd : FuncData} {ps : List Str} {sp : Sp} {dvs : List V} {ds : List Value} {E : XK} {x m : Str} {p pos apos : Pos} {e o : Expr} {es : List Expr} {ta : TE} {t : TA}
theorem t4 {pins : List (Addr × Obj)} {σ : St} {H : Hp} {s : Shared} {Q : VK} {us : List Value} {vs : List V} (F : FnOk X.prog X.w X.K X.mg X.base CX k f fd ps sp) (hr : Room k X.A) (hb : Binds X.K fd ps ds) (hd : Vals dvs ds) (hx : jt CX X E)
  (I : Inv X pins σ H s) (r : Vals vs us) (h : sp (vs ++ dvs) H Q E) : wpAny (model X.prog X.w) X.A (call (.ref f) us) (EP X pins σ Q) X.xe s:=by
 have r2 : Vals (vs ++ dvs) (us ++ ds):=r.append hd
 have hl : (us ++ ds).length = ps.length:=by rw [<- r2.length]; exact F.len _ _ _ _ h
 refine wpAny_call (codeAny_mono (F.run X.A X.stack s H ⟨us,[]⟩ (us ++ ds) (vs ++ dvs) Q E hr I.env0 (hb s us I.kIn hl) r2 h) fun r s' hq => ?_)
 cases r with
 | error e => exact hx pins σ H s e s' I hq
 | ok fl =>
  cases fl with
  | ret u => exact I.after hq
  | next => exact False.elim hq
  | brk => exact False.elim hq
  | cont => exact False.elim hq
theorem qd (F : FnOk X.prog X.w X.K X.mg X.base CX k f fd ps sp) (hr : Room k X.A) (hg : Gl X x) (hm : X.mg x = some (.ref f)) (hk : PySem.W.keepIn X.K (.ref f) = true) (hb : Binds X.K fd ps ds) (hd : Vals dvs ds) (hx : jt CX X E)
  (ha : PA X (e :: es) t) (hdb : (x == ("__debug__" : Str)) = false:=by decide) (he : starEach (e :: es) X.env = (false,eval e X.env) :: starEach es X.env:=by rfl) (hpl : (backTo pos (starEach es X.env)).any (·.1) = false:=by rfl) :
  PE X (.Call (.Name x p) (e :: es) [] pos) (xi sp dvs E t):=by
 intro pins s σ H Q I h
 refine wpAny_Call_Name_kw (cR I hg hm ?_ hdb)
 refine PySem.W.callWith_K (h₀:=X.base) I.ok.mod.kin hk (thn (ha pos pins s σ H _ I h) fun us s1 ⟨vs,H1,I1,r,q⟩ => ⟨I1.kIn,?_⟩) he hpl
 exact t4 F hr hb hd hx I1 r q
end
section
variable {X : Cx} {CX : CXT} {k : Nat} {f C : Addr} {fd : FuncData} {ps ks : List Str} {sp : Sp} {E : XK} {x m : Str} {p pos apos kpos : Pos} {e o : Expr} {es : List Expr} {kws : List Keyword} {te ta : TE} {t tk : TA} {nm : Option Str}
variable {g : List Value -> List Value -> List Value} {gV : List V -> List V -> List V}
end
structure FnScope (N P : List Str) (sc : Scope) : Prop where
 kind : sc.kind = .function
 co : sc.isCoroutine = false
 gen : sc.isGenerator = false
 nd : N.Nodup
 pre : N.take P.length = P
 par : ∀ x ∈ P,sc.names.lookup x = some .local \/ sc.names.lookup x = some .cell
 nofree : ∀ y ∈ sc.names,y.2 ≠ .free
theorem fA {kindOf : Str -> Option NameKind} {x : Str} : ∀ {binds : List (Str × Value)} {m : Str -> Option Value},(∀ v,(x,v) ∉ binds) -> bindL kindOf binds m x = m x
 | [],_,_ => rfl
 | (n,v) :: r,m,h => by
  unfold bindL
  rw [fA fun w hw => h w (List.mem_cons_of_mem _ hw)]
  split
  ·
   have : x ≠ n:=by rintro rfl; exact h v List.mem_cons_self
   simp [this]
  ·
   rfl
theorem fB {kindOf : Str -> Option NameKind} {x : Str} : ∀ {binds : List (Str × Value)} {m : Str -> Option Value},(∀ v,(x,v) ∉ binds) -> bindC kindOf binds m x = m x
 | [],_,_ => rfl
 | (n,v) :: r,m,h => by
  unfold bindC
  rw [fB fun w hw => h w (List.mem_cons_of_mem _ hw)]
  split
  ·
   rfl
  ·
   have : x ≠ n:=by rintro rfl; exact h v List.mem_cons_self
   simp [this]
theorem fC {kindOf : Str -> Option NameKind} {x : Str} {v : Value} : ∀ {P : List Str} {vs : List Value} {i : Nat} {m : Str -> Option Value},P.Nodup -> P[i]? = some x -> vs[i]? = some v -> kindOf x = some .local ->
  bindL kindOf (P.zip vs) m x = some v
 | [],_,_,_,_,h,_,_ => by simp at h
 | _ :: _,[],_,_,_,_,h,_ => by simp at h
 | p :: P,w :: vs,0,m,nd,h1,h2,hk => by
  simp at h1 h2; subst h1; subst h2
  show bindL kindOf ((p,w) :: P.zip vs) m p = _
  unfold bindL
  rw [fA fun v hv => (List.nodup_cons.mp nd).1 (List.of_mem_zip hv).1,if_pos hk]
  simp
 | p :: P,w :: vs,i + 1,m,nd,h1,h2,hk => by
  show bindL kindOf ((p,w) :: P.zip vs) m x = _
  unfold bindL
  exact fC (i:=i) (List.nodup_cons.mp nd).2 (by simpa using h1) (by simpa using h2) hk
theorem fD {kindOf : Str -> Option NameKind} {x : Str} {v : Value} : ∀ {P : List Str} {vs : List Value} {i : Nat} {m : Str -> Option Value},P.Nodup -> P[i]? = some x -> vs[i]? = some v -> kindOf x ≠ some .local ->
  bindC kindOf (P.zip vs) m x = some v
 | [],_,_,_,_,h,_,_ => by simp at h
 | _ :: _,[],_,_,_,_,h,_ => by simp at h
 | p :: P,w :: vs,0,m,nd,h1,h2,hk => by
  simp at h1 h2; subst h1; subst h2
  show bindC kindOf ((p,w) :: P.zip vs) m p = _
  unfold bindC
  rw [fB fun v hv => (List.nodup_cons.mp nd).1 (List.of_mem_zip hv).1,if_neg hk]
  simp
 | p :: P,w :: vs,i + 1,m,nd,h1,h2,hk => by
  show bindC kindOf ((p,w) :: P.zip vs) m x = _
  unfold bindC
  exact fD (i:=i) (List.nodup_cons.mp nd).2 (by simpa using h1) (by simpa using h2) hk
noncomputable def start (N : List Str) (vs : List V) : St:=vs.map some ++ List.replicate (N.length - vs.length) none
noncomputable def eE (CX : CXT) (P : Program) (w : World) (K : PySem.W.Frag) (mg : Str -> Option Value) (base : Heap) (N : List Str) (qual : Str) (scope : Scope) (f : Addr) (cd : Value) (A : Around) (outer : List Env) (s : Shared) (H : Hp) (E : XK) : Cx where
 prog:=P
 w:=w
 K:=K
 mg:=mg
 base:=base
 A:=A.deeper (envOfC qual scope s.heap.objs.size f cd)
 N:=N
 s₀:=s
 H₀:=H
 env:=envOfC qual scope s.heap.objs.size f cd
 outer:=outer
 stack:=envOfC qual scope s.heap.objs.size f cd :: outer
 ex:=[]
 calm:=true
 fn:=fun _ => true
 pn:=[]
 xe:=fun e s' => wpAny (model P w) (A.deeper (envOfC qual scope s.heap.objs.size f cd)) (leaving (envOfC qual scope s.heap.objs.size f cd) e) (fun _ s'' => CX outer H s E e s'') (fun e' s'' => CX outer H s E e' s'') s'
theorem da {sc : Scope} {n : Nat} {x : Str} (h : sc.names.lookup x = some .cell) : ∃ c,(cellsFrom n sc.names []).lookup x = some c:=by
 have q:=PySem.W.cellsFrom_some sc.names n [] (.inl h)
 exact Option.isSome_iff_exists.mp q
theorem lC {CX : CXT} {P : Program} {w : World} {K : PySem.W.Frag} {mg : Str -> Option Value} {base : Heap} {N ps : List Str} {qual : Str} {scope : Scope} {f : Addr} {cd : Value} {A : Around} {outer : List Env} {s s1 : Shared} {H : Hp} {E : XK} {us : List Value} {vs : List V}
  (S : FnScope N ps scope) (hd : A.handled = none) (e0 : Env0 P w K mg base A outer s H) (hl : vs.length = ps.length) (r : Vals vs us)
  (x : InCallC s s.heap.objs.size (bindL (envOfC qual scope s.heap.objs.size f cd).kindOf (ps.zip us) fun _ => none) (cellsFrom (s.heap.objs.size + 1) scope.names []) (bindC (envOfC qual scope s.heap.objs.size f cd).kindOf (ps.zip us) fun _ => none) s1) :
  Inv (eE CX P w K mg base N qual scope f cd A outer s H E) [] (start N vs) H s1:=by
 have hpl : ps.length <= N.length:=by have:=congrArg List.length S.pre; rw [List.length_take] at this; omega
 obtain ⟨h1,tk,rfl,hk⟩:=x.done
 have noA : ∀ b : Addr,b ∉ (eE CX P w K mg base N qual scope f cd A outer s H E).ex:=fun b z => absurd (show b ∈ ([] : List Addr) from z) (by simp)
 refine ⟨⟨e0.mod,S.kind,rfl,rfl,Nat.le_refl _,fun y z c h1 h2 => ?_,fun y hy => ?_,fun y c _ h => ?_,fun _ => hd,Around.frames_deeper e0.frames,.inr ⟨rfl,rfl⟩,fun b z => absurd z (noA b),e0.bs,e0.bsz,fun b _ _ => noA b,fun b z => absurd z (noA b),e0.funs,e0.frf⟩,
  rfl,e0.bare,Un.kept hk,⟨_,x.toInCall.ns,fun i y v h1 h2 h3 => ?_⟩,fun y c h => ⟨_,x.cell y c h⟩,e0.hok.fresh (Nat.le_refl _),fun y c h => ?_,fun p hp => absurd (show p ∈ ([] : List (Addr × Obj)) from hp) (by simp),e0.hok.kept hk,?_⟩
 ·
  exact name_of_addr x.apart (PySem.mem_of_lookup h1) (PySem.mem_of_lookup h2)
 ·
  have hy : scope.names.lookup y = some .cell \/ scope.names.lookup y = some .free:=hy
  rcases hy with hy | hy
  ·
   exact da hy
  ·
   exact absurd rfl (S.nofree _ (PySem.mem_of_lookup hy))
 ·
  exact Nat.le_of_lt (x.above y c (PySem.mem_of_lookup h))
 ·
  have hi : i < vs.length:=by
   unfold start at h2
   by_cases hi : i < vs.length
   ·
    exact hi
   ·
    rw [List.getElem?_append_right (by simpa using hi)] at h2
    rw [List.getElem?_replicate] at h2
    split at h2 <;> cases h2
  have ha : vs[i]? = some v:=by
   unfold start at h2
   rw [List.getElem?_append_left (by simpa using hi),List.getElem?_map] at h2
   cases e : vs[i]? with
   | none => rw [e] at h2; cases h2
   | some a => rw [e] at h2; cases h2; rfl
  obtain ⟨u,hu,rv⟩:=r.get ha
  have hp : ps[i]? = some y:=by
   rw [<- S.pre,List.getElem?_take_of_lt (by omega)]; exact h1
  have ndP : ps.Nodup:=by rw [<- S.pre]; exact S.nd.sublist (List.take_sublist _ _)
  refine ⟨u,rv,?_⟩
  rcases S.par y (List.mem_of_getElem? hp) with k | k
  ·
   exact .inl ⟨k,fC ndP hp hu k⟩
  ·
   obtain ⟨c,e⟩:=da (n:=s.heap.objs.size + 1) k
   refine .inr ⟨.inl k,c,e,?_⟩
   have q:=x.cell y c e
   rw [fD ndP hp hu (by show scope.names.lookup y ≠ _; rw [k]; decide)] at q
   exact q
 ·
  exact e0.hok.fresh (Nat.le_of_lt (x.above y c (PySem.mem_of_lookup h)))
 ·
  unfold start
  show _ = N.length
  rw [List.length_append,List.length_map,List.length_replicate]
  omega
theorem sk {CX : CXT} {P : Program} {w : World} {K : PySem.W.Frag} {mg : Str -> Option Value} {base : Heap} {k : Nat} {f : Addr} {name qual : Str} {params : Arguments} {body : List Stmt} {scope : Scope} {dV kV doc pm cdv ct oc : Value} {an od : Option Addr}
  {osl : Array (Option Value)} {N ps : List Str} {sp : Sp} (lk : K.lookup f = some ⟨oc,od,.func (PySem.W.fnOf name qual params body scope dV kV doc pm an cdv ct),osl⟩) (hcd : PySem.W.codeIn K cdv qual = true) (S : FnScope N ps scope)
  (len : ∀ vs H Q E,sp vs H Q E -> vs.length = ps.length)
  (hbody : ∀ (A : Around) (outer : List Env) (s : Shared) (H : Hp) (vs : List V) (Q : VK) (E : XK),Room k (A.deeper (envOfC qual scope s.heap.objs.size f cdv)) -> sp vs H Q E ->
   ∃ t,PSs (eE CX P w K mg base N qual scope f cdv A outer s H E) body t /\ t { nx:=fun _ H' => Q .non H',rt:=Q } (start N vs) H) :
  FnOk P w K mg base CX (k + 1) f (PySem.W.fnOf name qual params body scope dV kV doc pm an cdv ct) ps sp:=by
 refine ⟨len,fun A outer s H args us vs Q E hr e0 hb r hsp => ?_⟩
 have hl:=len _ _ _ _ hsp
 have KX : K.In s.heap:=e0.mod.kin.keeps fun b o e => (e0.bs b o e).1
 have lim : s.heap.NoLimit:=e0.mod.nolimit.keeps fun b o e => (e0.bs b o e).1
 have hkind : ∀ y ∈ ps.zip us,scope.names.lookup y.1 = some .local \/ (scope.names.lookup y.1 = some .cell /\ ((cellsFrom (s.heap.objs.size + 1) scope.names []).lookup y.1).isSome = true):=fun ⟨n,v⟩ hy => by
  rcases S.par n (List.of_mem_zip hy).1 with q | q
  ·
   exact .inl q
  ·
   exact .inr ⟨q,PySem.W.cellsFrom_some _ _ _ (.inl q)⟩
 refine codeAny_call_function hr.depth (KX _ _ lk) rfl S.co S.gen rfl (PySem.W.codeRec_of KX hcd) (hb _ _ _ _ ?_)
 refine wpAny_newFunctionEnv_cells S.kind hkind fun env he s1 x => ?_
 subst he
 refine ⟨lim.keeps x.toInCall.keep,codeAny_func ?_⟩
 obtain ⟨t,ht,hq⟩:=hbody A outer s H vs Q E (hr.deeper _) hsp
 have I : Inv (eE CX P w K mg base N qual scope f cdv A outer s H E) [] (start N vs) H s1:=lC S hr.hd e0 hl r x
 refine wpAny_mono (ht [] s1 (start N vs) H _ I hq) (fun fl s' hs => ?_) fun e s' hs => hs
 have fin : ∀ {σ' : St} {H' : Hp} {v : V} {u : Value},Inv (eE CX P w K mg base N qual scope f cdv A outer s H E) [] σ' H' s' -> RelV v u -> Q v H' -> CE outer P w H s Q u s' :=
  fun {σ' H' v u} J rv q => ⟨v,H',J.os,J.bare,J.base,J.hok,rv,q⟩
 cases fl with
 | ret u =>
  obtain ⟨v,σ',H',J,rv,q⟩:=hs
  exact fin J rv q
 | next =>
  obtain ⟨σ',H',J,q⟩:=hs
  exact fin (v:=V.non) (u:=Value.none) J rfl q
 | brk =>
  obtain ⟨_,_,_,q⟩:=hs
  exact False.elim q
 | cont =>
  obtain ⟨_,_,_,q⟩:=hs
  exact False.elim q
section
variable {X : Cx} {x : Str} {p pos : Pos} {e : Expr} {es : List Expr} {t : TA} {id T : String} {r : List V -> Hp -> VK -> Prop}
def tCB (r : List V -> Hp -> VK -> Prop) (t : TA) : TE:=fun σ H Q => t σ H fun vs H1 => r vs H1 Q
theorem mx (hc : CallR X (.builtin id) r) (hg : Gl X x) (hm : X.mg x = none) (hv : bootBuiltins x = some (.builtin id)) (ha : PA X (e :: es) t) (hn : x ≠ "__name__":=by decide) (hdb : (x == ("__debug__" : Str)) = false:=by decide)
  (he : starEach (e :: es) X.env = (false,eval e X.env) :: starEach es X.env:=by rfl) (hpl : (backTo pos (starEach es X.env)).any (·.1) = false:=by rfl) : PE X (.Call (.Name x p) (e :: es) [] pos) (tCB r t):=by
 intro pins s σ H Q I h
 refine wpAny_Call_Name_kw (eC I hg hm hv ?_ hn hdb)
 exact PyProof.Rows.callWith_builtin1 (thn (ha pos pins s σ H _ I h) fun us s1 ⟨vs,H1,I1,r1,q1⟩ => hc pins s1 σ H1 vs us Q I1 r1 q1) he hpl
theorem lD (hc : CallR X (.type T) r) (hg : Gl X x) (hm : X.mg x = none) (hv : bootBuiltins x = some (.type T)) (ha : PA X (e :: es) t) (hn : x ≠ "__name__":=by decide) (hdb : (x == ("__debug__" : Str)) = false:=by decide)
  (he : starEach (e :: es) X.env = (false,eval e X.env) :: starEach es X.env:=by rfl) (hpl : (backTo pos (starEach es X.env)).any (·.1) = false:=by rfl) : PE X (.Call (.Name x p) (e :: es) [] pos) (tCB r t):=by
 intro pins s σ H Q I h
 refine wpAny_Call_Name_kw (eC I hg hm hv ?_ hn hdb)
 exact PyProof.Rows.callWith_type1 (thn (ha pos pins s σ H _ I h) fun us s1 ⟨vs,H1,I1,r1,q1⟩ => hc pins s1 σ H1 vs us Q I1 r1 q1) he hpl
end
end L2
namespace HT
open PySem PyProof.Rows
section
open PySem.SeqAt
open PySem.AutoSeq1 (wpAny_loadPart')
open PySem.MeetsSeq PySem.MeetsSeq2 PySem.MeetsSeq3
end
section
variable {prog : Program} {w : World} {A : Around} {E : Value -> Shared -> Prop} {s : Shared}
theorem cat_tup {t b : Addr} {vs ws : List Value} {Q : Value -> Shared -> Prop} (ht : IsTup s.heap t vs.toArray) (hb : IsTup s.heap b ws.toArray) (hv : vs ≠ [])
  (h1 : ws = [] -> Q (.ref t) s) (h2 : ws ≠ [] -> Q (.ref s.heap.objs.size) { s with heap:=s.heap.push { cls:=.type "tuple",data:=.seq (vs ++ ws).toArray } })
  (hsz : vs.length + ws.length <= sizeLine) : wpAny (model prog w) A (binaryOp .Add (.ref t) (.ref b)) Q E s:=by
 obtain ⟨⟨cls,dd,data,sl⟩,ho,hc,n,hd⟩:=id ht
 obtain ⟨⟨cls2,dd2,data2,sl2⟩,ho2,hc2,n2,hd2⟩:=id hb
 simp only at hc hd hc2 hd2
 subst hc hd hc2 hd2
 have e : vs.toArray ++ ws.toArray = (vs ++ ws).toArray:=by simp
 by_cases hw : ws = []
 ·
  exact concat_meets ⟨_,ho,rfl⟩ ⟨_,ho2,rfl⟩ noFill_tuple_add seq_tuple_add PySem.F.slot_tuple_add PySem.F.entry_tuple_add (PySem.F.args_tuple_add_2 _ _)
   (tuple_addW1 t b vs.toArray ws.toArray n n2 dd dd2 sl sl2 (by simpa using hv) (by simp [hw])) ⟨ho,ho2,h1 hw⟩
 ·
  refine concat_meets ⟨_,ho,rfl⟩ ⟨_,ho2,rfl⟩ noFill_tuple_add seq_tuple_add PySem.F.slot_tuple_add PySem.F.entry_tuple_add (PySem.F.args_tuple_add_2 _ _)
   (tuple_addW2 t b vs.toArray ws.toArray n n2 dd dd2 sl sl2 (by simpa using hv) (by simpa using hw) (by rw [List.size_toArray,List.size_toArray]; exact hsz)) ⟨ho,ho2,?_⟩
  rw [e]
  exact h2 hw
noncomputable def sIx (n d : Nat) : Option Int -> Nat
 | none => d
 | some v => if v < 0 then (v + (n : Int)).toNat else min v.toNat n
theorem sIx_none (n d : Nat) : sIx n d none = d:=rfl
theorem sIx_nat (n d k : Nat) : sIx n d (some (k : Int)) = min k n:=by
 show (if (k : Int) < 0 then ((k : Int) + (n : Int)).toNat else min (k : Int).toNat n) = min k n
 rw [if_neg (by omega),Int.toNat_natCast]
theorem t5 (n d : Nat) (hd : d <= n) (o : Option Int) : sIx n d o <= n:=by
 cases o with
 | none => exact hd
 | some v =>
  show (if v < 0 then (v + (n : Int)).toNat else min v.toNat n) <= n
  by_cases hv : v < 0
  ·
   rw [if_pos hv]; omega
  ·
   rw [if_neg hv]; exact Nat.min_le_right _ _
theorem ku (v : Int) (n d : Nat) : (if v < 0 then max (v + (n : Int)) 0 else min v (n : Int)) = ((sIx n d (some v) : Nat) : Int):=by
 show (if v < 0 then max (v + (n : Int)) 0 else min v (n : Int)) = (((if v < 0 then (v + (n : Int)).toNat else min v.toNat n) : Nat) : Int)
 by_cases hv : v < 0
 ·
  simp only [if_pos hv]; omega
 ·
  simp only [if_neg hv]; omega
theorem ju (lo hi : Option Int) (n : Nat) : Builtin.Slice.sliceAdjust lo hi 1 (n : Int) = (((sIx n 0 lo : Nat) : Int),((sIx n n hi : Nat) : Int)):=by
 have h1 : ¬ ((1 : Int) < 0):=by omega
 unfold Builtin.Slice.sliceAdjust
 simp only [h1,if_false]
 refine Prod.ext ?_ ?_
 ·
  cases lo with
  | none => rfl
  | some v => exact ku v n 0
 ·
  cases hi with
  | none => rfl
  | some v => exact ku v n n
theorem jv (i j : Nat) : Builtin.Slice.slicePlaces (i : Int) (j : Int) 1 = j - i:=by
 unfold Builtin.Slice.slicePlaces
 have h1 : (1 : Int) > 0:=by omega
 simp only [h1,if_true,Int.ediv_one]
 split <;> omega
theorem eF {v : Value} {o : Option Int} {Q : Option Int -> Shared -> Prop} (p : IsPart v o) (h : Q o s) : wpAny (model prog w) A (Builtin.Slice.slicePartIndex v) Q E s:=by
 cases p with
 | none => exact slicePart_none h
 | int i t => exact slicePart_int h
theorem dA {sl : Addr} {vl vu : Value} {lo hi : Option Int} {n : Nat} {Q : Int × Int × Nat -> Shared -> Prop} (hs : s.heap.IsSliceOf sl vl vu .none) (pl : IsPart vl lo) (pu : IsPart vu hi)
  (h : Q (((sIx n 0 lo : Nat) : Int),1,sIx n n hi - sIx n 0 lo) s) : wpAny (model prog w) A (Builtin.Slice.sliceApplied (.ref sl) (pure (n : Int))) Q E s:=by
 obtain ⟨os,hos,hcs,hds⟩:=id hs
 unfold Builtin.Slice.sliceApplied Builtin.Slice.sliceFields
 refine wpAny_bind (wpAny_bind (wpAny_field hos hds (x:=vl) rfl (wpAny_bind (wpAny_field hos hds (x:=vu) rfl (wpAny_bind (wpAny_field hos hds (x:=.none) rfl (wpAny_pure ?_)))))))
 refine wpAny_bind (slicePart_none ?_)
 show wpAny _ _ (if ((1 : Int) == 0) = true then _ else _) _ _ s
 rw [if_neg (by decide)]
 refine wpAny_bind (eF pl (wpAny_bind (eF pu (wpAny_bind (wpAny_pure ?_)))))
 show wpAny _ _ (match Builtin.Slice.sliceAdjust lo hi 1 (n : Int) with | (lo,hi) => pure (lo,(1 : Int),Builtin.Slice.slicePlaces lo hi 1)) _ _ s
 rw [ju lo hi n]
 show wpAny _ _ (pure (((sIx n 0 lo : Nat) : Int),(1 : Int),Builtin.Slice.slicePlaces ((sIx n 0 lo : Nat) : Int) ((sIx n n hi : Nat) : Int) 1)) _ _ s
 rw [jv]
 exact wpAny_pure h
theorem my (xs : Array Value) (i k : Nat) : ((List.range k).filterMap fun (m : Nat) => xs[((i : Int) + (m : Int) * 1).toNat]?).toArray = ((xs.toList.drop i).take k).toArray:=by
 have e : (fun (m : Nat) => xs[((i : Int) + (m : Int) * 1).toNat]?) = fun m => xs[i + m]?:=by
  funext m
  have : ((i : Int) + (m : Int) * 1).toNat = i + m:=by omega
  rw [this]
 rw [e]
 have:=pick_run xs i k
 rw [List.filterMap_map] at this
 have e2 : ((fun x => xs[x]?) ∘ fun x => i + x) = fun m => xs[i + m]?:=rfl
 rw [e2] at this
 rw [this]
theorem getItem_tuple_cut {t sl : Addr} {items : Array Value} {vl vu : Value} {lo hi : Option Int} {Q : Value -> Shared -> Prop} (ht : IsTup s.heap t items) (hs : s.heap.IsSliceOf sl vl vu .none) (pl : IsPart vl lo) (pu : IsPart vu hi)
  (hw : ¬ (sIx items.size 0 lo = 0 /\ sIx items.size items.size hi = items.size))
  (h : Q (.ref s.heap.objs.size) { s with heap:=s.heap.push { cls:=.type "tuple",data:=.seq ((items.toList.drop (sIx items.size 0 lo)).take (sIx items.size items.size hi - sIx items.size 0 lo)).toArray } })
  (hsz : items.size <= sizeLine) : wpAny (model prog w) A (getItem (.ref t) (.ref sl)) Q E s:=by
 have htake : sizeOk (.seq ((items.toList.drop (sIx items.size 0 lo)).take (sIx items.size items.size hi - sIx items.size 0 lo)).toArray):=by
  show ((items.toList.drop (sIx items.size 0 lo)).take (sIx items.size items.size hi - sIx items.size 0 lo)).toArray.size <= sizeLine
  rw [List.size_toArray,List.length_take,List.length_drop,Array.length_toList]
  omega
 have hj : sIx items.size items.size hi <= items.size:=t5 _ _ (Nat.le_refl _) hi
 obtain ⟨os,hos,hcs,hds⟩:=id hs
 have hTs : s.TypeIs (.ref sl) "slice":=⟨os,hos,hcs⟩
 unfold getItem
 try with_reducible refine wpAny_holding ?_
 first | refine wpAny_bind (wpAny_pure ?_) | skip
 refine wpAny_bind (wpAny_sequenceKey ht.typeIs (by decide) ?_)
 refine wpAny_bind (wpAny_callSpecial?_slot (name:=Str.ofString "__getitem__") ht.typeIs PyProof.Rows.slot_tuple_getitem
  (wpAny_call_entry PyProof.Rows.slot_tuple_getitem ht.typeIs entry_tuple_getitem ?_ (args_tuple_getitem _ _)))
 show wpAny _ _ (Builtin.Tuple.tupleItemsOf (.ref t) >>= _) _ _ s
 refine wpAny_bind (tupleItemsOf_ ht ?_)
 refine wpAny_bind (wpAny_typeOf hTs ?_)
 rw [if_pos (by decide)]
 refine wpAny_bind (dA hs pl pu ?_)
 have hno : ¬ ((((sIx items.size 0 lo : Nat) : Int) == 0 && (1 : Int) == 1 && (sIx items.size items.size hi - sIx items.size 0 lo) == items.size) = true):=by
  intro q
  rw [Bool.and_eq_true,Bool.and_eq_true] at q
  have q1 : ((sIx items.size 0 lo : Nat) : Int) = 0:=eq_of_beq q.1.1
  have q2 : sIx items.size items.size hi - sIx items.size 0 lo = items.size:=eq_of_beq q.2
  exact hw ⟨by omega,by omega⟩
 show wpAny _ _ (if (((sIx items.size 0 lo : Nat) : Int) == 0 && (1 : Int) == 1 && (sIx items.size items.size hi - sIx items.size 0 lo) == items.size) = true then _ else _) _ _ s
 rw [if_neg hno,my]
 first
  | exact wpAny_bind (m:=Builtin.Tuple.tupleExact _) (wpAny_newObj_type (wpAny_pure ⟨_,rfl,wpAny_pure h⟩) htake)
  | exact wpAny_bind (m:=Builtin.Tuple.tupleExact _) (wpAny_newObj_type (wpAny_bind (wpAny_pure (wpAny_pure ⟨_,rfl,wpAny_pure h⟩))) htake)
  | exact wpAny_bind (wpAny_bind (m:=Builtin.Tuple.tupleExact _) (wpAny_newObj_type (wpAny_pure (wpAny_pure ⟨_,rfl,wpAny_pure h⟩)) htake))
  | exact wpAny_bind (wpAny_bind (m:=Builtin.Tuple.tupleExact _) (wpAny_newObj_type (wpAny_pure ⟨_,rfl,wpAny_pure h⟩) htake))
end
end HT
namespace L2
abbrev TO:=St -> Hp -> (Option Int -> Hp -> Prop) -> Prop
def PO (X : Cx) (e : Option Expr) (t : TO) : Prop :=
 ∀ (pins : List (Addr × Obj)) (s : Shared) (σ : St) (H : Hp) (Q : Option Int -> Hp -> Prop),Inv X pins σ H s -> t σ H Q ->
  wpAny (model X.prog X.w) X.A (evalPart e X.env) (fun u s' => ∃ o H',Inv X pins σ H' s' /\ IsPart u o /\ Q o H') X.xe s
def qe : TO:=fun _ H Q => Q none H
def xj (t : TE) : TO:=fun σ H Q => t σ H fun x H1 => ∃ i,x = .int i /\ Q (some i) H1
section
variable {X : Cx} {e : Expr} {te : TE} {lo hi : Option Expr} {tl th : TO} {pos p2 : Pos}
theorem qf : PO X none qe:=by
 intro pins s σ H Q I h
 rw [evalPart_none]
 exact wpAny_pure ⟨none,H,I,.none,h⟩
theorem qg (h : PE X e te) : PO X (some e) (xj te):=by
 intro pins s σ H Q I hw
 rw [evalPart_some]
 refine thn (h pins s σ H _ I hw) fun u s1 ⟨x,H1,I1,r1,q1⟩ => ?_
 obtain ⟨i,rfl,q⟩:=q1
 obtain ⟨t,rfl⟩:=r1
 exact ⟨some i,H1,I1,.int i t,q⟩
def SlR (X : Cx) (r : V -> Option Int -> Option Int -> Hp -> VK -> Prop) : Prop :=
 ∀ (pins : List (Addr × Obj)) (s : Shared) (σ : St) (H : Hp) (x : V) (v vl vu : Value) (lo hi : Option Int) (sl : Addr) (Q : VK),Inv X pins σ H s -> RelV x v -> s.heap.IsSliceOf sl vl vu .none -> IsPart vl lo -> IsPart vu hi -> r x lo hi H Q ->
  ∃ T id,typeLookup (.type T) "__getitem__" = pure (some (.builtin id)) /\ s.TypeIs v T /\ wpAny (model X.prog X.w) X.A (getItem v (.ref sl)) (EP X pins σ Q) X.xe s
theorem SlR.or {r r' : V -> Option Int -> Option Int -> Hp -> VK -> Prop} (h : SlR X r) (h' : SlR X r') : SlR X (fun x lo hi H Q => r x lo hi H Q \/ r' x lo hi H Q):=by
 intro pins s σ H x v vl vu lo hi sl Q I rx hs pl pu q
 rcases q with q | q
 ·
  exact h pins s σ H x v vl vu lo hi sl Q I rx hs pl pu q
 ·
  exact h' pins s σ H x v vl vu lo hi sl Q I rx hs pl pu q
def tSl (r : V -> Option Int -> Option Int -> Hp -> VK -> Prop) (te : TE) (tl th : TO) : TE:=fun σ H Q => te σ H fun x H1 => tl σ H1 fun l H2 => th σ H2 fun u H3 => r x l u H3 Q
theorem mz {r : V -> Option Int -> Option Int -> Hp -> VK -> Prop} (hr : SlR X r) (he : PE X e te) (hl : PO X lo tl) (hu : PO X hi th) : PE X (.Subscript e (.Slice lo hi none p2) pos) (tSl r te tl th):=by
 intro pins s σ H Q I h
 refine Subscript_ (thn (he pins s σ H _ I h) fun v s1 ⟨x,H1,I1,r1,q1⟩ => ?_)
 refine wpAny_Slice (thn (hl pins s1 σ H1 _ I1 q1) fun vl s2 ⟨l,H2,I2,pl,q2⟩ => thn (hu pins s2 σ H2 _ I2 q2) fun vu s3 ⟨u,H3,I3,pu,q3⟩ => ?_)
 rw [evalPart_none]
 refine wpAny_pure ?_
 have I4 : Inv X pins σ H3 { s3 with heap:=s3.heap.push { cls:=.type "slice",data:=.fields #[vl,vu,.none] } }:=I3.kept (t':=s3.toks) fun b ob q => Heap.get?_push_of_some _ q
 obtain ⟨T,id,hT,ht,hg⟩:=hr pins { s3 with heap:=s3.heap.push { cls:=.type "slice",data:=.fields #[vl,vu,.none] } } σ H3 x v vl vu l u s3.heap.objs.size Q I4 r1 (Heap.IsSliceOf.new ..) pl pu q3
 show wpAny (model X.prog X.w) X.A (subscriptTail e (.Slice lo hi none p2) v (.ref s3.heap.objs.size)) (EP X pins σ Q) X.xe { s3 with heap:=s3.heap.push { cls:=.type "slice",data:=.fields #[vl,vu,.none] } }
 exact tail_any (ops:=[.ref s3.heap.objs.size,v]) ht hT hg (by with_unfolding_all rfl)
noncomputable def iA (xs : List V) (lo hi : Option Int) : List V:=(xs.drop (HT.sIx xs.length 0 lo)).take (HT.sIx xs.length xs.length hi - HT.sIx xs.length 0 lo)
theorem dM (xs : List V) (lo hi : Option Int) : (iA xs lo hi).length <= xs.length:=by
 unfold iA
 rw [List.length_take,List.length_drop]
 omega
def zH (K : PySem.W.Frag) : V -> Option Int -> Option Int -> Hp -> VK -> Prop:=fun x lo hi H Q => ∃ a xs,x = .ref a /\ SqT K H a xs /\
 ¬ (HT.sIx xs.length 0 lo = 0 /\ HT.sIx xs.length xs.length hi = xs.length) /\ ∀ p,H p = none -> Q (.ref p) (upd H p (.tup (iA xs lo hi)))
theorem sl_tup : SlR X (zH X.K):=by
 intro pins s σ H x v vl vu lo hi sl Q I rx hs pl pu h
 obtain ⟨a,xs,rfl,hx,hw,q⟩:=h
 cases rx
 obtain ⟨its,r,ht,hz⟩:=I.tuple hx
 have hlen : its.toArray.size = xs.length:=by rw [List.size_toArray]; exact r.length.symm
 refine ⟨"tuple",_,PyProof.Rows.slot_tuple_getitem.lookup,ht.typeIs,?_⟩
 refine HT.getItem_tuple_cut ht hs pl pu (by rw [hlen]; exact hw) ?_ (by rw [hlen]; exact hz)
 rw [hlen]
 refine ⟨.ref s.heap.objs.size,_,I.laid (t':=s.toks) (o:=.tup (iA xs lo hi)) (fun b ob q => Heap.get?_push_of_some _ q) (Nat.le_refl _) ?_,rfl,q _ (I.hok.fresh (Nat.le_refl _))⟩
 exact ⟨Nat.le_trans (dM xs lo hi) hz,_,(r.drop (HT.sIx xs.length 0 lo)).take (HT.sIx xs.length xs.length hi - HT.sIx xs.length 0 lo),Tup0.new _ _⟩
def xk (K : PySem.W.Frag) : R2:=fun x y H Q => ∃ a b xs ys,x = .ref a /\ y = .ref b /\ SqT K H a xs /\ SqT K H b ys /\ xs ≠ [] /\ xs.length + ys.length <= sizeLine /\
 (ys = [] -> Q (.ref a) H) /\ (ys ≠ [] -> ∀ p,H p = none -> Q (.ref p) (upd H p (.tup (xs ++ ys))))
theorem Vals.nil_iff {xs : List V} {us : List Value} (r : Vals xs us) : us = [] ↔ xs = []:=by
 cases r with
 | nil => simp
 | cons _ _ => simp
theorem op_catT : OpR X (binaryOp .Add) (xk X.K):=by
 intro pins s σ H x y v u Q I rx ry h
 obtain ⟨a,b,xs,ys,rfl,rfl,ha,hb,hx,hz,q1,q2⟩:=h
 cases rx
 cases ry
 obtain ⟨its,r1,p1,_⟩:=I.tuple ha
 obtain ⟨its2,r2,p2,_⟩:=I.tuple hb
 refine HT.cat_tup p1 p2 (fun z => hx (r1.nil_iff.mp z)) (fun z => ⟨.ref a,H,I,rfl,q1 (r2.nil_iff.mp z)⟩) (fun z => ?_) (by rw [<- r1.length,<- r2.length]; exact hz)
 refine ⟨.ref s.heap.objs.size,_,I.laid (t':=s.toks) (o:=.tup (xs ++ ys)) (fun b ob q => Heap.get?_push_of_some _ q) (Nat.le_refl _) ?_,rfl,q2 (fun w => z (r2.nil_iff.mpr w)) _ (I.hok.fresh (Nat.le_refl _))⟩
 exact ⟨by rw [List.length_append]; exact hz,_,r1.append r2,Tup0.new _ _⟩
end
noncomputable def ixN (n : Nat) (i : Int) : Option Nat:=if 0 <= i then (if i < n then some i.toNat else none) else if -(n : Int) <= i then some (i + n).toNat else none
noncomputable def atI {α : Type} (xs : List α) (i : Int) : Option α:=(ixN xs.length i).bind fun j => xs[j]?
theorem gw {n : Nat} {i : Int} {j : Nat} (h : ixN n i = some j) : seqIndex? i n = some j /\ j < n /\ -(n : Int) <= i /\ i < n:=by
 unfold ixN at h
 by_cases h0 : 0 <= i
 ·
  rw [if_pos h0] at h
  by_cases h1 : i < n
  ·
   rw [if_pos h1] at h
   have e : i.toNat = j:=Option.some.inj h
   exact ⟨by rw [seqIndex_of h0 h1,e],by omega,by omega,h1⟩
  ·
   rw [if_neg h1] at h; cases h
 ·
  rw [if_neg h0] at h
  by_cases h1 : -(n : Int) <= i
  ·
   rw [if_pos h1] at h
   have e : (i + n).toNat = j:=Option.some.inj h
   exact ⟨by rw [seqIndex_neg (by omega) h1,e],by omega,h1,by omega⟩
  ·
   rw [if_neg h1] at h; cases h
theorem gy {α : Type} {xs : List α} {i : Int} {v : α} (h : atI xs i = some v) : ∃ j,seqIndex? i xs.length = some j /\ xs[j]? = some v /\ j < xs.length /\ -(xs.length : Int) <= i /\ i < xs.length:=by
 unfold atI at h
 cases e : ixN xs.length i with
 | none => rw [e] at h; cases h
 | some j =>
  rw [e] at h
  obtain ⟨h1,h2,h3,h4⟩:=gw e
  exact ⟨j,h1,h,h2,h3,h4⟩
theorem cz {α : Type} {xs : List α} {j : Nat} {v : α} (h : xs[j]? = some v) : atI xs (j : Int) = some v:=by
 have hj : j < xs.length:=(List.getElem?_eq_some_iff.mp h).1
 have e : ixN xs.length (j : Int) = some j:=by
  unfold ixN
  rw [if_pos (by omega),if_pos (by omega)]; simp
 unfold atI; rw [e]; exact h
def ky (b : Expr) : Prop:=∀ o i,subscripted b false o i = operate [o,i] (getItem o i)
def IxR (X : Cx) (r : R2) : Prop :=
 ∀ (value slice : Expr) (pins : List (Addr × Obj)) (s : Shared) (σ : St) (H : Hp) (x y : V) (v u : Value) (Q : VK),Inv X pins σ H s -> RelV x v -> RelV y u -> r x y H Q ->
  subscripted slice false v u = operate [v,u] (getItem v u) -> wpAny (model X.prog X.w) X.A (subscriptTail value slice v u) (EP X pins σ Q) X.xe s
def MtR (X : Cx) (id : String) (r : V -> List V -> Hp -> VK -> Prop) : Prop :=
 ∀ (pins : List (Addr × Obj)) (s : Shared) (σ : St) (H : Hp) (x : V) (xs : List V) (v : Value) (us : List Value) (Q : VK),Inv X pins σ H s -> RelV x v -> Vals xs us -> r x xs H Q ->
  wpAny (model X.prog X.w) X.A (call (.builtin id) (v :: us)) (EP X pins σ Q) X.xe s
section
variable {X : Cx} {a b : Expr} {ta tb : TE} {pos : Pos}
theorem IxR.or {r r' : R2} (h : IxR X r) (h' : IxR X r') : IxR X (fun x y H Q => r x y H Q \/ r' x y H Q):=by
 intro value slice pins s σ H x y v u Q I rx ry q hs
 rcases q with q | q
 ·
  exact h value slice pins s σ H x y v u Q I rx ry q hs
 ·
  exact h' value slice pins s σ H x y v u Q I rx ry q hs
theorem MtR.or {id : String} {r r' : V -> List V -> Hp -> VK -> Prop} (h : MtR X id r) (h' : MtR X id r') : MtR X id (fun x xs H Q => r x xs H Q \/ r' x xs H Q):=by
 intro pins s σ H x xs v us Q I rx rs q
 rcases q with q | q
 ·
  exact h pins s σ H x xs v us Q I rx rs q
 ·
  exact h' pins s σ H x xs v us Q I rx rs q
theorem xl {r : R2} (hr : IxR X r) (ha : PE X a ta) (hb : PE X b tb) (hs : ky b) : PE X (.Subscript a b pos) (tOp r ta tb):=by
 intro pins s σ H Q I h
 exact Subscript_ (tU ha hb I h fun v u s2 x y H2 I2 rx ry q => hr a b pins s2 σ H2 x y v u Q I2 rx ry q (hs _ _))
def xm (K : PySem.W.Frag) : R2:=fun x y H Q => ∃ p xs i v,x = .ref p /\ y = .int i /\ SqL K H p xs /\ atI xs i = some v /\ Q v H
def xn (K : PySem.W.Frag) : R2:=fun x y H Q => ∃ p xs i v,x = .ref p /\ y = .int i /\ SqT K H p xs /\ atI xs i = some v /\ Q v H
def xo : R2:=fun x y H Q => ∃ z i c,x = .str z /\ y = .int i /\ z.length <= sizeLine /\ atI z.cps.toList i = some c /\ Q (.str ⟨#[c]⟩) H
theorem ix_list : IxR X (xm X.K):=by
 intro value slice pins s σ H x y v u Q I rx ry h hs
 obtain ⟨p,xs,i,z,rfl,rfl,hq,he,q⟩:=h
 cases rx
 obtain ⟨t,rfl⟩:=ry
 obtain ⟨its,r,pl,hz⟩:=I.list hq
 obtain ⟨j,h1,h2,h3,h4,h5⟩:=gy he
 obtain ⟨w,ew,rw'⟩:=r.get h2
 have hl:=r.length
 have hn:=c4
 have fin : EP X pins σ Q w s:=⟨z,H,I,rw',q⟩
 by_cases h0 : 0 <= i
 ·
  have hj : i.toNat = j:=by
   rw [seqIndex_of h0 h5] at h1
   exact Option.some.inj h1
  exact item_listR pl.isList h0 (by omega) (by rw [hj]; simpa using ew) fin hs
 ·
  have hj : (i + (its.toArray.size : Int)).toNat = j:=by
   rw [seqIndex_neg (by omega) h4] at h1
   rw [List.size_toArray,<- hl]
   exact Option.some.inj h1
  exact subscriptTail_builtinR (x:=w) pl.isList.typeIs slot_list_getitem.lookup
   (wpAny_getItem_list_neg (Q:=fun r s' => r = w /\ EP X pins σ Q r s') pl.isList (by omega) (by rw [List.size_toArray] <;> omega) (by omega) (by rw [hj]; simpa using ew) ⟨rfl,fin⟩) hs
theorem ix_tup : IxR X (xn X.K):=by
 intro value slice pins s σ H x y v u Q I rx ry h hs
 obtain ⟨p,xs,i,z,rfl,rfl,hq,he,q⟩:=h
 cases rx
 obtain ⟨t,rfl⟩:=ry
 obtain ⟨its,r,pl,hz⟩:=I.tuple hq
 obtain ⟨j,h1,h2,h3,h4,h5⟩:=gy he
 obtain ⟨w,ew,rw'⟩:=r.get h2
 have hl:=r.length
 have hn:=c4
 have fin : EP X pins σ Q w s:=⟨z,H,I,rw',q⟩
 exact subscriptTail_builtinR (x:=w) pl.typeIs slot_tuple_getitem.lookup
  (getItem_tuple (j:=j) (Q:=fun r s' => r = w /\ EP X pins σ Q r s') pl (by omega) (by omega) (by rw [List.size_toArray,<- hl]; exact h1) (by simpa using ew) ⟨rfl,fin⟩) hs
theorem t6 : IxR X xo:=by
 intro value slice pins s σ H x y v u Q I rx ry h hs
 obtain ⟨z,i,c,rfl,rfl,hz,he,q⟩:=h
 obtain ⟨t,rfl⟩:=rx
 obtain ⟨t',rfl⟩:=ry
 obtain ⟨j,h1,h2,h3,h4,h5⟩:=gy he
 have hl : z.cps.toList.length = z.length:=by simp [Str.length]
 rw [hl] at h1 h4 h5
 have hn:=c4
 exact tail_any (typeIs_str s z t) slot_str_getitem.lookup (getItem_str (c:=c) (by
  have e1 : decide (i < -(2 ^ 63 : Int)) = false:=decide_eq_false (by omega)
  have e2 : decide (i ≥ 2 ^ 63) = false:=decide_eq_false (by omega)
  rw [e1,e2,Bool.or_false]) (by rw [h1]; simpa using h2) ⟨.str ⟨#[c]⟩,H,I.tok _,⟨_,rfl⟩,q⟩) hs
def rIx (K : PySem.W.Frag) : R2:=fun x y H Q => xm K x y H Q \/ xn K x y H Q \/ xo x y H Q
theorem t7 : IxR X (rIx X.K):=ix_list.or (ix_tup.or t6)
theorem jw (its : List Value) (n j : Nat) (u : Value) : Obj.mapSeq (·.setIfInBounds j u) { cls:=.type "list",data:=.seq its.toArray n } = { cls:=.type "list",data:=.seq (its.set j u).toArray n }:=by
 simp [Obj.mapSeq]
theorem Inv.lst {pins : List (Addr × Obj)} {σ : St} {H : Hp} {s : Shared} {p : Addr} {xs : List V} (I : Inv X pins σ H s) (h : H p = some (.lst xs)) :
  ∃ (its : List Value) (n : Nat),Vals xs its /\ s.heap.get? p = some { cls:=.type "list",data:=.seq its.toArray n } /\ xs.length <= sizeLine:=by
 obtain ⟨z,its,n,r,e⟩:=I.hok p _ h
 exact ⟨its,n,r,e,z⟩
theorem Inv.lstUpd {pins : List (Addr × Obj)} {σ : St} {H : Hp} {s : Shared} {p : Addr} {xs ys : List V} {its its' : List Value} {n n' : Nat} {f : Obj -> Obj} (I : Inv X pins σ H s) (h : H p = some (.lst xs))
  (ho : s.heap.get? p = some { cls:=.type "list",data:=.seq its.toArray n }) (hf : f { cls:=.type "list",data:=.seq its.toArray n } = { cls:=.type "list",data:=.seq its'.toArray n' }) (r : Vals ys its') (hz : ys.length <= sizeLine) (t : Nat) :
  Inv X pins σ (upd H p (.lst ys)) { s with heap:=s.heap.update p f,toks:=t }:=by
 have e : (s.heap.update p f).get? p = some { cls:=.type "list",data:=.seq its'.toArray n' }:=by
  rw [Heap.get?_update_self f ho (by rw [hf] <;> rfl),hf]
 refine I.write (x:=p) (e:=p) (by rw [h]; trivial) (.inl rfl) (fun b u hb q => (Heap.get?_update_other _ _ (Ne.symm hb)).trans q) ⟨_,e⟩ ?_
 exact ⟨hz,its',n',r,e⟩
def xp : V -> V -> V -> Hp -> (Hp -> Prop) -> Prop:=fun o i v H Q => ∃ p xs k j,o = .ref p /\ i = .int k /\ H p = some (.lst xs) /\ ixN xs.length k = some j /\ Q (upd H p (.lst (xs.set j v)))
theorem set_list : PSet X xp:=by
 intro pins s σ H o i v ov iv u Q I ro ri rv h
 obtain ⟨p,xs,k,j,rfl,rfl,hp,hj,q⟩:=h
 cases ro
 obtain ⟨t,rfl⟩:=ri
 obtain ⟨its,n,r,ho,hz⟩:=I.lst hp
 obtain ⟨h1,h2,h3,h4⟩:=gw hj
 have hl:=r.length
 have hn:=c4
 have I' : Inv X pins σ (upd H p (.lst (xs.set j v))) { s with heap:=s.heap.update p (Obj.mapSeq (·.setIfInBounds j u)) } :=
  I.lstUpd hp ho (jw its n j u) (r.set rv j) (by rw [List.length_set]; exact hz) s.toks
 by_cases h0 : 0 <= k
 ·
  have hk : k.toNat = j:=by
   rw [seqIndex_of h0 h4] at h1
   exact Option.some.inj h1
  exact PySem.W.ki_setAt ho h0 (by omega) (by rw [List.size_toArray,<- hl]; exact h4) (by rw [hk]; exact ⟨_,I',q⟩)
 ·
  have hk : (k + (its.toArray.size : Int)).toNat = j:=by
   rw [seqIndex_neg (by omega) h3] at h1
   rw [List.size_toArray,<- hl]
   exact Option.some.inj h1
  exact PySem.W.ki_setBack ho (by omega) (by rw [List.size_toArray,<- hl]; exact h3) (by omega) (by rw [hk]; exact ⟨_,I',q⟩)
theorem gA (lo hi : Option Int) (n : Nat) : (sliceBounds lo hi none n).1 = ((HT.sIx n 0 lo : Nat) : Int) /\ (sliceBounds lo hi none n).2.1 = ((HT.sIx n n hi : Nat) : Int) /\ (sliceBounds lo hi none n).2.2 = 1:=by
 refine ⟨?_,?_,rfl⟩
 ·
  cases lo with
  | none => simp [sliceBounds,HT.sIx]
  | some i =>
   simp only [sliceBounds,HT.sIx,Option.getD_none,show (1 : Int) > 0 by decide,if_true]
   by_cases h : i < 0
   ·
    simp only [h,if_true] <;> omega
   ·
    simp only [h,if_false] <;> omega
 ·
  cases hi with
  | none => simp [sliceBounds,HT.sIx]
  | some i =>
   simp only [sliceBounds,HT.sIx,Option.getD_none,show (1 : Int) > 0 by decide,if_true]
   by_cases h : i < 0
   ·
    simp only [h,if_true] <;> omega
   ·
    simp only [h,if_false] <;> omega
theorem fk (its : List Value) (lo hi : Option Int) : slicePick its.toArray lo hi none = ((its.drop (HT.sIx its.length 0 lo)).take (HT.sIx its.length its.length hi - HT.sIx its.length 0 lo)).toArray:=by
 obtain ⟨h1,h2,h3⟩:=gA lo hi its.toArray.size
 unfold slicePick
 rw [h1,h2,h3]
 simp only [sliceRange_one,pick_run,List.size_toArray] <;> rfl
def zI (K : PySem.W.Frag) : V -> Option Int -> Option Int -> Hp -> VK -> Prop:=fun x lo hi H Q => ∃ a xs,x = .ref a /\ SqL K H a xs /\ ∀ p,H p = none -> Q (.ref p) (upd H p (.lst (iA xs lo hi)))
theorem sl_list : SlR X (zI X.K):=by
 intro pins s σ H x v vl vu lo hi sl Q I rx hs pl pu h
 obtain ⟨a,xs,rfl,hx,q⟩:=h
 cases rx
 obtain ⟨its,r,ht,hz⟩:=I.list hx
 have hlen:=r.length
 refine ⟨"list",_,slot_list_getitem.lookup,ht.isList.typeIs,?_⟩
 refine wpAny_getItem_list_slice ht.isList hs pl pu .none (by simp) ?_ (by rw [List.size_toArray] <;> omega)
 rw [fk,<- hlen]
 refine ⟨.ref s.heap.objs.size,_,I.laid (t':=s.toks) (o:=.lst (iA xs lo hi)) (fun b ob q => Heap.get?_push_of_some _ q) (Nat.le_refl _) ?_,rfl,q _ (I.hok.fresh (Nat.le_refl _))⟩
 exact ⟨Nat.le_trans (dM xs lo hi) hz,_,0,(r.drop (HT.sIx xs.length 0 lo)).take (HT.sIx xs.length xs.length hi - HT.sIx xs.length 0 lo),Heap.get?_push_size _ rfl⟩
theorem call_len_seq : CallR X (.builtin "len") (fun xs H Q => ∃ p ys,xs = [.ref p] /\ (SqL X.K H p ys \/ SqT X.K H p ys) /\ Q (.int ys.length) H):=by
 intro pins s σ H xs us Q I r h
 obtain ⟨p,ys,rfl,hq,q⟩:=h
 obtain ⟨u,rfl,rx⟩:=vals1 r
 cases rx
 have hn:=c4
 rcases hq with hq | hq
 ·
  obtain ⟨its,r',pl,hz⟩:=I.list hq
  have hlen:=r'.length
  exact Calls.call_len_list pl.isList (by simp only [List.size_toArray] <;> omega) ⟨.int ys.length,H,I.tok _,⟨s.toks + 1,by rw [List.size_toArray,hlen]⟩,q⟩
 ·
  obtain ⟨its,r',pl,hz⟩:=I.tuple hq
  have hlen:=r'.length
  exact len_tuple pl (by simp only [List.size_toArray] <;> omega) ⟨.int ys.length,H,I.tok _,⟨s.toks + 1,by rw [List.size_toArray,hlen]⟩,q⟩
theorem gB : CallR X (.builtin "len") (fun xs H Q => ∃ z,xs = [.str z] /\ z.length <= sizeLine /\ Q (.int z.length) H):=by
 intro pins s σ H xs us Q I r h
 obtain ⟨z,rfl,hz,q⟩:=h
 obtain ⟨u,rfl,t,rfl⟩:=vals1 r
 have hn:=c4
 exact len_str (by omega) ⟨.int z.length,H,I.tok _,⟨_,rfl⟩,q⟩
theorem CallR.or {f : Value} {r r' : List V -> Hp -> VK -> Prop} (h : CallR X f r) (h' : CallR X f r') : CallR X f (fun xs H Q => r xs H Q \/ r' xs H Q):=by
 intro pins s σ H xs us Q I rs q
 rcases q with q | q
 ·
  exact h pins s σ H xs us Q I rs q
 ·
  exact h' pins s σ H xs us Q I rs q
theorem gC : CallR X (.type "list") (fun xs H Q => ∃ p ys,xs = [.ref p] /\ (SqL X.K H p ys \/ SqT X.K H p ys) /\ ∀ l,H l = none -> Q (.ref l) (upd H l (.lst ys))):=by
 intro pins s σ H xs us Q I r h
 obtain ⟨p,ys,rfl,hq,q⟩:=h
 obtain ⟨u,rfl,rx⟩:=vals1 r
 cases rx
 have fin : ∀ (its : List Value),Vals ys its -> ys.length <= sizeLine -> ∀ (h' : Heap) (c' : Nat),(∀ b o',s.heap.get? b = some o' -> h'.get? b = some o') ->
   h'.get? s.heap.objs.size = some { cls:=.type "list",dict:=none,data:=.seq its.toArray c',slots:=#[] } -> EP X pins σ Q (.ref s.heap.objs.size) { s with heap:=h' }:=fun its r' hz h' c' kp e =>
  ⟨.ref s.heap.objs.size,_,I.laid (t':=s.toks) kp (Nat.le_refl _) (show ObjOk X.prog X.w _ h' _ (.lst ys) from ⟨hz,its,c',r',e⟩),rfl,q _ (I.hok.fresh (Nat.le_refl _))⟩
 rcases hq with hq | hq
 ·
  obtain ⟨its,r',pl,hz⟩:=I.list hq
  have hlen:=r'.length
  obtain ⟨o,ho,hc,n,hd⟩:=pl.isList
  exact call_list_seq p (.inl rfl) ho hc hd (fun h' c' kp e => fin its r' hz h' c' kp e) (by simp only [List.size_toArray] <;> omega)
 ·
  obtain ⟨its,r',pl,hz⟩:=I.tuple hq
  have hlen:=r'.length
  obtain ⟨o,ho,hc,n,hd⟩:=pl
  exact call_list_seq p (.inr rfl) ho hc hd (fun h' c' kp e => fin its r' hz h' c' kp e) (by simp only [List.size_toArray] <;> omega)
theorem fm : CallR X (.type "tuple") (fun xs H Q => ∃ p ys,xs = [.ref p] /\ ((SqL X.K H p ys /\ ∀ l,H l = none -> Q (.ref l) (upd H l (.tup ys))) \/ (SqT X.K H p ys /\ Q (.ref p) H))):=by
 intro pins s σ H xs us Q I r h
 obtain ⟨p,ys,rfl,h⟩:=h
 obtain ⟨u,rfl,rx⟩:=vals1 r
 cases rx
 rcases h with ⟨hq,q⟩ | ⟨hq,q⟩
 ·
  obtain ⟨its,r',pl,hz⟩:=I.list hq
  have hlen:=r'.length
  refine call_tuple_list pl.isList (fun h' kp => ?_) (by simp only [List.size_toArray] <;> omega)
  have I1 : Inv X pins σ H { s with heap:=h' }:=I.kept (t':=s.toks) kp
  have I2 : Inv X pins σ (upd H h'.objs.size (.tup ys)) { s with heap:=h'.push { cls:=.type "tuple",data:=.seq its.toArray } } :=
   I1.laid (t':=s.toks) (fun b o e => Heap.get?_push_of_some _ e) (Nat.le_refl _) (show ObjOk X.prog X.w _ _ _ (.tup ys) from ⟨hz,its,r',Tup0.new _ _⟩)
  exact ⟨.ref h'.objs.size,_,I2,rfl,q _ (I1.hok.fresh (Nat.le_refl _))⟩
 ·
  obtain ⟨its,r',pl,hz⟩:=I.tuple hq
  exact call_tuple_same pl ⟨.ref p,H,I,rfl,q⟩
def tyV (K : PySem.W.Frag) (T : String) (x : V) (H : Hp) : Prop:=match x with
 | .str _ => T = "str"
 | .int _ => T = "int"
 | .ref p => (T = "list" /\ ∃ xs,SqL K H p xs) \/ (T = "tuple" /\ ∃ xs,SqT K H p xs) \/
   (T = "dict" /\ ((∃ kvs,H p = some (.dK kvs)) \/ ∃ kvs,H p = some (.dT kvs))) \/ (T = "set" /\ ∃ S n,H p = some (.set S n))
 | _ => False
theorem t9 {pins : List (Addr × Obj)} {σ : St} {H : Hp} {s : Shared} {T : String} {x : V} {v : Value} (I : Inv X pins σ H s) (r : RelV x v) (ty : tyV X.K T x H) :
  s.TypeIs v T /\ ∀ a,v = .ref a -> ∃ ob,s.heap.get? a = some ob /\ ob.dict = none:=by
 cases x with
 | str z =>
  obtain ⟨t,rfl⟩:=r
  cases (show T = "str" from ty)
  exact ⟨typeIs_str s z t,fun _ e => nomatch e⟩
 | int i =>
  obtain ⟨t,rfl⟩:=r
  cases (show T = "int" from ty)
  exact ⟨typeIs_int s i t,fun _ e => nomatch e⟩
 | ref p =>
  cases r
  rcases ty with ⟨rfl,xs,hq⟩ | ⟨rfl,xs,hk⟩ | ⟨rfl,hk⟩ | ⟨rfl,S,n,hk⟩
  ·
   obtain ⟨its,_,pl,_⟩:=I.list hq
   refine ⟨pl.isList.typeIs,fun a e => ?_⟩
   cases e
   obtain ⟨o,n,e,c,hd,_⟩:=pl
   exact ⟨o,e,hd⟩
  ·
   rcases hk with hk | ⟨o,its,n,hk,hc,hd,_⟩
   ·
    obtain ⟨_,its,r,o,ho,hc,n,hd,hn⟩:=hk.ok I.hok
    refine ⟨⟨o,ho,hc⟩,fun a e => ?_⟩
    cases e
    exact ⟨o,ho,hn⟩
   ·
    refine ⟨⟨o,I.kIn p o hk,hc⟩,fun a e => ?_⟩
    cases e
    exact ⟨o,I.kIn _ o hk,hd⟩
  ·
   have z : ∃ o,s.heap.get? p = some o /\ o.ExactDict:=by
    rcases hk with ⟨kvs,hk⟩ | ⟨kvs,hk⟩
    ·
     obtain ⟨_,_,_,_,o,_,_,e,ex,_⟩:=I.hok p _ hk
     exact ⟨o,e,ex⟩
    ·
     obtain ⟨_,_,_,_,o,_,_,e,ex,_⟩:=I.hok p _ hk
     exact ⟨o,e,ex⟩
   obtain ⟨o,e,ex⟩:=z
   refine ⟨⟨o,e,ex.1⟩,fun a e2 => ?_⟩
   cases e2
   exact ⟨o,e,ex.2.1⟩
  ·
   obtain ⟨o,_,_,_,e,ex,_⟩:=I.hok p _ hk
   refine ⟨⟨o,e,ex.1⟩,fun a e2 => ?_⟩
   cases e2
   exact ⟨o,e,ex.2.1⟩
 | _ => exact False.elim ty
def tBM (K : PySem.W.Frag) (T : String) (r : V -> List V -> Hp -> VK -> Prop) (to : TE) (t : TA) : TE:=fun σ H Q => to σ H fun x H1 => tyV K T x H1 /\ t σ H1 fun xs H2 => r x xs H2 Q
variable {o e : Expr} {es : List Expr} {to : TE} {t : TA} {name : Str} {apos cpos : Pos} {T id : String} {r : V -> List V -> Hp -> VK -> Prop}
theorem xq (pa : PlainAttrs T) (slot : Slot T name id) (hty : typeOf (.builtin id) = pure (.type "method_descriptor")) (hm : MtR X id r) (ho : PE X o to) (ha : PA X (e :: es) t)
  (hbase : attributeBase o name X.env (eval o X.env) = eval o X.env:=by rfl)
  (hfew : ((backTo cpos (starEach (e :: es) X.env)).all (fun x => !x.1) && (backToKw cpos (keywordEach [] X.env)).all (fun x => x.1.isSome)
   && decide ((e :: es).length + ([] : List Keyword).length + (if ([] : List Keyword).isEmpty then 0 else 1) < 30)) = true:=by rfl)
  (hline : (apos.endLine == cpos.line) = true:=by rfl) (hs : starEach (e :: es) X.env = (false,eval e X.env) :: starEach es X.env:=by rfl) (hplain : (backTo cpos (starEach es X.env)).any (·.1) = false:=by rfl) :
  PE X (.Call (.Attribute o name apos) (e :: es) [] cpos) (tBM X.K T r to t):=by
 intro pins s σ H Q I h
 refine wpAny_Call_method_late hbase hfew hline rfl (thn (ho pins s σ H _ I h) fun v s1 ⟨x,H1,I1,r1,ty,q1⟩ => ?_)
 obtain ⟨h1,h2⟩:=t9 I1 r1 ty
 refine ⟨T,id,pa,slot,hty,h1,h2,?_⟩
 have hA:=ha cpos pins s1 σ H1 _ I1 q1
 rw [hs] at hA ⊢
 refine Calls.callWith_builtin (by show (false || (backTo cpos (starEach es X.env)).any (·.1)) = false; rw [hplain] <;> rfl) (Calls.evalArgs_plain ?_)
 exact thn hA fun us s2 ⟨vs,H2,I2,r2,q2⟩ => hm pins s2 σ H2 x vs v us Q I2 r1 r2 q2
/- xs.append(e),list.index on a module's tuple .. are MtR facts of 06m -/
end
def MtM (X : Cx) (id : String) (r : V -> List V -> Hp -> VK -> Prop) : Prop :=
 ∀ (pins : List (Addr × Obj)) (s : Shared) (σ : St) (H : Hp) (x : V) (xs : List V) (v : Value) (us : List Value) (Q : VK),Inv X pins σ H s -> RelV x v -> Vals xs us -> r x xs H Q ->
  wpAny (model X.prog X.w) X.A (call (.builtin id) (v :: us)) (EP X pins σ Q) X.xe s
theorem Vals.one {x : V} {us : List Value} (r : Vals [x] us) : ∃ u,us = [u] /\ RelV x u:=vals1 r
theorem Vals.two {x y : V} {us : List Value} (r : Vals [x,y] us) : ∃ u v,us = [u,v] /\ RelV x u /\ RelV y v:=vals2 r
theorem Vals.zero : ∀ {us : List Value},Vals [] us -> us = []
 | _,.nil => rfl
theorem Vals.eraseIdx : ∀ {xs : List V} {us : List Value} (i : Nat),Vals xs us -> Vals (xs.eraseIdx i) (us.eraseIdx i)
 | _,_,_,.nil => .nil
 | _,_,0,.cons _ t => t
 | _,_,i + 1,.cons r t => .cons r (Vals.eraseIdx i t)
theorem fE {α : Type} : ∀ (l : List α) (i : Nat),(l.eraseIdx i).length <= l.length
 | [],_ => Nat.le_refl _
 | _ :: _,0 => Nat.le_succ _
 | _ :: r,i + 1 => Nat.succ_le_succ (fE r i)
section
variable {X : Cx} {pins : List (Addr × Obj)} {σ : St} {H : Hp} {s : Shared} {l b : Addr} {xs ys zs : List V}
theorem Inv.lset {its its' : List Value} {n : Nat} {f : Array Value -> Array Value} {t' : Nat} (I : Inv X pins σ H s) (hH : H l = some (.lst xs))
  (e : s.heap.get? l = some { cls:=.type "list",data:=.seq its.toArray n }) (hf : f its.toArray = its'.toArray) (hv : Vals ys its') (hz : ys.length <= sizeLine) :
  Inv X pins σ (upd H l (.lst ys)) { s with heap:=s.heap.update l (Obj.mapSeq f),toks:=t' }:=by
 have q:=PySem.IsL.update e f
 rw [hf] at q
 refine I.write (x:=l) (e:=l) (by rw [hH]; exact trivial) (.inl rfl) (fun b' u hb hu => (Heap.get?_update_other s.heap (Obj.mapSeq f) (Ne.symm hb)).trans hu) ⟨_,q⟩ ?_
 exact ⟨hz,its',_,hv,q⟩
theorem Inv.lnew {its : List Value} {t' : Nat} (I : Inv X pins σ H s) (hv : Vals ys its) (hz : ys.length <= sizeLine) :
  Inv X pins σ (upd H s.heap.objs.size (.lst ys)) { s with heap:=s.heap.push { cls:=.type "list",data:=.seq its.toArray },toks:=t' } :=
 I.laid (fun _ _ q => Heap.get?_push_of_some _ q) (Nat.le_refl _) ⟨hz,its,0,hv,Heap.get?_push_size _ rfl⟩
theorem Inv.fresh (I : Inv X pins σ H s) : H s.heap.objs.size = none:=I.hok.fresh (Nat.le_refl _)
theorem Inv.lstM (I : Inv X pins σ H s) (hH : H l = some (.lst xs)) : xs.length <= sizeLine /\ ∃ (its : List Value) (n : Nat),Vals xs its /\ xs.length = its.length /\ s.heap.get? l = some { cls:=.type "list",data:=.seq its.toArray n }:=by
 obtain ⟨z,its,n,r,e⟩:=I.hok l _ hH
 exact ⟨z,its,n,r,r.length,e⟩
end
section
variable {X : Cx}
def qh : V -> List V -> Hp -> VK -> Prop:=fun x vs H Q => ∃ l xs y,x = .ref l /\ vs = [y] /\ H l = some (.lst xs) /\ xs.length < sizeLine /\ Q .non (upd H l (.lst (xs ++ [y])))
theorem lE : MtM X "list.append" qh:=by
 intro pins s σ H x vs v us Q I rx rv h
 obtain ⟨l,xs,y,rfl,rfl,hH,hz,q⟩:=h
 cases rx
 obtain ⟨u,rfl,ru⟩:=rv.one
 obtain ⟨z,its,n,r,hl,e⟩:=I.lstM hH
 refine call_meets F.slot_list_append ⟨_,e,rfl⟩ F.entry_list_append (F.args_list_append_2 _ _) (PySem.list_append l its.toArray n u (by rw [List.size_toArray]; omega)) ⟨e,?_⟩
 refine ⟨.non,_,I.lset (its':=its ++ [u]) hH e (by simp) (r.append (.cons ru .nil)) ?_,rfl,q⟩
 rw [List.length_append,List.length_singleton]
 omega
def ua : V -> List V -> Hp -> VK -> Prop:=fun x vs H Q => ∃ l xs i k y,x = .ref l /\ vs = [.int i] /\ H l = some (.lst xs) /\ -(2 ^ 63) <= i /\ i < 2 ^ 63 /\ seqIndex? i xs.length = some k /\ xs[k]? = some y /\ Q y (upd H l (.lst (xs.eraseIdx k)))
theorem mB : MtM X "list.pop" ua:=by
 intro pins s σ H x vs v us Q I rx rv h
 obtain ⟨l,xs,i,k,y,rfl,rfl,hH,h1,h2,hk,hy,q⟩:=h
 cases rx
 obtain ⟨u,rfl,ru⟩:=rv.one
 obtain ⟨t,rfl⟩:=ru
 obtain ⟨z,its,n,r,hl,e⟩:=I.lstM hH
 obtain ⟨w,hw,rw'⟩:=r.get hy
 refine call_meets F.slot_list_pop ⟨_,e,rfl⟩ F.entry_list_pop (F.args_list_pop_2 _ _)
  (MeetsSeq.list_pop_at l its.toArray n i t k w (fitsIndex_both h1 h2) (by rw [List.size_toArray,<- hl]; exact hk) (by rw [<- Array.getElem?_toList]; exact hw) (by rw [List.size_toArray]; omega)) ⟨e,?_⟩
 refine ⟨y,_,I.lset (its':=its.eraseIdx k) hH e ?_ (r.eraseIdx k) ?_,rw',q⟩
 ·
  show its.toArray.eraseIdxIfInBounds k = (its.eraseIdx k).toArray
  rw [List.eraseIdxIfInBounds_toArray]
 ·
  have:=fE xs k
  omega
def zJ : R2:=fun x y H Q => ∃ l b xs zs,x = .ref l /\ y = .ref b /\ H l = some (.lst xs) /\ H b = some (.lst zs) /\ xs.length + zs.length <= sizeLine /\ ∀ p,H p = none -> Q (.ref p) (upd H p (.lst (xs ++ zs)))
theorem op_cat : OpR X (binaryOp .Add) zJ:=by
 intro pins s σ H x y v u Q I rx ry h
 obtain ⟨l,b,xs,zs,rfl,rfl,hH,hB,hz,q⟩:=h
 cases rx
 cases ry
 obtain ⟨z,its,n,r,hl,e⟩:=I.lstM hH
 obtain ⟨z2,its2,n2,r2,hl2,e2⟩:=I.lstM hB
 refine PySem.P.add_list e e2 ?_ (by rw [List.size_toArray,List.size_toArray]; omega)
 have ea : its.toArray ++ its2.toArray = (its ++ its2).toArray:=by simp
 rw [ea]
 exact ⟨.ref _,_,I.lnew (t':=s.toks) (r.append r2) (by rw [List.length_append]; omega),rfl,q _ I.fresh⟩
end
section
variable {prog : Program} {w : World} {A : Around} {E : Value -> Shared -> Prop} {s : Shared}
set_option maxRecDepth 100000 in
end
section
variable {X : Cx}
end
section
variable {κ : Type} [DecidableEq κ]
noncomputable def cV (kvs : List (κ × V)) (k : κ) : Option V:=(kvs.find? fun kv => decide (kv.1 = k)).map (·.2)
noncomputable def putK (kvs : List (κ × V)) (k : κ) (v : V) : List (κ × V) :=
 if (kvs.any fun kv => decide (kv.1 = k)) = true then kvs.map (fun kv => if kv.1 = k then (kv.1,v) else kv) else kvs ++ [(k,v)]
noncomputable def sm (kvs : List (κ × V)) (k : κ) : List (κ × V):=kvs.filter fun kv => decide (kv.1 ≠ k)
theorem cn {p : κ × V} {r : List (κ × V)} {k : κ} (e : p.1 = k) : cV (p :: r) k = some p.2:=by simp [cV,List.find?_cons,e]
theorem cq {p : κ × V} {r : List (κ × V)} {k : κ} (e : ¬ p.1 = k) : cV (p :: r) k = cV r k:=by simp [cV,List.find?_cons,e]
theorem iB (k : κ) : ∀ kvs : List (κ × V),(kvs.any fun kv => decide (kv.1 = k)) = (cV kvs k).isSome
 | [] => rfl
 | p :: r => by
  rw [List.any_cons]
  by_cases e : p.1 = k
  ·
   simp only [cn e,decide_eq_true e,Bool.true_or,Option.isSome_some]
  ·
   rw [cq e,decide_eq_false e,Bool.false_or]; exact iB k r
theorem cI (kvs : List (κ × V)) (k : κ) (v : V) : (putK kvs k v).length <= kvs.length + 1:=by
 unfold putK
 split
 ·
  rw [List.length_map]; omega
 ·
  rw [List.length_append,List.length_cons,List.length_nil]; omega
theorem RelO.isSome_eq {o : Option V} {u : Option Value} (r : RelO o u) : o.isSome = u.isSome:=by
 cases o with
 | none => cases u with
  | none => rfl
  | some _ => exact (show False from r).elim
 | some _ => cases u with
  | none => exact (show False from r).elim
  | some _ => rfl
theorem RelO.getD {o : Option V} {u : Option Value} {d : V} {d' : Value} (r : RelO o u) (rd : RelV d d') : RelV (o.getD d) (u.getD d'):=by
 cases o with
 | none => cases u with
  | none => exact rd
  | some _ => exact (show False from r).elim
 | some _ => cases u with
  | none => exact (show False from r).elim
  | some _ => exact r
theorem KV.val {kvs : List (κ × V)} {vs : List (κ × Value)} (r : KV kvs vs) (k : κ) : RelO (cV kvs k) (valueAt vs k):=by
 unfold KV at r
 induction r with
 | nil => exact True.intro
 | @cons p q ps qs h t ih =>
  obtain ⟨h1,h2⟩:=h
  by_cases e : p.1 = k
  ·
   have e' : q.1 = k:=h1.symm.trans e
   have b : valueAt (q :: qs) k = some q.2:=by simp [valueAt,List.find?_cons,e']
   rw [cn e,b]; exact h2
  ·
   have e' : ¬ q.1 = k:=fun z => e (h1.trans z)
   have b : valueAt (q :: qs) k = valueAt qs k:=by simp [valueAt,List.find?_cons,e']
   rw [cq e,b]; exact ih
theorem KV.any {kvs : List (κ × V)} {vs : List (κ × Value)} (r : KV kvs vs) (k : κ) : (kvs.any fun kv => decide (kv.1 = k)) = vs.any fun kv => decide (kv.1 = k):=by
 unfold KV at r
 induction r with
 | nil => rfl
 | cons h t ih => rw [List.any_cons,List.any_cons,ih,h.1]
theorem KV.repl {kvs : List (κ × V)} {vs : List (κ × Value)} (r : KV kvs vs) (k : κ) {y : V} {u : Value} (ry : RelV y u) :
  KV (kvs.map fun kv => if kv.1 = k then (kv.1,y) else kv) (vs.map fun kv => if kv.1 = k then (kv.1,u) else kv):=by
 unfold KV at r ⊢
 induction r with
 | nil => exact .nil
 | @cons p q ps qs h t ih =>
  rw [List.map_cons,List.map_cons]
  refine .cons ?_ ih
  obtain ⟨h1,h2⟩:=h
  by_cases e : p.1 = k
  ·
   rw [if_pos e,if_pos (h1.symm.trans e)]; exact ⟨h1,ry⟩
  ·
   rw [if_neg e,if_neg (fun z => e (h1.trans z))]; exact ⟨h1,h2⟩
theorem KV.put {kvs : List (κ × V)} {vs : List (κ × Value)} (r : KV kvs vs) (k : κ) {y : V} {u : Value} (ry : RelV y u) : KV (putK kvs k y) (stored vs k u):=by
 unfold putK stored
 rw [r.any k]
 by_cases e : (vs.any fun kv => decide (kv.1 = k)) = true
 ·
  rw [if_pos e,if_pos e]; exact r.repl k ry
 ·
  rw [if_neg e,if_neg e]; exact Paired.snoc r ⟨rfl,ry⟩
theorem KV.drop {kvs : List (κ × V)} {vs : List (κ × Value)} (r : KV kvs vs) (k : κ) : KV (sm kvs k) (without vs k):=by
 unfold KV at r ⊢
 unfold sm without
 induction r with
 | nil => exact .nil
 | @cons p q ps qs h t ih =>
  obtain ⟨h1,h2⟩:=h
  rw [List.filter_cons,List.filter_cons]
  by_cases e : p.1 = k
  ·
   have a : ¬ decide (p.1 ≠ k) = true:=by simp [e]
   have b : ¬ decide (q.1 ≠ k) = true:=by simp [h1.symm.trans e]
   rw [if_neg a,if_neg b]; exact ih
  ·
   have e' : ¬ q.1 = k:=fun z => e (h1.trans z)
   have a : decide (p.1 ≠ k) = true:=by simp [e]
   have b : decide (q.1 ≠ k) = true:=by simp [e']
   rw [if_pos a,if_pos b]; exact .cons ⟨h1,h2⟩ ih
theorem KV.keys {kvs : List (κ × V)} {vs : List (κ × Value)} (r : KV kvs vs) : kvs.map (·.1) = vs.map (·.1):=by
 unfold KV at r
 induction r with
 | nil => rfl
 | cons h t ih => rw [List.map_cons,List.map_cons,ih,h.1]
theorem KV.length {kvs : List (κ × V)} {vs : List (κ × Value)} (r : KV kvs vs) : kvs.length = vs.length:=Paired.length r
end
theorem fF {P : Program} {w : World} {k : Key} {u : Value} (r : RelV (kV k) u) : (a4 P w).is k u = true:=by
 cases k with
 | inl i => obtain ⟨t,e⟩:=(show ∃ t,u = Value.int i t from r); subst e; exact iu P w i t
 | inr x => obtain ⟨t,e⟩:=(show ∃ t,u = Value.str x t from r); subst e; exact iw P w x t
theorem fG {P : Program} {w : World} : ∀ {ks : List Key} {us : List Value},Vals (ks.map kV) us -> ItemsAre (a4 P w) ks us
 | [],_,r => by rw [List.map_nil] at r; cases r; exact .nil
 | k :: ks,_,r => by
  rw [List.map_cons] at r
  cases r with
  | cons h t => exact .cons (fF h) (fG t)
abbrev KT (H : Hp) : List (List Key × V) -> List (List Key × Addr × Value) -> Prop:=Paired fun p q => p.1 = q.1 /\ H q.2.1 = some (.tup (p.1.map kV)) /\ RelV p.2 q.2.2
theorem KT.val {H : Hp} {kvs : List (List Key × V)} {xs : List (List Key × Addr × Value)} (r : KT H kvs xs) (k : List Key) : RelO (cV kvs k) ((atKey xs k).map (·.2)):=by
 induction r with
 | nil => exact True.intro
 | @cons p q ps qs h t ih =>
  obtain ⟨h1,_,h2⟩:=h
  by_cases e : p.1 = k
  ·
   have e' : q.1 = k:=h1.symm.trans e
   have b : atKey (q :: qs) k = some q.2:=by simp [atKey,List.find?_cons,e']
   rw [cn e,b]; exact h2
  ·
   have e' : ¬ q.1 = k:=fun z => e (h1.trans z)
   have b : atKey (q :: qs) k = atKey qs k:=by simp [atKey,List.find?_cons,e']
   rw [cq e,b]; exact ih
theorem KT.repl {H : Hp} {kvs : List (List Key × V)} {xs : List (List Key × Addr × Value)} (r : KT H kvs xs) (k : List Key) {y : V} {u : Value} (ry : RelV y u) :
  KT H (kvs.map fun kv => if kv.1 = k then (kv.1,y) else kv) (xs.map (putAt k u)):=by
 induction r with
 | nil => exact .nil
 | @cons p q ps qs h t ih =>
  rw [List.map_cons,List.map_cons]
  refine .cons ?_ ih
  obtain ⟨h1,h2,h3⟩:=h
  unfold putAt
  by_cases e : p.1 = k
  ·
   rw [if_pos e,if_pos (h1.symm.trans e)]; exact ⟨h1,h2,ry⟩
  ·
   rw [if_neg e,if_neg (fun z => e (h1.trans z))]; exact ⟨h1,h2,h3⟩
theorem KT.put {H : Hp} {kvs : List (List Key × V)} {xs : List (List Key × Addr × Value)} (r : KT H kvs xs) (k : List Key) {b : Addr} {y : V} {u : Value} (hb : H b = some (.tup (k.map kV))) (ry : RelV y u) :
  KT H (putK kvs k y) (storedH xs k b u):=by
 have e : (kvs.any fun kv => decide (kv.1 = k)) = (atKey xs k).isSome:=by
  rw [iB,(r.val k).isSome_eq,Option.isSome_map]
 unfold putK storedH
 rw [e]
 by_cases q : (atKey xs k).isSome = true
 ·
  rw [if_pos q,if_pos q]; exact r.repl k ry
 ·
  rw [if_neg q,if_neg q]; exact Paired.snoc r ⟨rfl,hb,ry⟩
theorem KT.keeps {H H' : Hp} {kvs : List (List Key × V)} {xs : List (List Key × Addr × Value)} (r : KT H kvs xs) (ht : ∀ b ys,H b = some (.tup ys) -> H' b = some (.tup ys)) : KT H' kvs xs :=
 Paired.mapP r fun _ _ z => ⟨z.1,ht _ _ z.2.1,z.2.2⟩
section
variable {P : Program} {w : World} {H : Hp} {h : Heap} {a : Addr}
theorem so {u : HO} (ok : HOk P w H h) (e : Rd H a u) : ObjOk P w H h a u:=e.ok ok
theorem fH {kvs : List (Key × V)} (ok : HOk P w H h) (e : Rd H a (.dK kvs)) : kvs.length <= sizeLine /\ (a == sysModules) = false /\ ∃ vs,KV kvs vs /\ h.DictOf (a4 P w) a vs :=
 show ObjOk P w H h a (.dK kvs) from so ok e
theorem mC {kvs : List (Key × V)} (ok : HOk P w H h) (e : H a = some (.dK kvs)) : kvs.length <= sizeLine /\ (a == sysModules) = false /\ ∃ vs,KV kvs vs /\ h.DictOf (a4 P w) a vs:=fH ok (.inl e)
theorem eG {ks : List Key} (ok : HOk P w H h) (e : H a = some (.tup (ks.map kV))) : (tupleKind (a4 P w)).is h ks a:=by
 obtain ⟨_,its,r,o,h1,h2,n,h3,_⟩:=(show ObjOk P w H h a (.tup (ks.map kV)) from ok a _ e)
 exact ⟨o,its.toArray,n,h1,h2,h3,by simpa using fG r⟩
theorem iC {kvs : List (List Key × V)} (ok : HOk P w H h) (e : Rd H a (.dT kvs)) : kvs.length <= sizeLine /\ (a == sysModules) = false /\
  ∃ xs,KT H kvs xs /\ h.DictOfH (tupleKind (a4 P w)) a xs:=by
 obtain ⟨z,y,xs,r,o,es,ep,h1,h2,h3,h4,h5⟩:=(show ObjOk P w H h a (.dT kvs) from so ok e)
 refine ⟨z,y,xs,r,o,es,ep,h1,h2,h3,h4,fun x hx => ?_,h5⟩
 have all : ∀ {l : List (List Key × V)} {m : List (List Key × Addr × Value)},KT H l m -> ∀ x ∈ m,(tupleKind (a4 P w)).is h x.1 x.2.1:=by
  intro l m q
  induction q with
  | nil => intro x hx; exact nomatch hx
  | @cons p q ps qs hq t ih =>
   intro x hx
   rcases List.mem_cons.mp hx with e | hx
   ·
    subst e
    exact eG ok (by rw [<- hq.1]; exact hq.2.1)
   ·
    exact ih x hx
 exact all r x hx
theorem xt {kvs : List (List Key × V)} (ok : HOk P w H h) (e : H a = some (.dT kvs)) : kvs.length <= sizeLine /\ (a == sysModules) = false /\
  ∃ xs,KT H kvs xs /\ h.DictOfH (tupleKind (a4 P w)) a xs:=iC ok (.inl e)
end
def DGet (H : Hp) (a : Addr) (y : V) (r : Option V) : Prop :=
 (∃ kvs k,Rd H a (.dK kvs) /\ y = kV k /\ r = cV kvs k) \/ ∃ kvs k b,Rd H a (.dT kvs) /\ y = .ref b /\ H b = some (.tup (k.map kV)) /\ r = cV kvs k
def DPut (H : Hp) (a : Addr) (y v : V) (H' : Hp) : Prop :=
 (∃ kvs k,H a = some (.dK kvs) /\ y = kV k /\ kvs.length < sizeLine /\ H' = upd H a (.dK (putK kvs k v))) \/
 ∃ kvs k b,H a = some (.dT kvs) /\ y = .ref b /\ H b = some (.tup (k.map kV)) /\ kvs.length < sizeLine /\ H' = upd H a (.dT (putK kvs k v))
theorem DGet.k {H : Hp} {a : Addr} {kvs : List (Key × V)} {k : Key} (e : H a = some (.dK kvs)) : DGet H a (kV k) (cV kvs k):=.inl ⟨kvs,k,.inl e,rfl,rfl⟩
theorem DGet.t {H : Hp} {a b : Addr} {kvs : List (List Key × V)} {k : List Key} (e : H a = some (.dT kvs)) (eb : H b = some (.tup (k.map kV))) : DGet H a (.ref b) (cV kvs k):=.inr ⟨kvs,k,b,.inl e,rfl,eb,rfl⟩
theorem DPut.k {H : Hp} {a : Addr} {kvs : List (Key × V)} {k : Key} {v : V} (e : H a = some (.dK kvs)) (hl : kvs.length < sizeLine) : DPut H a (kV k) v (upd H a (.dK (putK kvs k v))):=.inl ⟨kvs,k,e,rfl,hl,rfl⟩
theorem DPut.t {H : Hp} {a b : Addr} {kvs : List (List Key × V)} {k : List Key} {v : V} (e : H a = some (.dT kvs)) (eb : H b = some (.tup (k.map kV))) (hl : kvs.length < sizeLine) :
  DPut H a (.ref b) v (upd H a (.dT (putK kvs k v))):=.inr ⟨kvs,k,b,e,rfl,eb,hl,rfl⟩
section
variable {X : Cx} {pins : List (Addr × Obj)} {σ : St} {H : Hp} {s : Shared} {a : Addr} {y v : V} {u r : Value} {o : Option V} {A : Around} {E : Value -> Shared -> Prop}
theorem Inv.big (I : Inv X pins σ H s) : sysModules < s.heap.objs.size:=by
 have h : mainGlobals < s.heap.objs.size:=(I.mod.glob.keeps I.bk).lt
 exact Nat.lt_trans (by decide) h
theorem lF {Q : Value -> Shared -> Prop} (hu : A.units + 1 < cLine) (I : Inv X pins σ H s) (g : DGet H a y (some v)) (ry : RelV y u) (h : ∀ w' s',Inv X pins σ H s' -> RelV v w' -> Q w' s') :
  wpAny (model X.prog X.w) A (getItem (.ref a) u) Q E s:=by
 rcases g with ⟨kvs,k,e,ey,l⟩ | ⟨kvs,k,b,e,ey,eb,l⟩
 ·
  subst ey
  obtain ⟨z,hd,vs,rel,dd⟩:=fH I.hok e
  obtain ⟨w',hw,rw'⟩:=RelO.some_of (v:=v) (o:=valueAt vs k) (by rw [l]; exact rel.val k)
  exact wpAny_getItem_of (fF ry) dd.mapOf hw (h w' _ (I.tok _) rw')
 ·
  subst ey
  cases (show u = Value.ref b from ry)
  obtain ⟨z,hd,xs,rel,dd⟩:=iC I.hok e
  obtain ⟨w',hw,rw'⟩:=RelO.some_of (v:=v) (o:=(atKey xs k).map (·.2)) (by rw [l]; exact rel.val k)
  obtain ⟨p,hp,hp2⟩:=Option.map_eq_some_iff.mp hw
  refine wpAny_getItem_heap (tupleKind_room_in1 hu) (eG I.hok eb) dd hp ?_
  rw [hp2]
  exact h w' _ (I.tok _) rw'
theorem zK {Q : Value -> Shared -> Prop} (hu : A.units + 1 < cLine) (I : Inv X pins σ H s) (g : DGet H a y o) (ry : RelV y u) (h : ∀ s',Inv X pins σ H s' -> Q (.bool o.isSome) s') :
  wpAny (model X.prog X.w) A (compareOp .In u (.ref a)) Q E s:=by
 rcases g with ⟨kvs,k,e,ey,l⟩ | ⟨kvs,k,b,e,ey,eb,l⟩
 ·
  subst ey
  obtain ⟨z,hd,vs,rel,dd⟩:=fH I.hok e
  refine wpAny_in_of (fF ry) hd dd.mapOf ?_
  rw [<- (rel.val k).isSome_eq,<- l]
  exact h _ (I.tok _)
 ·
  subst ey
  cases (show u = Value.ref b from ry)
  obtain ⟨z,hd,xs,rel,dd⟩:=iC I.hok e
  refine wpAny_in_heap (tupleKind_room_in1 hu) (eG I.hok eb) hd dd ?_
  have q:=(rel.val k).isSome_eq
  rw [Option.isSome_map] at q
  rw [<- q,<- l]
  exact h _ (I.tok _)
theorem qi {Q : Value -> Shared -> Prop} (hu : A.units + 1 < cLine) (I : Inv X pins σ H s) (g : DGet H a y o) (ry : RelV y u) (h : ∀ s',Inv X pins σ H s' -> Q (.bool (!o.isSome)) s') :
  wpAny (model X.prog X.w) A (compareOp .NotIn u (.ref a)) Q E s:=by
 rcases g with ⟨kvs,k,e,ey,l⟩ | ⟨kvs,k,b,e,ey,eb,l⟩
 ·
  subst ey
  obtain ⟨z,hd,vs,rel,dd⟩:=fH I.hok e
  refine wpAny_notIn_of (fF ry) hd dd.mapOf ?_
  rw [<- (rel.val k).isSome_eq,<- l]
  exact h _ (I.tok _)
 ·
  subst ey
  cases (show u = Value.ref b from ry)
  obtain ⟨z,hd,xs,rel,dd⟩:=iC I.hok e
  refine wpAny_notIn_heap (tupleKind_room_in1 hu) (eG I.hok eb) hd dd ?_
  have q:=(rel.val k).isSome_eq
  rw [Option.isSome_map] at q
  rw [<- q,<- l]
  exact h _ (I.tok _)
theorem gD {h' : Heap} {t' : Nat} {ob : HO} (I : Inv X pins σ H s) (mu : Mut (H a)) (hs : Heap.SameBut a s.heap h') (he : ∃ q,h'.get? a = some q) (new : ObjOk X.prog X.w (upd H a ob) h' a ob) :
  Inv X pins σ (upd H a ob) { s with heap:=h',toks:=t' } :=
 I.write (x:=a) (e:=a) mu (.inl rfl) (fun b q hb z => (hs.2 b hb).trans z) he new
theorem mD {P : Program} {w : World} {H' : Hp} {h' : Heap} {kvs : List (Key × V)} {vs : List (Key × Value)} (z : kvs.length <= sizeLine) (hd : (a == sysModules) = false) (rel : KV kvs vs) (dd : h'.DictOf (a4 P w) a vs) :
  ObjOk P w H' h' a (.dK kvs):=⟨z,hd,vs,rel,dd⟩
theorem lG {H' : Hp} {Q : Unit -> Shared -> Prop} (hu : A.units + 1 < cLine) (I : Inv X pins σ H s) (g : DPut H a y v H') (ry : RelV y u) (rv : RelV v r) (h : ∀ s',Inv X pins σ H' s' -> Q () s') :
  wpAny (model X.prog X.w) A (setItem (.ref a) u r) Q E s:=by
 rcases g with ⟨kvs,k,e,ey,l,eH⟩ | ⟨kvs,k,b,e,ey,eb,l,eH⟩
 ·
  subst ey eH
  obtain ⟨z,hd,vs,rel,dd⟩:=mC I.hok e
  have hz : vs.length <= sizeLine:=by rw [<- rel.length]; exact z
  have hl : (putK kvs k v).length <= sizeLine:=by have:=cI kvs k v; omega
  refine wpAny_setItem_pairs (hsz:=hz) (fF ry) dd fun h' dd' hs => h _ ?_
  have he : ∃ q,h'.get? a = some q:=let ⟨q,_,_,hq,_⟩:=dd'; ⟨q,hq⟩
  exact gD I (by rw [e]; exact True.intro) hs he (mD hl hd (rel.put k rv) dd')
 ·
  subst ey eH
  cases (show u = Value.ref b from ry)
  obtain ⟨z,hd,xs,rel,dd⟩:=xt I.hok e
  have hz : xs.length <= sizeLine:=by rw [<- Paired.length rel]; exact z
  have hl : (putK kvs k v).length <= sizeLine:=by have:=cI kvs k v; omega
  refine wpAny_setItem_heap (hsz:=hz) (tupleKind_room_in1 hu) (eG I.hok eb) dd fun h' dd' hs => h _ ?_
  obtain ⟨q,es,ep,hq,h2,h3,h4,_,h5⟩:=dd'
  refine gD I (by rw [e]; exact True.intro) hs ⟨q,hq⟩ ⟨hl,hd,_,(rel.put k eb rv).keeps fun c ys ec => ?_,q,es,ep,hq,h2,h3,h4,h5⟩
  rw [aq (wH ec e (fun z => nomatch z))]
  exact ec
end
section
variable {X : Cx} {pins : List (Addr × Obj)} {σ : St} {H : Hp} {s : Shared} {a : Addr} {kvs : List (Key × V)} {k : Key} {u : Value} {A : Around} {E : Value -> Shared -> Prop}
theorem xu {Q : Value -> Shared -> Prop} (I : Inv X pins σ H s) (e : Rd H a (.dK kvs)) (h : ∀ t s',Inv X pins σ H s' -> Q (.int kvs.length t) s') : wpAny (model X.prog X.w) A (call (.builtin "len") [.ref a]) Q E s:=by
 obtain ⟨z,hd,vs,rel,dd⟩:=fH I.hok e
 refine call_len_dict hd dd (by rw [<- rel.length]; rw [sizeLine_eq] at z; omega) ?_
 rw [<- rel.length]
 exact h _ _ (I.tok _)
end
def qj (i : Expr) : Prop:=∀ ov iv,subscripted i false ov iv = operate [ov,iv] (getItem ov iv)
theorem qk {prog : Program} {w : World} {A : Around} {E : Value -> Shared -> Prop} {s : Shared} {env : Env} {value slice : Expr} {pos : Pos} {T id : String} {Q : Value -> Shared -> Prop}
  (hl : typeLookup (.type T) "__getitem__" = pure (some (.builtin id))) (hs : qj slice)
  (h : wpAny (model prog w) A (eval value env) (fun o s₁ => wpAny (model prog w) A (eval slice env) (fun i s₂ => s₂.TypeIs o T /\ wpAny (model prog w) A (getItem o i) Q E s₂) E s₁) E s) :
  wpAny (model prog w) A (eval (.Subscript value slice pos) env) Q E s:=by
 refine Subscript_ (wpAny_mono h (fun o s₁ h₁ => wpAny_mono h₁ (fun i s₂ h₂ => ?_) fun _ _ x => x) fun _ _ x => x)
 obtain ⟨hT,h₂⟩:=h₂
 unfold subscriptTail
 refine wpAny_bind ?_
 rw [getitemInPython_of_ne hT.not_modules]
 refine wpAny_bind (wpAny_specialOf hT hl ?_)
 have fin : wpAny (model prog w) A (subscripted slice false o i) (fun r s₃ => wpAny (model prog w) A (letTemporaryGo value o r >>= fun _ => pure r) Q E s₃) E s₂:=by
  rw [hs o i]
  exact wpAny_operating (wpAny_mono h₂ (fun r s₃ h₃ => wpAny_bind (wpAny_letTemporaryGo (wpAny_pure h₃))) fun _ _ x => x)
 first
  | exact wpAny_pure (wpAny_bind fin)
  | exact wpAny_bind (wpAny_pure (wpAny_bind fin))
  | exact wpAny_bind fin
theorem iD {X : Cx} {pins : List (Addr × Obj)} {σ : St} {H : Hp} {s : Shared} {a : Addr} {y : V} {o : Option V} (I : Inv X pins σ H s) (g : DGet H a y o) : s.TypeIs (.ref a) "dict":=by
 rcases g with ⟨kvs,k,e,_,_⟩ | ⟨kvs,k,b,e,_,_,_⟩
 ·
  obtain ⟨_,_,vs,_,dd⟩:=fH I.hok e
  exact dd.typeIs
 ·
  obtain ⟨_,_,xs,_,dd⟩:=iC I.hok e
  exact dd.typeIs
def xv (td ty : TE) : TE:=fun σ H Q => td σ H fun x H1 => ty σ H1 fun y H2 => ∃ a v,x = .ref a /\ DGet H2 a y (some v) /\ Q v H2
def zL (ty td : TE) : TE:=fun σ H Q => ty σ H fun y H1 => td σ H1 fun x H2 => ∃ a o,x = .ref a /\ DGet H2 a y o /\ Q (.bl o.isSome) H2
def ql (ty td : TE) : TE:=fun σ H Q => ty σ H fun y H1 => td σ H1 fun x H2 => ∃ a o,x = .ref a /\ DGet H2 a y o /\ Q (.bl (!o.isSome)) H2
def xw (td ty tv : TE) : TS:=fun D σ H => tv σ H fun v H1 => td σ H1 fun x H2 => ty σ H2 fun y H3 => ∃ a H4,x = .ref a /\ DPut H3 a y v H4 /\ D.nx σ H4
section
variable {X : Cx} {o i e value : Expr} {pos pos' tpos : Pos} {td ty tv : TE}
theorem kz (hu : X.A.units + 1 < cLine) (ho : PE X o td) (hi : PE X i ty) (hs : qj i) : PE X (.Subscript o i pos) (xv td ty):=by
 intro pins s σ H Q I h
 refine qk PySem.F.slot_dict_getitem.lookup hs (thn (ho pins s σ H _ I h) fun u s1 ⟨x,H1,I1,rx,q1⟩ => thn (hi pins s1 σ H1 _ I1 q1) fun iv s2 ⟨y,H2,I2,ry,a,v,ex,g,q2⟩ => ?_)
 subst ex
 obtain rfl : u = Value.ref a:=rx
 exact ⟨iD I2 g,lF hu I2 g ry fun w' s3 I3 rw' => ⟨v,H2,I3,rw',q2⟩⟩
theorem ub (hu : X.A.units + 1 < cLine) (hi : PE X i ty) (ho : PE X o td) : PC X .In i o (zL ty td):=by
 intro pins s σ H Q I h
 refine thn (hi pins s σ H _ I h) fun iv s1 ⟨y,H1,I1,ry,q1⟩ => thn (ho pins s1 σ H1 _ I1 q1) fun u s2 ⟨x,H2,I2,rx,a,ov,ex,g,q2⟩ => ?_
 subst ex
 obtain rfl : u = Value.ref a:=rx
 exact zK hu I2 g ry fun s3 I3 => ⟨.bl ov.isSome,H2,I3,rfl,q2⟩
theorem lH (hu : X.A.units + 1 < cLine) (hi : PE X i ty) (ho : PE X o td) : PC X .NotIn i o (ql ty td):=by
 intro pins s σ H Q I h
 refine thn (hi pins s σ H _ I h) fun iv s1 ⟨y,H1,I1,ry,q1⟩ => thn (ho pins s1 σ H1 _ I1 q1) fun u s2 ⟨x,H2,I2,rx,a,ov,ex,g,q2⟩ => ?_
 subst ex
 obtain rfl : u = Value.ref a:=rx
 exact qi hu I2 g ry fun s3 I3 => ⟨.bl (!ov.isSome),H2,I3,rfl,q2⟩
theorem kA (hu : X.A.units + 1 < cLine) (ho : PE X o td) (hi : PE X i ty) (hv : PE X value tv) (hs : swapsWith value (some (.Subscript o i pos')) pos.line X.env = pure false) :
  PS X (.Assign [.Subscript o i pos'] value pos) (xw td ty tv):=by
 intro pins s σ H D I h
 refine wpAny_Assign_Subscript (thn (hv pins s σ H _ I h) fun r s1 ⟨v,H1,I1,rv,q1⟩ => thn (ho pins s1 σ H1 _ I1 q1) fun u s2 ⟨x,H2,I2,rx,q2⟩ => thn (hi pins s2 σ H2 _ I2 q2) fun iv s3 ⟨y,H3,I3,ry,a,H4,ex,g,q3⟩ => ?_) hs
 subst ex
 obtain rfl : u = Value.ref a:=rx
 exact lG hu I3 g ry rv fun s4 I4 => ⟨σ,H4,I4,q3⟩
end
theorem iE {P : Program} {w : World} {H : Hp} (h : Heap) (hb : sysModules < h.objs.size) : ObjOk P w H (h.push { cls:=.type "dict",data:=.dict #[] }) h.objs.size (.dK []) :=
 ⟨Nat.zero_le _,beq_eq_false_iff_ne.mpr (Ne.symm (Nat.ne_of_lt hb)),[],.nil,Heap.DictOf.new h⟩
theorem mE {P : Program} {w : World} {H : Hp} (h : Heap) (hb : sysModules < h.objs.size) : ObjOk P w H (h.push { cls:=.type "dict",data:=.dict #[] }) h.objs.size (.dT []) :=
 ⟨Nat.zero_le _,beq_eq_false_iff_ne.mpr (Ne.symm (Nat.ne_of_lt hb)),[],.nil,_,#[],0,Heap.get?_push_size _ rfl,⟨rfl,rfl,rfl⟩,rfl,rfl,List.nodup_nil⟩
def ud : TE:=fun _ H Q => ∀ p,H p = none -> Q (.ref p) (upd H p (.dK []))
def ue : TE:=fun _ H Q => ∀ p,H p = none -> Q (.ref p) (upd H p (.dT []))
section
variable {X : Cx} {pos : Pos}
theorem mF : PE X (.Dict [] [] pos) ud:=fun pins s σ H Q I h =>
 wpAny_Dict_empty ⟨.ref s.heap.objs.size,_,I.laid (a:=s.heap.objs.size) (o:=.dK []) (t':=s.toks) (fun _ _ q => Heap.get?_push_of_some _ q) (Nat.le_refl _) (iE s.heap I.big),rfl,h _ (I.hok.fresh (Nat.le_refl _))⟩
theorem mG : PE X (.Dict [] [] pos) ue:=fun pins s σ H Q I h =>
 wpAny_Dict_empty ⟨.ref s.heap.objs.size,_,I.laid (a:=s.heap.objs.size) (o:=.dT []) (t':=s.toks) (fun _ _ q => Heap.get?_push_of_some _ q) (Nat.le_refl _) (mE s.heap I.big),rfl,h _ (I.hok.fresh (Nat.le_refl _))⟩
end
def jx : List (TE × TE) -> St -> Hp -> (List (V × V) -> Hp -> Prop) -> Prop
 | [],_,H,Q => Q [] H
 | (tk,tv) :: r,σ,H,Q => tk σ H fun x H1 => tv σ H1 fun y H2 => jx r σ H2 fun ps H3 => Q ((x,y) :: ps) H3
abbrev VV : List (V × V) -> List (Value × Value) -> Prop:=Paired fun p q => RelV p.1 q.1 /\ RelV p.2 q.2
def PPs (X : Cx) (pos : Pos) (keys : List (Option Expr)) (values : List Expr) (trs : List (TE × TE)) : Prop :=
 ∀ (pins : List (Addr × Obj)) (s : Shared) (σ : St) (H : Hp) (Q : List (V × V) -> Hp -> Prop),Inv X pins σ H s -> jx trs σ H Q ->
  wpAny (model X.prog X.w) X.A (evalPairs (pairTrees keys values X.env pos)) (fun vs s' => ∃ ps H',Inv X pins σ H' s' /\ VV ps vs /\ Q ps H') X.xe s
theorem qm {X : Cx} {pos : Pos} : PPs X pos [] [] []:=fun pins s σ H Q I h => pairTrees_nil_walk ⟨[],H,I,.nil,h⟩
theorem mH {X : Cx} {pos : Pos} {k v : Expr} {ks : List (Option Expr)} {vs : List Expr} {tk tv : TE} {trs : List (TE × TE)} (hk : PE X k tk) (hv : PE X v tv) (hr : PPs X pos ks vs trs) :
  PPs X pos (some k :: ks) (v :: vs) ((tk,tv) :: trs):=fun pins s σ H Q I h =>
 pairTrees_cons_walk (thn (hk pins s σ H _ I h) fun u s1 ⟨x,H1,I1,rx,q1⟩ => thn (hv pins s1 σ H1 _ I1 q1) fun w2 s2 ⟨y,H2,I2,ry,q2⟩ =>
  thn (hr pins s2 σ H2 _ I2 q2) fun ws s3 ⟨ps,H3,I3,rel,q3⟩ => ⟨(x,y) :: ps,H3,I3,.cons ⟨rx,ry⟩ rel,q3⟩)
noncomputable def dB (kvs more : List (Key × V)) : List (Key × V):=more.foldl (fun acc kv => putK acc kv.1 kv.2) kvs
theorem KV.merge : ∀ {more : List (Key × V)} {rs : List (Key × Value)} {kvs : List (Key × V)} {vs : List (Key × Value)},KV more rs -> KV kvs vs -> KV (dB kvs more) (merged vs rs):=by
 intro more rs kvs vs r
 unfold KV at r
 induction r generalizing kvs vs with
 | nil => intro q; exact q
 | @cons p q ps qs h t ih =>
  intro r0
  have e : KV (putK kvs p.1 p.2) (stored vs q.1 q.2):=by
   have:=r0.put p.1 h.2
   rw [<- h.1]; exact this
  exact ih e
theorem cX : ∀ (more kvs : List (Key × V)),(dB kvs more).length <= kvs.length + more.length
 | [],kvs => by show kvs.length <= kvs.length + 0; omega
 | p :: r,kvs => by
  have h1:=cX r (putK kvs p.1 p.2)
  have h2:=cI kvs p.1 p.2
  show (dB (putK kvs p.1 p.2) r).length <= _
  rw [List.length_cons]; omega
theorem eI {P : Program} {w : World} : ∀ {kvs : List (Key × V)} {ws : List (Value × Value)},VV (kvs.map fun kv => (kV kv.1,kv.2)) ws -> ∃ rs,Carries (a4 P w) ws rs /\ KV kvs rs
 | [],_,r => by rw [List.map_nil] at r; cases r; exact ⟨[],True.intro,.nil⟩
 | p :: kvs,_,r => by
  rw [List.map_cons] at r
  cases r with
  | @cons a b as bs h t =>
   obtain ⟨rs,c,q⟩:=eI (P:=P) (w:=w) t
   obtain ⟨b1,b2⟩:=b
   exact ⟨(p.1,b2) :: rs,⟨fF h.1,rfl,c⟩,.cons ⟨rfl,h.2⟩ q⟩
def xx (trs : List (TE × TE)) : TE:=fun σ H Q => ∀ p,H p = none -> jx trs σ (upd H p (.dK [])) fun ps H2 => H2 p = some (.dK []) /\ ∃ kvs : List (Key × V),ps = kvs.map (fun kv => (kV kv.1,kv.2)) /\ kvs.length <= 15 /\ Q (.ref p) (upd H2 p (.dK (dB [] kvs)))
theorem qo {X : Cx} {pos : Pos} {keys : List (Option Expr)} {values : List Expr} {trs : List (TE × TE)} (h : PPs X pos keys values trs) (hall : keys.all (·.isSome) = true) (hl : keys.length = values.length) (h0 : keys ≠ [])
  (h15 : keys.length <= 15) : PE X (.Dict keys values pos) (xx trs):=by
 intro pins s σ H Q I q
 have hn:=I.hok.fresh (Nat.le_refl s.heap.objs.size)
 have I1:=I.laid (a:=s.heap.objs.size) (o:=.dK []) (h':=s.heap.push { cls:=.type "dict",data:=.dict #[] }) (t':=s.toks) (fun _ _ q => Heap.get?_push_of_some _ q) (Nat.le_refl _) (iE s.heap I.big)
 refine wpAny_Dict_walk (knd:=a4 X.prog X.w) hall hl h0 h15 (thn (h pins _ σ _ _ I1 (q _ hn)) fun ws s2 ⟨ps,H2,I2,rel,e,kvs,ep,lk,q2⟩ => ?_)
 subst ep
 obtain ⟨rs,c,rk⟩:=eI (P:=X.prog) (w:=X.w) rel
 obtain ⟨z,hd,vs0,r0,dd⟩:=mC I2.hok e
 cases r0
 refine ⟨rs,c,dd,fun h' dd' hs => ⟨.ref s.heap.objs.size,_,?_,rfl,q2⟩⟩
 have hz : (dB [] kvs).length <= sizeLine:=by
  have h1:=cX kvs []
  rw [List.length_nil] at h1
  rw [sizeLine_eq]; omega
 have he : ∃ q,h'.get? s.heap.objs.size = some q:=let ⟨q,_,_,hq,_⟩:=dd'; ⟨q,hq⟩
 exact gD I2 (by rw [e]; exact True.intro) hs he (mD hz hd (rk.merge .nil) dd')
section
variable {X : Cx} {pins : List (Addr × Obj)} {σ : St} {H : Hp} {s : Shared} {a : Addr} {y d : V} {u r : Value} {o : Option V} {A : Around} {E : Value -> Shared -> Prop}
end
section
variable {X : Cx} {o e f : Expr} {apos cpos : Pos} {td ty tx : TE}
end
section
variable {X : Cx} {pins : List (Addr × Obj)} {σ : St} {H : Hp} {s : Shared} {a : Addr} {kvs : List (Key × V)} {A : Around} {E : Value -> Shared -> Prop}
end
section
variable {X : Cx} {pins : List (Addr × Obj)} {σ : St} {H : Hp} {s : Shared} {a : Addr} {y : V} {u : Value} {A : Around} {E : Value -> Shared -> Prop}
end
end L2
namespace Att
open PySem PySem.W PySem.Calls PyProof.Rows
theorem dX {P : Params} {h : Heap} : ∀ (ns : List Int) (vs : List Value),WellAll P h vs (ns.map WData.int) -> IntsAre vs ns:=by
 intro ns
 induction ns with
 | nil =>
  intro vs w
  rw [List.map_nil] at w
  cases w
  exact .nil
 | cons n ns ih =>
  intro vs w
  rw [List.map_cons] at w
  cases w with
  | cons a b =>
   cases a
   exact .cons _ _ (ih _ b)
theorem lI {l : OpenLaw} {n : Nat} (hn : l.most = some n) {P : Params} {h : Heap} {args : List WData} {vals : List Value}
  (hpre : l.row.toRowW.claim.pre args = true) (hwl : WellAll P h vals args) :
  ∃ a vs ns,vals = [Value.ref a] /\ args = [WData.list (ns.map WData.int)] /\ h.get? a = some { cls:=.type "list",data:=.seq vs.toArray } /\ IntsAre vs ns /\ ns.length <= n:=by
 have hsh : WShape.hasAll [] args [.list .int] = true:=(pre_splitW hpre).1
 have hc : l.pre.holds [] { args:=args } = true:=(pre_splitW hpre).2
 obtain ⟨d,r,rfl,h1,h2⟩:=hasAllW_cons hsh
 obtain rfl:=hasAllW_nil h2
 obtain ⟨xs,rfl,h3⟩:=hasW_list h1
 obtain ⟨ns,rfl⟩:=items_int h3
 have hlen : ns.length <= n:=by
  unfold OpenLaw.pre at hc
  have h4 : (WTm.not (.lt (.lit (.int (n : Int))) (.len (.arg 0)))).holds [] { args:=[.list (ns.map .int)] } = true:=by
   have h4:=(holds_andW hc).1
   rw [hn] at h4
   exact h4
  have h5:=condW_of h4 (w_not (w_lt w_lit (w_len_list (w_arg rfl))))
  rw [List.length_map] at h5
  refine Nat.le_of_not_lt fun q => ?_
  have q' : (n : Int) < ((ns.length : Nat) : Int):=by omega
  first
   | (rw [decide_eq_true q'] at h5; exact absurd h5 (by decide))
   | (simp at h5; omega)
 cases hwl with
 | cons w1 w2 =>
  cases w2
  cases w1 with
  | list ho hall => exact ⟨_,_,ns,rfl,rfl,ho,dX ns _ hall,hlen⟩
theorem lJ (l : OpenLaw) (args : List WData) : l.row.toRowW.claim.post args (.bool true) args = true :=
 postW_of (r:=l.row.toRowW) (X:=(true == true))
  (show WShape.has [] (.bool true) .bool = true by first | rfl | decide | simp [WShape.has,WShape.arms,WShape.armsAll])
  (show (WTm.eq .res (.lit (.bool true))).value [] { args:=args,res:=some (.bool true),after:=args } = some (.bool (true == true)) from w_eq_bool (w_res rfl) w_lit) rfl
theorem attach_call {l : OpenLaw} {n : Nat} {q : Program} {loose : List Str} {XP : (Str -> Option Value) -> Heap -> Prop} {YP : World -> Heap -> Prop} {d : DefRec}
  (hn : l.most = some n) (hdf : d.params.defaults = [])
  (call : ∀ (w : World) (s₀ s₁ : Shared) (mg mb : Str -> Option Value) (fa : Addr) (o : Obj) (pm cd doc : Value) (a : Addr) (vs : List Value) (ns : List Int),
   Ground q loose [] XP w s₀ mg mb s₁.heap -> YP w s₁.heap ->
   s₁.heap.get? fa = some o -> o.data = .func (docDef d.name d.params d.body d.scope pm cd doc) -> s₁.heap.CodeRec cd d.name -> mg d.name = some (.ref fa) ->
   s₁.heap.get? a = some { cls:=.type "list",data:=.seq vs.toArray } -> IntsAre vs ns -> ns.length <= n -> s₁.gens = #[] ->
   codeAny (model l.prog w) callerA (.call (.ref fa) ⟨[.ref a],[]⟩) (fun r s' => r = .ok (.ret (.bool true)) /\ OldK s₁.heap s'.heap /\ s'.os = s₁.os /\ AllBare s'.gens) s₁) :
  WalkO q loose XP YP l.row.toRowW d [] (fun f vs => PySem.call f vs):=by
 intro w s₀ s₁ mg mb G Y fa o pm cd doc dV kV ho hd hcd hD hmg hg args vals as hpre hlay hrd hwl hlo
 obtain rfl : dV = .none:=Dflts.none hD hdf
 obtain rfl : kV = .none:=Dflts.noKw hD
 obtain ⟨a,vs,ns,rfl,rfl,hobj,hints,hlen⟩:=lI hn hpre hwl
 refine enter_call (codeAny_mono (call w s₀ s₁ mg mb fa o pm cd doc a vs ns G Y ho (fd_plain hd) hcd hmg hobj hints hlen hg) fun r s' hq => ?_)
 obtain ⟨rfl,h2,h3,h4⟩:=hq
 exact ⟨.inl ⟨.bool true,.bool true,[],rfl,fun _ => rfl,.bool true,lJ l _,fun _ => ⟨List.Pairwise.nil,fun _ hm => (nomatch hm)⟩⟩,h2,h3,h4⟩
section
variable {prog : Program} {w : World} {A : Around} {E : Value -> Shared -> Prop} {s : Shared} {K : Frag}
noncomputable def ledger (h : Heap) (L d : Addr) : List (Addr × Obj):=(List.range h.objs.size).filterMap fun a => if a = L \/ a = d then none else (h.get? a).map fun o => (a,o)
end
end Att
namespace L2
theorem fJ : ∀ {vs : List Value} {ns : List Int},IntsAre vs ns -> Vals (ns.map V.int) vs
 | _,_,.nil => .nil
 | _,_,.cons n t h => .cons ⟨t,rfl⟩ (fJ h)
def uf (H : Hp) : Prop:=∀ b,H b = none \/ ∃ o xs,H b = some (.frz o (.lst xs))
theorem mI {P : Program} {w : World} {K : PySem.W.Frag} {mg mb : Str -> Option Value} {CX : CXT} {k : Nat} {fa a : Addr} {fd : FuncData} {x : Str} {sp : Sp} {s₁ : Shared} {vs : List Value} {ns : List Int}
  (KX : K.In s₁.heap) (hns : s₁.heap.Ns mainGlobals mg) (hb : s₁.heap.Ns builtinsNs mb) (hbb : ∀ x : Str,x ≠ "__name__" -> mb x = bootBuiltins x) (hlim : s₁.heap.NoLimit) (hg : s₁.gens = #[])
  (ha : s₁.heap.get? a = some { cls:=.type "list",data:=.seq vs.toArray }) (hi : IntsAre vs ns) (hl : ns.length <= sizeLine) (hr : Room k callerA)
  (F : ∀ base : Heap,K.In base -> base.Ns mainGlobals mg -> FnOk P w K mg base CX k fa fd [x] sp) (hbind : ∀ (s : Shared) (u : Value),BindsTo s fd ⟨[u],[]⟩ [(x,u)])
  (hsp : ∀ H : Hp,uf H -> SqL K H a (ns.map V.int) -> sp [.ref a] H (fun v _ => v = .bl true) fun _ _ _ => False)
  (hCX : ∀ H e s',CX [] H s₁ (fun _ _ _ => False) e s' -> False) :
  codeAny (model P w) callerA (.call (.ref fa) ⟨[.ref a],[]⟩) (fun r s' => r = .ok (.ret (.bool true)) /\ OldK s₁.heap s'.heap /\ s'.os = s₁.os /\ AllBare s'.gens) s₁:=by
 have rv:=fJ hi
 have lenV:=hi.length
 -- from an abstract heap in which nothing but the script may be tracked
 have core : ∀ H : Hp,uf H -> SqL K H a (ns.map V.int) -> HOk P w H s₁.heap -> (∀ b,H b ≠ none -> b = a) -> (H a ≠ none -> K.lookup a = none) ->
   codeAny (model P w) callerA (.call (.ref fa) ⟨[.ref a],[]⟩) (fun r s' => r = .ok (.ret (.bool true)) /\ OldK s₁.heap s'.heap /\ s'.os = s₁.os /\ AllBare s'.gens) s₁:=by
  intro H hO hS hok hA hK
  have base_of : ∀ {b : Addr} {o : Obj},s₁.heap.get? b = some o -> H b = none -> (gu s₁.heap H).get? b = some o:=fun e n => mh e n
  have noA : ∀ {b : Addr} {o : Obj} {es : Array DictEntry} {ep : Nat},s₁.heap.get? b = some o -> o.data = .dict es ep -> H b = none:=fun {b o es ep} e d => by
   cases q : H b with
   | none => rfl
   | some u =>
    have e' : b = a:=hA b (by rw [q]; simp)
    subst e'
    rw [ha] at e; cases e
    have d' : Data.seq vs.toArray _ = Data.dict es ep:=d
    cases d'
  have nsK : ∀ {b : Addr} {m : Str -> Option Value},s₁.heap.Ns b m -> (gu s₁.heap H).Ns b m:=fun {b m} ⟨o,es,ep,e,d,r⟩ => ⟨o,es,ep,base_of e (noA e d),d,r⟩
  have hKb : K.In (gu s₁.heap H):=fun b o e => base_of (KX b o e) (by
   cases q : H b with
   | none => rfl
   | some u =>
    have e' : b = a:=hA b (by rw [q]; simp)
    subst e'
    rw [hK (by rw [q]; simp)] at e; cases e)
  have hM : Mod K mg (gu s₁.heap H):=⟨hKb,nsK hns,⟨mb,nsK hb,hbb⟩,let ⟨mc,h1,h2⟩:=hlim; ⟨mc,nsK h1,h2⟩⟩
  have e0 : Env0 P w K mg (gu s₁.heap H) callerA [] s₁ H:=⟨rfl,hM,fun b o e => pS e,Nat.le_of_eq (lv _ _),trivial,fun b hb => absurd (show b ∈ ([] : List Addr) from hb) (by simp),hok,.of_eq hg⟩
  refine codeAny_mono ((F _ hKb (nsK hns)).run callerA [] s₁ H ⟨[.ref a],[]⟩ [.ref a] [.ref a] _ _ hr e0 (hbind s₁ (.ref a)) (.cons rfl .nil) (hsp H hO hS)) fun r s' h => ?_
  cases r with
  | error e => exact (hCX H e s' h).elim
  | ok fl =>
   cases fl with
   | next => exact False.elim h
   | brk => exact False.elim h
   | cont => exact False.elim h
   | ret u =>
    obtain ⟨v,H',os,bare,un,hok',r',q⟩:=h
    have q' : v = .bl true:=q
    subst q'
    obtain rfl : u = Value.bool true:=r'
    refine ⟨rfl,OldK.of_keep fun b o e => ?_,os,bare⟩
    cases q : H b with
    | none => exact un.keep b o e q (by intro z; exact absurd (show b ∈ ([] : List Addr) from z) (by simp)) (by simp)
    | some u =>
     rcases hO b with z | ⟨ob,xs,z⟩
     ·
      rw [q] at z; cases z
     ·
      have z2:=un.frzs b ob _ z
      obtain ⟨e1,_⟩:=hok b _ z
      obtain ⟨e2,_⟩:=hok' b _ z2
      rw [e] at e1; cases e1
      exact e2
 cases hk : K.lookup a with
 | some o =>
  -- the script is one of the module's own objects
  have e:=KX a o hk
  rw [ha] at e
  cases e
  refine core (fun _ => none) (fun _ => .inl rfl) (.inr ⟨_,vs.toArray,_,hk,rfl,rfl,rfl,by rw [List.size_toArray,lenV]; exact hl,by simpa using rv⟩) (fun b u z => by have z' : (none : Option HO) = some u:=z; cases z') (fun b z => absurd rfl z) fun z => absurd rfl z
 | none =>
  refine core (fun b => if b = a then some (.frz { cls:=.type "list",data:=.seq vs.toArray } (.lst (ns.map V.int))) else none) (fun b => ?_) (.inl (.inr ⟨{ cls:=.type "list",data:=.seq vs.toArray },if_pos rfl⟩)) (fun b u z => ?_) (fun b z => ?_) fun _ => hk
  ·
   by_cases hb : b = a
   ·
    exact .inr ⟨_,_,if_pos hb⟩
   ·
    exact .inl (if_neg hb)
  ·
   by_cases hb : b = a
   ·
    have z':=(if_pos hb).symm.trans z
    cases z'
    subst hb
    exact ⟨ha,by rw [List.length_map]; exact hl,vs,_,rv,ha⟩
   ·
    have z':=(if_neg hb).symm.trans z
    cases z'
  ·
   by_cases hb : b = a
   ·
    exact hb
   ·
    exact absurd (if_neg hb) z
noncomputable abbrev KOf {K : PySem.W.Frag} {h : Heap} (_ : K.In h) : PySem.W.Frag:=K
theorem walk_of {l : PySem.W.OpenLaw} {n k : Nat} {q : Program} {loose : List Str} {XP : (Str -> Option Value) -> Heap -> Prop} {YP : World -> Heap -> Prop} {d : DefRec} {K : Params -> PySem.W.Frag} {CX : World -> CXT} {sp : World -> Sp} {x : Str}
  (hn : l.most = some n) (hn2 : n <= sizeLine) (hdf : d.params.defaults = []) (hr : Room k callerA)
  (hY : ∀ (w : World) (h : Heap),YP w h -> (K w.params).In h)
  (F : ∀ (w : World) (mg : Str -> Option Value) (fa : Addr) (h : Heap),(K w.params).In h -> h.Ns mainGlobals mg -> mg d.name = some (.ref fa) ->
   ∃ fd : FuncData,(∀ (s : Shared) (u : Value),BindsTo s fd ⟨[u],[]⟩ [(x,u)]) /\
    ∀ base : Heap,(K w.params).In base -> base.Ns mainGlobals mg -> FnOk l.prog w (K w.params) mg base (CX w) k fa fd [x] (sp w))
  (hsp : ∀ (w : World) (H : Hp) (a : Addr) (ns : List Int),ns.length <= n -> uf H -> SqL (K w.params) H a (ns.map V.int) -> sp w [.ref a] H (fun v _ => v = .bl true) fun _ _ _ => False)
  (hCX : ∀ (w : World) (H : Hp) (s : Shared) (e : Value) (s' : Shared),CX w [] H s (fun _ _ _ => False) e s' -> False) :
  PySem.W.WalkO q loose XP YP l.row.toRowW d [] (fun f vs => PySem.call f vs):=by
 refine Att.attach_call hn hdf fun w s₀ s₁ mg mb fa o pm cd doc a vs ns G Y ho hd hcd hmg hobj hints hlen hg => ?_
 have KX:=hY w _ Y
 obtain ⟨fd,hb,hF⟩:=F w mg fa _ KX G.T.g hmg
 exact mI KX G.T.g G.T.b G.T.builtins G.T.nolimit hg hobj hints (Nat.le_trans hlen hn2) hr hF hb (fun H hO hS => hsp w H a ns hlen hO hS) fun H e s' => hCX w H s₁ e s'
end L2
/- THE LAST THEOREM (shape; LID,My.* are yours):
  My.Adr: a structure of the addresses that your layer names (classes,functions); My.Txt K t: a structure (Prop) of the equations over K;
  My.txt_mk : {K} {implicit addresses ..} (e1 : nsIn K mainGlobals "law" = some (some (.ref f))) (e2 : K.lookup f = some ⟨oc,od,.func (fnOf "law" "law" params body scope dV kV doc pm an cdv ct),sl⟩) (e3 : codeIn K cdv "law" = true) .. : ∃ t,My.Txt K t
set_option maxRecDepth 100000 in
set_option maxHeartbeats 0 in
theorem PySem.Challenge.cw_LID_holds : PySem.Challenge.rw_LID.Holds := by
 w_on; o_law; k_head; (case hw => w_witness2)
 k_fill
 refine L2.walk_of (l:=PySem.Challenge.rw_LID) (n:=63) (k:=40) (x:="script") (CX:=fun w => ..) (sp:=fun _ => My.sp_law) rfl (by decide) rfl ⟨rfl,by decide,by decide⟩ (fun w h Y => PySem.W.kIn_of Y) ?F ?S ?C
 case F =>
  intro w mg fa h KX G hmg
  have T : ∃ t,My.Txt (L2.KOf KX) t:=by
   dsimp only [L2.KOf]                          -- K must stand as «<heap const> w.params» for k_is
   refine' My.txt_mk ?e1 ?e2 ?e3 ..
   (case e1 => PySem.W.k_is)                    -- in the order: a name -> its address -> its object -> its parts
   (case e2 => PySem.W.k_is)
   ..
  obtain ⟨t,T⟩:=T
  have e0:=hmg.symm.trans (PySem.W.mg_of KX G T.law)
  cases e0                                       -- fa is the law's own address
  exact ⟨_,fun s u => .of_eq rfl,fun base kb nb => My.law_fn T kb nb⟩     -- if «.of_eq rfl» comes too early: refine' ⟨_,?b,fun base kb nb => My.law_fn T kb nb⟩; exact fun s u => .of_eq rfl
 case S => exact fun w H a ns hl hO hS => ..
 case C => exact ..
(the tactic k_is has no namespace: write k_is) -/
namespace L2
abbrev CX0 : CXT:=fun _ _ _ _ _ _ => False
abbrev E0 : XK:=fun _ _ _ => False
theorem xy {X : Cx} : jt CX0 X E0:=fun _ _ _ _ _ _ _ h => h.elim
structure Fun (K : PySem.W.Frag) (x qual : Str) (st : Stmt) (f : Addr) (fd : FuncData) : Prop where
 ex : ∃ (oc : Value) (od : Option Addr) (kV doc pm : Value) (an : Option Addr) (cdv ct : Value) (osl : Array (Option Value)),
  fd = PySem.W.fnOf x qual (a9 st) (aT st) (ah st) .none kV doc pm an cdv ct /\ K.lookup f = some ⟨oc,od,.func fd,osl⟩ /\ PySem.W.codeIn K cdv qual = true
 kp : PySem.W.keepIn K (.ref f) = true
section
variable {P : Program} {w : World} {K : PySem.W.Frag} {mg : Str -> Option Value} {base : Heap}
theorem Fun.ok {x qual : Str} {st : Stmt} {f : Addr} {fd : FuncData} {N ps : List Str} {k : Nat} {sp : Sp} (F : Fun K x qual st f fd) (S : FnScope N ps (ah st)) (len : ∀ vs H Q E,sp vs H Q E -> vs.length = ps.length)
  (hbody : ∀ (cdv : Value) (A : Around) (outer : List Env) (s : Shared) (H : Hp) (vs : List V) (Q : VK) (E : XK),Room k (A.deeper (envOfC qual (ah st) s.heap.objs.size f cdv)) -> sp vs H Q E ->
   ∃ t,PSs (eE CX0 P w K mg base N qual (ah st) f cdv A outer s H E).nox (aT st) t /\ t { nx:=fun _ H' => Q .non H',rt:=Q } (start N vs) H) : FnOk P w K mg base CX0 (k + 1) f fd ps sp:=by
 obtain ⟨oc,od,kV,doc,pm,an,cdv,ct,osl,rfl,lk,hcd⟩:=F.ex
 refine sk lk hcd S len fun A outer s H vs Q E hr hsp => ?_
 obtain ⟨t,h,q⟩:=hbody cdv A outer s H vs Q E hr hsp
 exact ⟨t,h.nox,q⟩
theorem Fun.binds {x qual : Str} {st : Stmt} {f : Addr} {fd : FuncData} {ps : List Str} (F : Fun K x qual st f fd)
  (h : ∀ (kV doc pm : Value) (an : Option Addr) (cdv ct : Value) (us : List Value),us.length = ps.length -> bindArgs (PySem.W.fnOf x qual (a9 st) (aT st) (ah st) .none kV doc pm an cdv ct) ⟨us,[]⟩ = pure (ps.zip us)) : Binds K fd ps []:=by
 obtain ⟨oc,od,kV,doc,pm,an,cdv,ct,osl,rfl,lk,hcd⟩:=F.ex
 exact .all (h kV doc pm an cdv ct)
theorem gE {x qual : Str} {st : Stmt} {f : Addr} {oc : Value} {od an : Option Addr} {osl : Array (Option Value)} {kV doc pm cdv ct : Value} (l : K.lookup f = some ⟨oc,od,.func (PySem.W.fnOf x qual (a9 st) (aT st) (ah st) .none kV doc pm an cdv ct),osl⟩)
  (c : PySem.W.codeIn K cdv qual = true) (k : PySem.W.keepIn K (.ref f) = true) : Fun K x qual st f (PySem.W.fnOf x qual (a9 st) (aT st) (ah st) .none kV doc pm an cdv ct):=⟨⟨oc,od,kV,doc,pm,an,cdv,ct,osl,rfl,l,c⟩,k⟩
end
section
variable {X : Cx}
theorem pv (i : Nat) {x : Str} {pos : Pos} (hN : X.N[i]? = some x:=by rfl) (hv : Vis X.env.scope x:=by first | exact Or.inl rfl | exact Or.inr (Or.inl rfl) | exact Or.inr (Or.inr rfl)) (hd : (x == ("__debug__" : Str)) = false:=by decide)
  (hcd : (x == ("__classdict__" : Str)) = false:=by decide) : PE X (.Name x pos) (wI i):=tw hN hv hd hcd
theorem lK : CallR X (.builtin "len") (fun xs H Q => ∃ a kvs,xs = [V.ref a] /\ H a = some (.dK kvs) /\ Q (.int kvs.length) H):=by
 intro pins s σ H xs us Q I r h
 obtain ⟨a,kvs,rfl,ha,q⟩:=h
 obtain ⟨u,rfl,ru⟩:=vals1 r
 cases ru
 exact xu I (.inl ha) fun t s' I' => ⟨.int kvs.length,H,I',⟨t,rfl⟩,q⟩
end
theorem zM {A B : Prop} (h : B) : if false = true then A else B:=by
 rw [if_neg Bool.false_ne_true]
 exact h
theorem zN {A B : Prop} (h : A) : if true = true then A else B:=by
 rw [if_pos rfl]
 exact h
section
variable {κ : Type} [DecidableEq κ]
theorem cA : ∀ {l : List κ} {k : κ},l.Nodup -> ¬ k ∈ l -> (l ++ [k]).Nodup
 | [],k,_,_ => by simp
 | a :: r,k,h,hk => by
  obtain ⟨h1,h2⟩:=List.nodup_cons.mp h
  show (a :: (r ++ [k])).Nodup
  refine List.nodup_cons.mpr ⟨fun m => ?_,cA h2 fun m => hk (List.mem_cons.mpr (Or.inr m))⟩
  rcases List.mem_append.mp m with q | q
  ·
   exact h1 q
  ·
   exact hk (List.mem_cons.mpr (Or.inl (List.mem_singleton.mp q).symm))
end
theorem dN {F : Str × NameKind -> Str × NameKind} (hF : ∀ p,(F p).1 = p.1) {x : Str} {k : NameKind} : ∀ {names : List (Str × NameKind)},names.lookup x = some k -> (names.map F).lookup x = some (F (x,k)).2
 | [],h => by cases h
 | (m,q) :: r,h => by
  have hm:=hF (m,q)
  rw [List.map_cons,show F (m,q) = (m,(F (m,q)).2) from Prod.ext hm rfl]
  by_cases e : x = m
  ·
   subst e
   rw [List.lookup_cons_self] at h ⊢
   cases h
   rfl
  ·
   have eb : (x == m) = false:=beq_eq_false_iff_ne.mpr e
   simp only [List.lookup,eb] at h ⊢
   exact dN hF h
theorem cW {env : Env} {x : Str} {names : List (Str × NameKind)} (h : names.lookup x = some .free) :
  (names.map fun (n,k) => if (k == NameKind.free && env.scope.kind == .function && env.kindOf n == some .cell) then (n,NameKind.cell) else (n,k)).lookup x = some .cell \/
  (names.map fun (n,k) => if (k == NameKind.free && env.scope.kind == .function && env.kindOf n == some .cell) then (n,NameKind.cell) else (n,k)).lookup x = some .free:=by
 rw [dN (F:=fun (n,k) => if (k == NameKind.free && env.scope.kind == .function && env.kindOf n == some .cell) then (n,NameKind.cell) else (n,k)) (fun p => by dsimp only; split <;> rfl) h]
 dsimp only
 split
 ·
  exact .inl rfl
 ·
  exact .inr rfl
theorem eJ {scope : Scope} {env : Env} (h : ∀ y ∈ scope.names,y.2 = .free -> ∃ c,env.cells.lookup y.1 = some c) :
  ∃ cl,closureFor scope env = pure cl /\ (∀ x c,cl.lookup x = some c -> env.cells.lookup x = some c) /\ ∀ y ∈ scope.names,y.2 = .free -> ∃ c,cl.lookup y.1 = some c:=by
 have key : ∀ (names : List (Str × NameKind)) (cs : List (Str × Addr)),(∀ y ∈ names,y.2 = .free -> ∃ c,env.cells.lookup y.1 = some c) -> (∀ x c,cs.lookup x = some c -> env.cells.lookup x = some c) ->
   ∃ cl : List (Str × Addr),(forIn names cs (fun (x : Str × NameKind) (r : List (Str × Addr)) => (do
    if x.2 == .free then do
     let a <- cellOf env x.1
     pure (ForInStep.yield ((x.1,a) :: r))
    else pure (ForInStep.yield r) : Sem (ForInStep (List (Str × Addr))))) : Sem (List (Str × Addr))) = pure cl /\ (∀ x c,cl.lookup x = some c -> env.cells.lookup x = some c) /\
    (∀ x c,cs.lookup x = some c -> ∃ c',cl.lookup x = some c') /\ ∀ y ∈ names,y.2 = .free -> ∃ c,cl.lookup y.1 = some c:=by
  intro names
  induction names with
  | nil => intro cs _ hc; exact ⟨cs,rfl,hc,fun x c e => ⟨c,e⟩,fun y hy => nomatch hy⟩
  | cons y r ih =>
   intro cs hn hc
   obtain ⟨n,k⟩:=y
   by_cases hk : k = .free
   ·
    subst hk
    obtain ⟨c,ec⟩:=hn (n,.free) List.mem_cons_self rfl
    have hcell : cellOf env n = pure c:=by unfold cellOf; rw [ec]
    obtain ⟨cl,e,h1,h2,h3⟩:=ih ((n,c) :: cs) (fun y hy => hn y (List.mem_cons_of_mem _ hy)) (fun x c' q => by
     simp only [List.lookup_cons] at q
     cases hx : x == n with
     | true => rw [hx] at q; cases q; rw [eq_of_beq hx]; exact ec
     | false => rw [hx] at q; exact hc x c' q)
    refine ⟨cl,?_,h1,fun x c' q => ?_,fun y hy hf => ?_⟩
    ·
     rw [List.forIn_cons]
     show ((if (NameKind.free == NameKind.free) = true then (cellOf env n >>= fun a => pure (ForInStep.yield ((n,a) :: cs))) else pure (ForInStep.yield cs)) >>= _) = _
     rw [hcell]
     exact e
    ·
     cases hx : x == n with
     | true => exact h2 x c (by simp only [List.lookup_cons,hx])
     | false => exact h2 x c' (by simp only [List.lookup_cons,hx]; exact q)
    ·
     rcases List.mem_cons.mp hy with rfl | hy
     ·
      exact h2 n c (by simp [List.lookup_cons])
     ·
      exact h3 y hy hf
   ·
    obtain ⟨cl,e,h1,h2,h3⟩:=ih cs (fun y hy => hn y (List.mem_cons_of_mem _ hy)) hc
    have hb : (k == NameKind.free) = false:=by simpa using hk
    refine ⟨cl,?_,h1,h2,fun y hy hf => ?_⟩
    ·
     rw [List.forIn_cons]
     show ((if (k == NameKind.free) = true then (cellOf env n >>= fun a => pure (ForInStep.yield ((n,a) :: cs))) else pure (ForInStep.yield cs)) >>= _) = _
     rw [hb]
     exact e
    ·
     rcases List.mem_cons.mp hy with rfl | hy
     ·
      exact absurd hf hk
     ·
      exact h3 y hy hf
 obtain ⟨cl,e,h1,_,h3⟩:=key scope.names [] h (fun x c q => by simp at q)
 refine ⟨cl,?_,h1,h3⟩
 unfold closureFor
 exact congrArg (fun m => m >>= fun r => pure r) e
noncomputable def aO (X : Cx) (N' : List Str) (scope : Scope) (cl : List (Str × Addr)) (pins : List (Addr × Obj)) (s : Shared) (H : Hp) (C : Addr) (fp : List Addr) : Cx where
 prog:=X.prog
 w:=X.w
 K:=X.K
 mg:=X.mg
 base:=X.base
 A:=X.A
 N:=N'
 s₀:=s
 H₀:=H
 env:=compEnvC scope cl C X.env
 outer:=X.stack
 stack:=X.stack
 ex:=fp
 fn:=fun x => scope.names.lookup x == some .cell
 calm:=X.calm
 pn:=X.pn ++ pins
 xe:=fun _ _ => False
def PIf (X : Cx) (ifs : List Expr) (t : TT) : Prop :=
 ∀ (pins : List (Addr × Obj)) (s : Shared) (σ : St) (H : Hp) (Q : Bool -> Hp -> Prop),Inv X pins σ H s -> t σ H Q ->
  wpAny (model X.prog X.w) X.A (forIn ifs true fun c r => if r = true then do let ok <- isTrue c X.env (eval c X.env); pure (ForInStep.yield ok) else pure (ForInStep.yield r)) (TP X pins σ Q) X.xe s
def zO : TT:=fun _ H Q => Q true H
theorem qp {X : Cx} : PIf X [] zO:=fun _ _ _ H _ I h => wpAny_tests_nil ⟨H,I,h⟩
theorem qq {X : Cx} {c : Expr} {t : TT} (h : PT X c t) : PIf X [c] t:=fun pins s σ H Q I hq => wpAny_tests_one (h pins s σ H Q I hq)
section
variable {prog : Program} {w : World} {A : Around} {R : Result -> Shared -> Prop} {s : Shared}
theorem gF {elt target iter : Expr} {ifs : List Expr} {scope : Scope} {pos : Pos} {it acc : Value} {env : Env} (I : Nat -> Shared -> Prop)
  (turn : ∀ n s,I n s -> wpAny (model prog w) A (pyNext it) (fun r s₁ => match r with | .none => R (.ok .next) s₁ | .some v => wpAny (model prog w) A (letOwnedTupleGo target it v) (fun _ s₁' => wpAny (model prog w) A (assign target env v) (fun _ s₂ => wpAny (model prog w) A (forIn ifs true fun c r => if r = true then do let ok <- isTrue c env (eval c env); pure (ForInStep.yield ok) else pure (ForInStep.yield r)) (fun ok s₃ => if ok = true then wpAny (model prog w) A (eval elt env) (fun x s₄ => wpAny (model prog w) A (call (.builtin "list.append") [acc,x]) (fun _ s₅ => ∃ m,m < n /\ I m s₅) (fun _ _ => False) s₄) (fun _ _ => False) s₃ else ∃ m,m < n /\ I m s₃) (fun _ _ => False) s₂) (fun _ _ => False) s₁') (fun _ _ => False) s₁) (fun _ _ => False) s)
  (n : Nat) (h : I n s) : codeAny (model prog w) A (.compLoop (.ListComp elt [⟨target,iter,ifs,0⟩] scope pos) 0 it acc env) R s:=by
 refine codeAny_loop rfl I (fun j s₀ hI => ?_) n h; show wpAny _ A ((compTurn (.ListComp elt [⟨target,iter,ifs,0⟩] scope pos) 0 it acc env).onRaise (fun x => do noteFrame x env; theTreesLotGoes x)) _ _ s₀
 refine wpAny_noted ?_
 rw [compTurn_list]
 refine wpAny_bind (wpAny_standAt (wpAny_bind (wpAny_mono (turn j s₀ hI) (fun r s₁ h₁ => ?_) fun _ _ h' => h'.elim)))
 cases r with
 | none => exact wpAny_pure h₁
 | some v =>
  refine wpAny_bind (wpAny_mono h₁ (fun _ s₁' h₁' => ?_) fun _ _ h' => h'.elim)
  refine wpAny_bind (wpAny_mono h₁' (fun _ s₂ h₂ => wpAny_bind (wpAny_mono h₂ (fun ok s₃ h₃ => ?_) fun _ _ h' => h'.elim)) fun _ _ h' => h'.elim)
  cases ok with
  | false => exact (wpAny_pure (And.intro rfl h₃))
  | true =>
   exact wpAny_bind (wpAny_bind (wpAny_mono h₃ (fun x s₄ h₄ => wpAny_bind (wpAny_mono h₄ (fun _ s₅ h₅ => wpAny_pure (wpAny_pure ⟨rfl,h₅⟩)) fun _ _ h' => h'.elim)) fun _ _ h' => h'.elim))
end
def kB (J : It) (g : TG) (tt : TT) (te : TE) (fin : List V -> Hp -> Prop) (σ₀ : St) (H₁ : Hp) : Prop :=
 ∃ W : Nat -> Nat -> List V -> St -> Hp -> Prop,(∃ m,W 0 m [] σ₀ H₁) /\ ∀ i m ys σ H,W i m ys σ H ->
  (J.stop i H /\ ys.length <= sizeLine /\ fin ys H) \/
  (J.go i H /\ ∀ x H',J.yld i H x H' -> g x σ H' fun σ2 H2 => tt σ2 H2 fun b H3 => if b = true then te σ2 H3 fun y H4 => ys.length < sizeLine /\ ∃ m',m' < m /\ W (i + 1) m' (ys ++ [y]) σ2 H4 else ∃ m',m' < m /\ W (i + 1) m' ys σ2 H3)
noncomputable def fq (nt : Nat) (cap : List Nat) (σ : St) : St:=List.replicate nt none ++ cap.map fun j => (σ[j]?).getD none
structure CompSc (X : Cx) (N' : List Str) (nt : Nat) (cap : List Nat) (scope : Scope) : Prop where
 kind : scope.kind = .function
 cells : ∀ y ∈ scope.names,y.2 = .cell -> scope.names.lookup y.1 = some .cell
 names : ∀ x ∈ scope.names,x.2 = .local -> scope.names.lookup x.1 = some .local
 free : ∀ y ∈ scope.names,y.2 = .free -> X.env.kindOf y.1 = some .cell \/ X.env.kindOf y.1 = some .free
 len : N'.length = nt + cap.length
 caps : ∀ (j : Nat) (x : Str),N'[nt + j]? = some x -> ∃ i,cap[j]? = some i /\ X.N[i]? = some x /\ scope.names.lookup x = some .free
theorem dY {l : Addr} {its : List Value} {n : Nat} {u : Value} {P : Program} {w : World} {A : Around} {E : Value -> Shared -> Prop} {s : Shared} {Q : Value -> Shared -> Prop}
  (e : s.heap.get? l = some { cls:=.type "list",data:=.seq its.toArray n }) (hz : its.length < sizeLine)
  (h : ∀ h' n',h'.get? l = some { cls:=.type "list",data:=.seq (its ++ [u]).toArray n' } -> (∀ b o,b ≠ l -> s.heap.get? b = some o -> h'.get? b = some o) -> Q .none { s with heap:=h' }) :
  wpAny (model P w) A (call (.builtin "list.append") [.ref l,u]) Q E s:=by
 refine call_meets F.slot_list_append ⟨_,e,rfl⟩ F.entry_list_append (F.args_list_append_2 _ _) (PySem.list_append l its.toArray n u (by rw [List.size_toArray]; omega)) ⟨e,?_⟩
 have q:=PySem.IsL.update e (·.push u)
 rw [List.push_toArray] at q
 exact h _ _ q (fun b o hb hu => (Heap.get?_update_other s.heap _ (Ne.symm hb)).trans hu)
theorem aW : ∀ (names : List (Str × NameKind)) (n : Nat) (acc : List (Str × Addr)),cellsFrom n names acc = cellsFrom n names [] ++ acc
 | [],_,_ => rfl
 | (x,k) :: r,n,acc => by
  unfold cellsFrom
  split
  ·
   rw [aW r (n + 1) ((x,n) :: acc),aW r (n + 1) [(x,n)],List.append_assoc]
   rfl
  ·
   exact aW r n acc
theorem bH {α : Type} (x : Str) : ∀ (l m : List (Str × α)),(l ++ m).lookup x = (l.lookup x).or (m.lookup x)
 | [],_ => rfl
 | (y,v) :: r,m => by
  rw [List.cons_append,List.lookup_cons,List.lookup_cons,bH x r m]
  cases x == y <;> rfl
theorem cB {names : List (Str × NameKind)} {n : Nat} {cl : List (Str × Addr)} {x : Str} {c : Addr} (h : (cellsFrom n names cl).lookup x = some c) : (cellsFrom n names []).lookup x = some c \/ ((cellsFrom n names []).lookup x = none /\ cl.lookup x = some c):=by
 rw [aW,bH] at h
 cases e : (cellsFrom n names []).lookup x with
 | some d => rw [e] at h; exact .inl h
 | none => rw [e] at h; exact .inr ⟨rfl,h⟩
theorem c5 {x : Str} {c : Addr} : ∀ {names : List (Str × NameKind)} {n : Nat} {acc : List (Str × Addr)},(x,c) ∈ cellsFrom n names acc -> (x,NameKind.cell) ∈ names \/ (x,c) ∈ acc
 | [],_,_,h => .inr h
 | (y,k) :: r,n,acc,h => by
  unfold cellsFrom at h
  split at h
  ·
   rename_i hk
   rcases c5 h with q | q
   ·
    exact .inl (List.mem_cons_of_mem _ q)
   ·
    rcases List.mem_cons.mp q with q | q
    ·
     cases q
     have : k = .cell:=by simpa using hk
     subst this
     exact .inl List.mem_cons_self
    ·
     exact .inr q
  ·
   rcases c5 h with q | q
   ·
    exact .inl (List.mem_cons_of_mem _ q)
   ·
    exact .inr q
theorem qr {M : Model} {A : Around} {E : Value -> Shared -> Prop} {s : Shared} {scope : Scope} {globals : Addr} {closure : List (Str × Addr)} {qual : Str} {env : Env} {Q : Env -> Shared -> Prop}
  (hQ : Q (newEnv scope s.heap.objs.size globals (cellsFrom (s.heap.objs.size + 1) scope.names closure) qual none .none (some env) builtinsNs) { s with heap:=pushCells (s.heap.push { cls:=.type "dict",data:=.dict #[] }) scope.names }) :
  wpAny M A (newFunctionEnv scope globals closure [] qual none .none (some env)) Q E s:=by
 simp only [newFunctionEnv,Option.isSome_some,if_true]
 refine wpAny_bind (wpAny_alloc ?_)
 refine wpAny_bind (wpAny_layCells _ (fun name kind cells => by cases hkc : kind == NameKind.cell <;> simp [hkc]) _ _ _ _ ?_)
 rw [show ({ s with heap:=s.heap.push { cls:=.type "dict",data:=.dict #[] } } : Shared).heap.objs.size = s.heap.objs.size + 1 from Heap.size_push ..]
 refine wpAny_bind ?_
 rw [List.forIn_nil]
 exact wpAny_pure (wpAny_pure hQ)
theorem mJ {X : Cx} {pins : List (Addr × Obj)} {σ : St} {H : Hp} {s : Shared} {N' : List Str} {nt : Nat} {cap : List Nat} {scope : Scope} {cl : List (Str × Addr)} {fp : List Addr} {h' : Heap} {C : Addr} {tk : Nat} {pl : List (Addr × Obj)}
  (S : CompSc X N' nt cap scope) (I : Inv X pins σ H s) (hcl : ∀ x c,cl.lookup x = some c -> X.env.cells.lookup x = some c) (hclh : ∀ y ∈ scope.names,y.2 = .free -> ∃ c,cl.lookup y.1 = some c)
  (hf : ∀ b ∈ fp,fj X pins H b) (hfl : ∀ b ∈ fp,b < s.heap.objs.size) (hC : s.heap.objs.size < C) (hn : h'.Ns C fun _ => none) (hk : ∀ b o,s.heap.get? b = some o -> h'.get? b = some o)
  (hp : ∀ p ∈ pl,h'.get? p.1 = some p.2 /\ s.heap.objs.size = p.1 /\ ∀ v,p.2.data ≠ .cell v) (hcc : CellsOk h' (C + 1) (cellsFrom (C + 1) scope.names [])) :
  Inv (aO X N' scope (cellsFrom (C + 1) scope.names cl) pins s H C fp) pl (fq nt cap σ) H { s with heap:=h',toks:=tk }:=by
 have two : ∀ x c,(cellsFrom (C + 1) scope.names cl).lookup x = some c -> (C + 1 <= c /\ (cellsFrom (C + 1) scope.names []).lookup x = some c) \/ X.env.cells.lookup x = some c:=fun x c e => by
  rcases cB e with q | q
  ·
   exact .inl ⟨(hcc.empty x c (PySem.mem_of_lookup q)).2,q⟩
  ·
   exact .inr (hcl x c q.2)
 have low : ∀ x c,X.env.cells.lookup x = some c -> c < s.heap.objs.size:=fun x c e => by
  obtain ⟨v,q⟩:=I.cell x c e
  exact q.lt
 have hok : (aO X N' scope (cellsFrom (C + 1) scope.names cl) pins s H C fp).Ok:=by
  refine ⟨I.ok.mod,S.kind,I.ok.glob,I.ok.blt,Nat.le_of_lt hC,fun x y c e1 e2 => ?_,fun x hx => ?_,fun x c z e => ?_,I.ok.hd,I.ok.frames,.inl rfl,fun b hb => ?_,I.bs,Nat.le_trans I.ok.bsz I.sz,fun b o e hb => ?_,fun b hb z => ?_,I.stack,I.stkFree⟩
  ·
   rcases two x c e1 with ⟨q1,p1⟩ | q1
   ·
    rcases two y c e2 with ⟨q2,p2⟩ | q2
    ·
     exact name_of_addr hcc.apart (PySem.mem_of_lookup p1) (PySem.mem_of_lookup p2)
    ·
     exact absurd (Nat.lt_of_lt_of_le (Nat.lt_succ_of_lt (Nat.lt_trans (low y c q2) hC)) q1) (Nat.lt_irrefl _)
   ·
    rcases two y c e2 with ⟨q2,p2⟩ | q2
    ·
     exact absurd (Nat.lt_of_lt_of_le (Nat.lt_succ_of_lt (Nat.lt_trans (low x c q1) hC)) q2) (Nat.lt_irrefl _)
    ·
     exact I.ok.inj x y c q1 q2
  ·
   have hx' : (relabel scope X.env).names.lookup x = some .cell \/ (relabel scope X.env).names.lookup x = some .free:=hx
   have hm : ∃ k,(x,k) ∈ (relabel scope X.env).names /\ (k = .cell \/ k = .free):=by
    rcases hx' with z | z
    ·
     exact ⟨_,PySem.mem_of_lookup z,.inl rfl⟩
    ·
     exact ⟨_,PySem.mem_of_lookup z,.inr rfl⟩
   obtain ⟨k,hm,hk⟩:=hm
   obtain ⟨⟨n,k0⟩,hm0,e⟩:=List.mem_map.mp hm
   have e' : (if (k0 == NameKind.free && X.env.scope.kind == .function && X.env.kindOf n == some .cell) = true then (n,NameKind.cell) else (n,k0)) = (x,k):=e
   by_cases hk0 : k0 = .free
   ·
    subst hk0
    have en : n = x:=by split at e' <;> exact congrArg Prod.fst e'
    subst en
    obtain ⟨c,ec⟩:=hclh (n,.free) hm0 rfl
    show ∃ c,(cellsFrom (C + 1) scope.names cl).lookup n = some c
    rw [aW,bH,ec]
    cases (cellsFrom (C + 1) scope.names []).lookup n with
    | none => exact ⟨c,rfl⟩
    | some d => exact ⟨d,rfl⟩
   ·
    have hb : (k0 == NameKind.free) = false:=by simpa using hk0
    rw [hb] at e'
    simp only [Bool.false_and,Bool.false_eq_true,if_false] at e'
    cases e'
    rcases hk with rfl | rfl
    ·
     obtain ⟨c,ec⟩:=da (n:=C + 1) (S.cells _ hm0 rfl)
     refine ⟨c,?_⟩
     show (cellsFrom (C + 1) scope.names cl).lookup _ = some c
     rw [aW,bH,ec]
     rfl
    ·
     exact absurd rfl hk0
  ·
   have z' : scope.names.lookup x = some .cell:=by simpa [aO] using z
   obtain ⟨d,ed⟩:=da (n:=C + 1) z'
   have e' : (cellsFrom (C + 1) scope.names cl).lookup x = some c:=e
   rw [aW,bH,ed] at e'
   cases e'
   have:=(hcc.empty x _ (PySem.mem_of_lookup ed)).2
   show s.heap.objs.size <= _
   omega
  ·
   obtain ⟨f0,f1,f2,f3,f4,f5⟩:=hf b hb
   refine ⟨fun z => absurd (hfl b hb) (Nat.not_lt.mpr (by rw [show b = C from z]; exact Nat.le_of_lt hC)),fun x c e => ?_⟩
   rcases two x c e with ⟨q,_⟩ | q
   ·
    intro z
    rw [z] at q
    exact absurd (Nat.lt_of_lt_of_le (Nat.lt_succ_of_lt (Nat.lt_trans (hfl b hb) hC)) q) (Nat.lt_irrefl _)
   ·
    exact f4 x c q
  ·
   obtain ⟨f0,f1,f2,f3,f4,f5⟩:=hf b hb
   rcases f3 with q | q
   ·
    exact I.ok.noex b o e q
   ·
    exact absurd (Heap.lt_size (I.ok.bs b o e).1) (Nat.not_lt.mpr q)
  ·
   obtain ⟨f0,f1,f2,f3,f4,f5⟩:=hf b hb
   rcases List.mem_cons.mp (I.stkSub b z) with q | q
   ·
    exact f1 q
   ·
    exact f2 q
 obtain ⟨m,hnm,hl⟩:=id I.loc
 refine ⟨hok,rfl,I.bare,Un.kept hk,⟨_,hn,fun i x v e1 e2 e3 => ?_⟩,fun x c e => ?_,I.hok.fresh (Nat.le_of_lt hC),fun x c e => ?_,fun p hp' => ?_,I.hok.kept hk,?_⟩
 ·
  -- a name of the block: one that it takes from around
  unfold fq at e2
  by_cases hi : i < nt
  ·
   rw [List.getElem?_append_left (by simpa using hi),List.getElem?_replicate] at e2
   split at e2 <;> cases e2
  ·
   obtain ⟨j,rfl⟩ : ∃ j,i = nt + j:=⟨i - nt,by omega⟩
   obtain ⟨k,ck,hN,hfree⟩:=S.caps j x e1
   rw [List.getElem?_append_right (by simp),List.length_replicate,Nat.add_sub_cancel_left,List.getElem?_map,ck] at e2
   have e2' : (σ[k]?).getD none = some v:=Option.some.inj e2
   have e2'' : σ[k]? = some (some v):=by
    cases q : σ[k]? with
    | none => rw [q] at e2'; cases e2'
    | some z => rw [q] at e2'; exact congrArg some e2'
   have hkd:=S.free (x,.free) (PySem.mem_of_lookup hfree) rfl
   obtain ⟨u,ru,lk⟩:=hl k x v hN e2'' (.inr hkd)
   refine ⟨u,ru,.inr ⟨cW hfree,?_⟩⟩
   rcases lk with ⟨kl,_⟩ | ⟨_,c,hc,hcell⟩
   ·
    rcases hkd with z | z <;> (rw [kl] at z; cases z)
   ·
    obtain ⟨c',hc'⟩:=hclh (x,.free) (PySem.mem_of_lookup hfree) rfl
    have e:=hcl x c' hc'
    rw [hc] at e; cases e
    obtain ⟨o,ho,hd⟩:=hcell
    refine ⟨c,?_,o,hk _ _ ho,hd⟩
    show (cellsFrom (C + 1) scope.names cl).lookup x = some c
    rw [aW,bH]
    cases q : (cellsFrom (C + 1) scope.names []).lookup x with
    | none => exact hc'
    | some d =>
     rcases c5 (PySem.mem_of_lookup q) with z | z
     ·
      have:=S.cells _ z rfl
      rw [hfree] at this
      cases this
     ·
      cases z
 ·
  rcases two x c e with ⟨_,q⟩ | q
  ·
   exact ⟨none,(hcc.empty x c (PySem.mem_of_lookup q)).1⟩
  ·
   obtain ⟨v,o,ho,hd⟩:=I.cell x c q
   exact ⟨v,o,hk _ _ ho,hd⟩
 ·
  rcases two x c e with ⟨q,_⟩ | q
  ·
   exact I.hok.fresh (Nat.le_of_lt (Nat.lt_of_lt_of_le (Nat.lt_succ_of_lt hC) q))
  ·
   exact I.freeC x c q
 ·
  rcases List.mem_append.mp hp' with z | z
  ·
   obtain ⟨e,n,n1,n2,d⟩:=I.pin p z
   refine ⟨hk _ _ e,n,fun q => ?_,fun q => ?_,d⟩
   ·
    exact absurd (Heap.lt_size e) (Nat.not_lt.mpr (by rw [show p.1 = C from q]; exact Nat.le_of_lt hC))
   ·
    rcases List.mem_cons.mp (I.stkSub p.1 q) with q | q
    ·
     exact n1 q
    ·
     exact n2 q
  ·
   obtain ⟨e,n,d⟩:=hp p z
   refine ⟨e,I.hok.fresh (by omega),fun q => ?_,fun q => ?_,d⟩
   ·
    exact absurd (n.trans (show p.1 = C from q)) (Nat.ne_of_lt hC)
   ·
    have:=I.stkSub p.1 q
    rcases List.mem_cons.mp this with q | q
    ·
     exact absurd I.lt (Nat.not_lt.mpr (by rw [<- q,n]; exact Nat.le_refl _))
    ·
     exact I.nofs (by omega) q
 ·
  unfold fq
  show _ = N'.length
  rw [List.length_append,List.length_replicate,List.length_map,S.len]
theorem HOk.track {P : Program} {w : World} {H : Hp} {h h' : Heap} {a C : Addr} {o : HO} (x : HOk P w H h) (hn : H a = none) (hC : H C = none) (k : ∀ b u,b ≠ C -> h.get? b = some u -> h'.get? b = some u) (new : ObjOk P w (upd H a o) h' a o) : HOk P w (upd H a o) h':=fun b u e => by
 by_cases hb : b = a
 ·
  subst hb; rw [aC] at e; cases e; exact new
 ·
  rw [aq hb] at e
  have nC : ∀ c z,H c = some z -> c ≠ C:=fun c z q r => by rw [r,hC] at q; cases q
  refine (x b u e).stay (fun c v hc q => k c v ?_ q) (fun c q => by rw [aq (aN q hn)]; exact q) fun c xs q => by rw [aq (aN q hn)]; exact q
  rcases hc with rfl | hc
  ·
   exact nC c u e
  ·
   exact nC c _ hc
theorem iF {X : Cx} {pins : List (Addr × Obj)} {σ : St} {H₂ : Hp} {s₂ : Shared} {N' : List Str} {nt : Nat} {cap : List Nat} {scope : Scope} {cl : List (Str × Addr)} {elt tg iter : Expr} {ifs : List Expr} {pos : Pos} {g : TG} {tt : TT} {te : TE}
  {it : Addr} {fp : List Addr} {tn : Nat -> Heap -> Prop} {J : It} {fin : List V -> Hp -> Prop} {E : Value -> Shared -> Prop} {RR : Value -> Addr -> Result -> Shared -> Prop}
  (hc : X.calm = true) (S : CompSc X N' nt cap scope) (hcl : ∀ x c,cl.lookup x = some c -> X.env.cells.lookup x = some c) (hclh : ∀ y ∈ scope.names,y.2 = .free -> ∃ c,cl.lookup y.1 = some c)
  (hX : ∀ cl pins s H C fp,PG (aO X N' scope cl pins s H C fp) tg g /\ PIf (aO X N' scope cl pins s H C fp) ifs tt /\ PE (aO X N' scope cl pins s H C fp) elt te)
  (I : Inv X pins σ H₂ s₂) (T : Turn X.prog X.w X.K tg J fp it tn) (st : tn 0 s₂.heap) (hf : ∀ b ∈ fp,fj X pins H₂ b) (hw : kB J g tt te fin (fq nt cap σ) H₂)
  (hRR : ∀ (D C : Addr) (s₄ : Shared) (m : Str -> Option Value) (ys : List V) (H' : Hp),s₄.heap.Ns C m -> s₂.heap.objs.size <= D -> s₂.heap.objs.size <= C -> C ≠ D -> H' D = none -> H' C = none -> ys.length <= sizeLine -> fin ys H' ->
   (∀ h',(∀ b o,b ≠ C -> s₄.heap.get? b = some o -> h'.get? b = some o) -> Inv X pins σ (upd H' D (.lst ys)) { s₄ with heap:=h' }) -> RR (.ref D) C (.ok .next) s₄) :
  wpAny (model X.prog X.w) X.A (newList []) (fun acc s₃ => wpAny (model X.prog X.w) X.A (newFunctionEnv scope X.env.globals cl [] X.env.qual none .none (some X.env)) (fun cenv s₄ =>
   codeAny (model X.prog X.w) X.A (.compStart (.ListComp elt [⟨tg,iter,ifs,0⟩] scope pos) 0 (.ref it) acc { cenv with scope:=relabel scope X.env }) (RR acc cenv.locals) s₄) E s₃) E s₂:=by
 refine wpAny_newObj_type (qr ?_)
 dsimp only
 generalize hH2 : s₂.heap.push { cls:=.type "list",dict:=none,data:=.seq ([] : List Value).toArray } = B
 generalize hD : s₂.heap.objs.size = D
 have hB : B.objs.size = D + 1:=by rw [<- hH2,Heap.size_push,hD]
 have hcc0 : CellsOk (pushCells (B.push { cls:=.type "dict",data:=.dict #[] }) scope.names) (B.objs.size + 1) (cellsFrom (B.objs.size + 1) scope.names []):=by
  have:=cellsFrom_ok scope.names (B.push { cls:=.type "dict",data:=.dict #[] }) (B.objs.size + 1) [] ⟨fun _ _ hm => (nomatch hm),List.Pairwise.nil⟩ (by rw [Heap.size_push]; exact Nat.le_refl _)
  rw [Heap.size_push] at this
  exact this
 have hns₁ : (pushCells (B.push { cls:=.type "dict",data:=.dict #[] }) scope.names).Ns B.objs.size fun _ => none:=(Heap.Ns.new B (.type "dict")).keeps (pushCells_keeps _ _)
 have kp₁ : ∀ b o,B.get? b = some o -> (pushCells (B.push { cls:=.type "dict",data:=.dict #[] }) scope.names).get? b = some o:=fun b o e => pushCells_keeps _ _ b o (Heap.get?_push_of_some _ e)
 generalize hCe : B.objs.size = C at hns₁ hcc0 ⊢
 generalize pushCells (B.push { cls:=.type "dict",data:=.dict #[] }) scope.names = h₁ at hns₁ hcc0 kp₁ ⊢
 have hCD : C = D + 1:=hCe.symm.trans hB
 have hDC : D ≠ C:=by rw [hCD]; exact Nat.ne_of_lt (Nat.lt_succ_self _)
 have hDlt : s₂.heap.objs.size < C:=by rw [hD,hCD]; exact Nat.lt_succ_self _
 have below : ∀ b o,s₂.heap.get? b = some o -> b ≠ C /\ b ≠ D:=fun b o e => by
  have:=Heap.lt_size e
  rw [hD] at this
  exact ⟨by rw [hCD]; exact Nat.ne_of_lt (Nat.lt_succ_of_lt this),Nat.ne_of_lt this⟩
 have old : ∀ b o,s₂.heap.get? b = some o -> h₁.get? b = some o:=fun b o e => kp₁ b o (hH2 ▸ Heap.get?_push_of_some _ e)
 have hacc : h₁.get? D = some { cls:=.type "list",data:=.seq ([] : List Value).toArray 0 }:=kp₁ _ _ (hH2 ▸ hD ▸ Heap.get?_push_size _ rfl)
 have hst₁ : tn 0 h₁:=T.keep _ _ _ st fun b hb o e => old b o e
 have hfl : ∀ b ∈ fp,b < s₂.heap.objs.size:=fun b hb => by obtain ⟨o,e,_⟩:=T.obj _ _ st b hb; exact Heap.lt_size e
 obtain ⟨W,⟨m0,w0⟩,turn⟩:=hw
 obtain ⟨hg,hi,he⟩:=hX (cellsFrom (C + 1) scope.names cl) pins s₂ H₂ C fp
 have stat : ∀ {H' : Hp} {k : Nat} {its : List Value},(∀ b ∈ fp,H' b = none) -> ∀ b ∈ fp,fj (aO X N' scope (cellsFrom (C + 1) scope.names cl) pins s₂ H₂ C fp) [(D,{ cls:=.type "list",data:=.seq its.toArray k })] H' b:=fun {H' k its} hn b hb => by
  obtain ⟨f0,f1,f2,f3,f4,f5⟩:=hf b hb
  have hlt:=hfl b hb
  refine ⟨hn b hb,fun z => ?_,fun z => ?_,.inl hb,fun x c e => ?_,fun p hp => ?_⟩
  ·
   rw [show b = C from z] at hlt; exact absurd hlt (Nat.not_lt.mpr (Nat.le_of_lt hDlt))
  ·
   rcases List.mem_cons.mp (I.stkSub b z) with q | q
   ·
    exact f1 q
   ·
    exact f2 q
  ·
   rcases cB e with q | q
   ·
    have:=(hcc0.empty x c (PySem.mem_of_lookup q)).2
    intro z
    rw [z] at this
    exact absurd (Nat.lt_of_lt_of_le (Nat.lt_succ_of_lt (Nat.lt_trans hlt hDlt)) this) (Nat.lt_irrefl _)
   ·
    exact f4 x c (hcl x c q.2)
  ·
   rcases List.mem_append.mp hp with z | z
   ·
    exact f5 p z
   ·
    rw [List.mem_singleton.mp z]
    intro e
    rw [<- (show D = b from e),hD] at hlt
    exact Nat.lt_irrefl _ hlt
 have loop : ∀ s₃ : Shared,s₃ = { s₂ with heap:=h₁ } -> codeAny (model X.prog X.w) X.A (.compLoop (.ListComp elt [⟨tg,iter,ifs,0⟩] scope pos) 0 (.ref it) (.ref D) (compEnvC scope (cellsFrom (C + 1) scope.names cl) C X.env)) (RR (.ref D) C) s₃:=by
  rintro s₃ rfl
  refine gF (fun n s' => ∃ i ys its k σ' H',Inv (aO X N' scope (cellsFrom (C + 1) scope.names cl) pins s₂ H₂ C fp) [(D,{ cls:=.type "list",data:=.seq its.toArray k })] σ' H' s' /\ Vals ys its /\ tn i s'.heap /\ (∀ b ∈ fp,H' b = none) /\ W i n ys σ' H' /\ ys.length <= sizeLine) ?_ m0
   ⟨0,[],[],0,fq nt cap σ,H₂,mJ (tk:=s₂.toks) S I hcl hclh hf hfl hDlt hns₁ old (fun p hp => ?_) hcc0,.nil,hst₁,fun b hb => (hf b hb).1,w0,Nat.zero_le _⟩
  ·
   rintro n s3 ⟨i,ys,its,k,σ3,H3,I3,rv,st3,fr3,w3,hz⟩
   have pD:=I3.pin (D,{ cls:=.type "list",data:=.seq its.toArray k }) (List.mem_append_right _ (List.mem_singleton.mpr rfl))
   rcases turn i n ys σ3 H3 w3 with ⟨stop,hz',hfin⟩ | ⟨go,step⟩
   ·
    refine thn (T.done (aO X N' scope (cellsFrom (C + 1) scope.names cl) pins s₂ H₂ C fp) rfl rfl rfl hc i _ s3 σ3 H3 (fun _ _ => False) I3 (stat fr3) st3 stop) fun r s4 ⟨hr,I4⟩ => ?_
    subst hr
    obtain ⟨m4,hn4,_⟩:=I4.loc
    have pD4:=I4.pin (D,{ cls:=.type "list",data:=.seq its.toArray k }) (List.mem_append_right _ (List.mem_singleton.mpr rfl))
    refine hRR D C s4 m4 ys H3 hn4 (by rw [hD]; exact Nat.le_refl _) (Nat.le_of_lt hDlt) (Ne.symm hDC) pD4.2.1 I4.free hz' hfin fun h' k' => ?_
    have nD : ∀ b u,H3 b = some u -> b ≠ D:=fun b u e z => by rw [z,pD4.2.1] at e; cases e
    have nDs : ∀ b o,s₂.heap.get? b = some o -> b ≠ D /\ b ≠ C:=fun b o e => ⟨(below b o e).2,(below b o e).1⟩
    have B4:=I4.base
    refine I.call' (s':={ s4 with heap:=h' }) (ch:=fp) I4.os ⟨fun b o e n hb hx => k' b o (nDs b o e).2 (B4.keep b o e n hb hx),fun b o e n hb hx => ?_,fun b o e n hx => ?_,fun b o e hx => ?_,fun b xs e => ?_,fun b o u e => ?_,fun b ps e => ?_⟩ ?_ I4.bare fun b hb => ?_
    ·
     obtain ⟨sl,q⟩:=B4.slot b o e n hb hx
     exact ⟨sl,k' b _ (nDs b o e).2 q⟩
    ·
     rw [aq (nDs b o e).1]; exact B4.free b o e n hx
    ·
     obtain ⟨o',q⟩:=B4.there b o e hx
     exact ⟨o',k' b _ (nDs b o e).2 q⟩
    ·
     have q:=B4.tups b xs e
     rw [aq (nD _ _ q)]; exact q
    ·
     have q:=B4.frzs b o u e
     rw [aq (nD _ _ q)]; exact q
    ·
     obtain ⟨more,q⟩:=B4.tbls b ps e
     exact ⟨more,by rw [aq (nD _ _ q)]; exact q⟩
    ·
     exact I4.hok.track pD4.2.1 I4.free k' ⟨hz',its,k,rv,k' D _ hDC pD4.1⟩
    ·
     obtain ⟨f0,f1,f2,f3,f4,f5⟩:=hf b hb
     exact ⟨f3,f1,f4,f5⟩
   ·
    refine thn (T.item (aO X N' scope (cellsFrom (C + 1) scope.names cl) pins s₂ H₂ C fp) rfl rfl rfl hc i _ s3 σ3 H3 (fun _ _ => False) I3 (stat fr3) st3 go) fun r s4 ⟨u,hr,h4⟩ => ?_
    subst hr
    refine thn h4 fun _ s5 ⟨x,H5,I5,r5,y5,st5,fr5⟩ => ?_
    have I5':=I5.pinned (stat fr5) (T.obj _ _ st5)
    refine thn (hg _ s5 σ3 H5 x u _ I5' r5 (step x H5 y5)) fun _ s6 ⟨σ6,H6,I6,q6⟩ => ?_
    refine thn (hi _ s6 σ6 H6 _ I6 q6) fun ok s7 ⟨H7,I7,q7⟩ => ?_
    have back : ∀ {σ8 : St} {H8 : Hp} {s8 : Shared},Inv (aO X N' scope (cellsFrom (C + 1) scope.names cl) pins s₂ H₂ C fp) ([(D,{ cls:=.type "list",data:=.seq its.toArray k })] ++ eD fp s5.heap) σ8 H8 s8 -> tn (i + 1) s8.heap /\ ∀ b ∈ fp,H8 b = none:=fun {σ8 H8 s8} I8 =>
     ⟨T.keep _ _ _ st5 fun b hb o e => (I8.pin (b,o) (List.mem_append_right _ (List.mem_append_right _ (cy hb e)))).1,fun b hb => by
      obtain ⟨o,e,d⟩:=T.obj _ _ st5 b hb
      exact (I8.pin (b,o) (List.mem_append_right _ (List.mem_append_right _ (cy hb e)))).2.1⟩
    cases ok with
    | false =>
     rw [if_neg Bool.false_ne_true] at q7 ⊢
     obtain ⟨m',hm,w7⟩:=q7
     exact ⟨m',hm,i + 1,ys,its,k,σ6,H7,I7.unpinned,rv,(back I7).1,(back I7).2,w7,hz⟩
    | true =>
     rw [if_pos rfl] at q7 ⊢
     refine thn (he _ s7 σ6 H7 _ I7 q7) fun uy s8 ⟨y,H8,I8,ry,hz8,m',hm,w8⟩ => ?_
     have pD8:=I8.pin (D,{ cls:=.type "list",data:=.seq its.toArray k }) (List.mem_append_right _ (List.mem_append_left _ (List.mem_singleton.mpr rfl)))
     have hl:=rv.length
     refine dY pD8.1 (by omega) fun h' k' e' kk => ?_
     have I9 : Inv (aO X N' scope (cellsFrom (C + 1) scope.names cl) pins s₂ H₂ C fp) [] σ6 H8 { s8 with heap:=h' }:=by
      refine Inv.turned (t':=s8.toks) (it:=D) (I8.pins_of (pins':=[]) (fun p hp => nomatch hp)) (fun b o hb e => kk b o hb e) pD8.2.1 pD8.2.2.1 (.inr (by show s₂.heap.objs.size <= D; rw [hD]; exact Nat.le_refl _)) (fun x c e z => ?_) (fun p hp z => ?_)
      ·
       rcases cB e with q | q
       ·
        have:=(hcc0.empty x c (PySem.mem_of_lookup q)).2
        rw [z,hCD] at this
        omega
       ·
        obtain ⟨v,q⟩:=I.cell x c (hcl x c q.2)
        have:=q.lt
        rw [z,hD] at this
        exact Nat.lt_irrefl _ this
      ·
       rw [List.append_nil] at hp
       have:=Heap.lt_size (I.pin p hp).1
       rw [z,hD] at this
       exact Nat.lt_irrefl _ this
     refine ⟨m',hm,i + 1,ys ++ [y],its ++ [uy],k',σ6,H8,I9.pins_of fun p hp => ?_,rv.append (.cons ry .nil),?_,(back I8).2,w8,?_⟩
     ·
      rw [List.mem_singleton.mp hp]
      exact ⟨e',pD8.2.1,pD8.2.2.1,pD8.2.2.2.1,fun v z => by cases z⟩
     ·
      refine T.keep _ _ _ (back I8).1 fun b hb o e => kk b o (fun z => ?_) e
      have:=hfl b hb
      rw [z,hD] at this
      exact Nat.lt_irrefl _ this
     ·
      rw [List.length_append,List.length_singleton]; omega
  ·
   rw [List.mem_singleton.mp hp]
   exact ⟨hacc,hD,fun v z => by cases z⟩
 exact codeAny_compStart_list (loop _ rfl) (T.self _ 0 _ _ _ hst₁ (loop _ rfl))
def xA (wi : TI) (g : TG) (tt : TT) (te : TE) (nt : Nat) (cap : List Nat) : TE:=fun σ H Q => wi σ H fun J H1 => kB J g tt te (fun ys H' => ∀ p,H' p = none -> Q (.ref p) (upd H' p (.lst ys))) (fq nt cap σ) H1
theorem qt {X : Cx} {N' : List Str} {nt : Nat} {cap : List Nat} {scope : Scope} {elt tg iter : Expr} {ifs : List Expr} {pos : Pos} {wi : TI} {g : TG} {tt : TT} {te : TE} (hc : X.calm = true) (S : CompSc X N' nt cap scope) (hi : PI X tg iter wi)
  (hX : ∀ cl pins s H C fp,PG (aO X N' scope cl pins s H C fp) tg g /\ PIf (aO X N' scope cl pins s H C fp) ifs tt /\ PE (aO X N' scope cl pins s H C fp) elt te)
  (hs : ∀ x,foldedSetIterable iter X.env x = pure x:=by intro _; rfl) : PE X (.ListComp elt [⟨tg,iter,ifs,0⟩] scope pos) (xA wi g tt te nt cap):=by
 intro pins s σ H Q I h
 rw [eval_ListComp]
 obtain ⟨cl,hclos,hcl,hclh⟩:=eJ (scope:=scope) (env:=X.env) fun y hy hf => I.ok.has y.1 (S.free y hy hf)
 refine wpAny_comprehension_free (use:=none) rfl hs hclos S.kind S.names (thn (hi pins s σ H _ I h) fun v s1 h1 => thn h1 fun itv s2 h2 => ?_)
 obtain ⟨it,fp,tn,J,H2,rfl,I2,T,st2,f2,hw⟩:=h2
 refine iF (RR:=fun acc C => compPost (model X.prog X.w) X.A X.xe none (EP X pins σ Q) acc C) hc S hcl hclh hX I2 T st2 f2 hw fun D C s4 m ys H' hn hD hC hDC nD nC hz hfin k => ?_
 refine ⟨m,hn,fun h' hs' => ?_⟩
 exact ⟨.ref D,_,k h' fun b o hb e => hs'.extBut b o hb e,rfl,hfin D nD⟩
def mK (wi : TI) (g : TG) (tt : TT) (te : TE) (nt : Nat) (cap : List Nat) (i : Nat) : TS:=fun D σ H => wi σ H fun J H1 => kB J g tt te (fun ys H' => ∀ p,H' p = none -> D.nx (σ.set i (some (.ref p))) (upd H' p (.lst ys))) (fq nt cap σ) H1
theorem qu {X : Cx} {N' : List Str} {nt : Nat} {cap : List Nat} {scope : Scope} {elt tg iter : Expr} {ifs : List Expr} {pos pos' spos : Pos} {wi : TI} {g : TG} {tt : TT} {te : TE} {i : Nat} {x : Str} (hc : X.calm = true) (hN : X.N.Nodup) (hi' : X.N[i]? = some x) (hx : Loc X.env.scope x) (S : CompSc X N' nt cap scope) (hi : PI X tg iter wi)
  (hX : ∀ cl pins s H C fp,PG (aO X N' scope cl pins s H C fp) tg g /\ PIf (aO X N' scope cl pins s H C fp) ifs tt /\ PE (aO X N' scope cl pins s H C fp) elt te)
  (hsw : swapsWith (.ListComp elt [⟨tg,iter,ifs,0⟩] scope pos) (some (.Name x pos')) spos.line X.env = pure true:=by rfl)
  (hs : ∀ x,foldedSetIterable iter X.env x = pure x:=by intro _; rfl) (hf : X.fn x = true \/ X.env.scope.names.lookup x = some .local:=by first | exact .inl rfl | exact .inr rfl | assumption) :
  PS X (.Assign [.Name x pos'] (.ListComp elt [⟨tg,iter,ifs,0⟩] scope pos) spos) (mK wi g tt te nt cap i):=by
 intro pins s σ H Dn I h
 rw [exec_Assign_Name_used _ _ _ _ hsw]
 obtain ⟨cl,hclos,hcl,hclh⟩:=eJ (scope:=scope) (env:=X.env) fun y hy hf => I.ok.has y.1 (S.free y hy hf)
 refine wpAny_bind (wpAny_standAt (wpAny_bind ?_))
 show wpAny _ X.A (do let _ <- comprehension (.ListComp elt [⟨tg,iter,ifs,0⟩] scope pos) scope X.env _ (newList []) false (eval iter X.env) (some (assign (.Name x pos') X.env))) _ _ s
 refine wpAny_bind (wpAny_mono (wpAny_comprehension_free (use:=some (assign (.Name x pos') X.env)) (Q:=fun _ s' => SP X pins Dn .next s') rfl hs hclos S.kind S.names
  (thn (hi pins s σ H _ I h) fun v s1 h1 => thn h1 fun itv s2 h2 => ?_)) (fun _ s' hq => wpAny_pure (wpAny_pure hq)) fun _ _ e => e)
 obtain ⟨it,fp,tn,J,H2,rfl,I2,T,st2,f2,hw⟩:=h2
 refine iF (RR:=fun acc C => compPost (model X.prog X.w) X.A X.xe (some (assign (.Name x pos') X.env)) (fun _ s' => SP X pins Dn .next s') acc C) hc S hcl hclh hX I2 T st2 f2 hw fun D C s4 m ys H' hn hD hC hDC nD nC hz hfin k => ?_
 show wpAny _ X.A (assign (.Name x pos') X.env (.ref D)) _ _ s4
 have I4:=k s4.heap fun b o _ e => e
 have nCL : C ≠ X.env.locals:=fun z => by have:=I2.lt; rw [<- z] at this; exact absurd this (Nat.not_lt.mpr hC)
 have nCc : ∀ y c,X.env.cells.lookup y = some c -> c ≠ C:=fun y c e z => by
  obtain ⟨v,q⟩:=I2.cell y c e
  have:=q.lt
  rw [z] at this
  exact absurd this (Nat.not_lt.mpr hC)
 refine wpAny_assign_Name (cP I4 hN hi' hx (show RelV (.ref D) (.ref D) from rfl) (fun s5 I5 ⟨a,sb,ha⟩ => ?_) hf)
 have nCa : C ≠ a:=by
  rcases ha with rfl | ha
  ·
   exact nCL
  ·
   exact fun z => nCc x a ha z.symm
 refine ⟨m,hn.sameBut sb nCa,fun h' hs' => ⟨_,_,Inv.turned (t':=s5.toks) (it:=C) I5 (fun b o hb e => hs'.extBut b o hb e) (by rw [aq hDC]; exact nC) nCL (.inr (Nat.le_trans I2.sz hC)) nCc (fun p hp z => ?_),hfin D nD⟩⟩
 have:=Heap.lt_size (I2.pin p hp).1
 rw [z] at this
 exact absurd this (Nat.not_lt.mpr hC)
def exP (e C : Addr) (d : Option Addr) (rd : Bool) (h : Heap) : Prop:=∃ vs sl,h.get? e = some ⟨.ref C,d,.fields vs,sl⟩ /\ (rd = true -> vs[1]? = some .none)
noncomputable def exO (e C : Addr) (d : Option Addr) (rd : Bool) : HO:=.ext (exP e C d rd)
def dxP (dx : Addr) (fs : List (Str × V)) (h : Heap) : Prop:=∃ mA,h.Ns1 dx mA /\ (∀ f,RelO (fs.lookup f) (mA f)) /\ PySem.Within mA (fs.map (·.1))
noncomputable def dxO (dx : Addr) (fs : List (Str × V)) : HO:=.ext (dxP dx fs)
section
variable {P : Program} {w : World} {H : Hp} {h : Heap} {e C dx : Addr} {d : Option Addr} {rd : Bool} {fs : List (Str × V)}
theorem exP.at {h1 h2 : Heap} (x : exP e C d rd h1) (k : ∀ o,h1.get? e = some o -> h2.get? e = some o) : exP e C d rd h2:=let ⟨vs,sl,a,b⟩:=x; ⟨vs,sl,k _ a,b⟩
theorem dxP.at {h1 h2 : Heap} (x : dxP dx fs h1) (k : ∀ o,h1.get? dx = some o -> h2.get? dx = some o) : dxP dx fs h2:=let ⟨mA,a,b⟩:=x; ⟨mA,a.at k,b⟩
theorem exO.ok (x : exP e C d rd h) : ObjOk P w H h e (exO e C d rd):=⟨x,let ⟨_,_,a,_⟩:=x; ⟨_,a⟩,fun _ _ y k => y.at k⟩
theorem dxO.ok (x : dxP dx fs h) : ObjOk P w H h dx (dxO dx fs):=⟨x,let ⟨_,⟨_,_,_,a,_⟩,_⟩:=x; ⟨_,a⟩,fun _ _ y k => y.at k⟩
theorem exO.of (x : HOk P w H h) (q : H e = some (exO e C d rd)) : exP e C d rd h:=(x e _ q).1
theorem dxO.of (x : HOk P w H h) (q : H dx = some (dxO dx fs)) : dxP dx fs h:=(x dx _ q).1
end
end L2
set_option maxHeartbeats 1000000
namespace L3
open L2
inductive T where
 | non | bl (b : Bool) | int (i : Int) | str (x : Str) | tup (ts : List T) | ref (a : Addr) | ty (n : String)
mutual
def Rep (K : PySem.W.Frag) (H : Hp) : T -> V -> Prop
 | .non,v => v = .non
 | .bl b,v => v = .bl b
 | .int i,v => v = .int i
 | .str x,v => v = .str x
 | .tup ts,v => ∃ a xs,v = .ref a /\ SqT K H a xs /\ Reps K H ts xs
 | .ref a,v => v = .ref a
 | .ty n,v => v = .ty n
def Reps (K : PySem.W.Frag) (H : Hp) : List T -> List V -> Prop
 | [],xs => xs = []
 | t :: ts,xs => ∃ x r,xs = x :: r /\ Rep K H t x /\ Reps K H ts r
end
def TupLe (K : PySem.W.Frag) (H H' : Hp) : Prop:=∀ a xs,SqT K H a xs -> SqT K H' a xs
theorem TupLe.refl {K : PySem.W.Frag} {H : Hp} : TupLe K H H:=fun _ _ h => h
theorem TupLe.trans {K : PySem.W.Frag} {H H1 H2 : Hp} (a : TupLe K H H1) (b : TupLe K H1 H2) : TupLe K H H2:=fun c xs h => b c xs (a c xs h)
mutual
theorem Rep.mono {K : PySem.W.Frag} {H H' : Hp} (le : TupLe K H H') : ∀ {t : T} {v : V},Rep K H t v -> Rep K H' t v
 | .non,_,h => by simp only [Rep] at h ⊢; exact h
 | .bl _,_,h => by simp only [Rep] at h ⊢; exact h
 | .int _,_,h => by simp only [Rep] at h ⊢; exact h
 | .str _,_,h => by simp only [Rep] at h ⊢; exact h
 | .ref _,_,h => by simp only [Rep] at h ⊢; exact h
 | .ty _,_,h => by simp only [Rep] at h ⊢; exact h
 | .tup ts,_,h => by
  simp only [Rep] at h ⊢
  obtain ⟨a,xs,e,s,r⟩:=h
  exact ⟨a,xs,e,le a xs s,Reps.mono le r⟩
theorem Reps.mono {K : PySem.W.Frag} {H H' : Hp} (le : TupLe K H H') : ∀ {ts : List T} {xs : List V},Reps K H ts xs -> Reps K H' ts xs
 | [],_,h => by simp only [Reps] at h ⊢; exact h
 | t :: ts,_,h => by
  simp only [Reps] at h ⊢
  obtain ⟨x,r,e,a,b⟩:=h
  exact ⟨x,r,e,Rep.mono le a,Reps.mono le b⟩
end
section
variable {K : PySem.W.Frag} {H : Hp}
theorem Reps.nil : Reps K H [] []:=by simp only [Reps]
theorem Reps.cons {t : T} {v : V} {ts : List T} {vs : List V} (a : Rep K H t v) (b : Reps K H ts vs) : Reps K H (t :: ts) (v :: vs):=by simp only [Reps]; exact ⟨v,vs,rfl,a,b⟩
theorem Reps.inv {t : T} {ts : List T} {vs : List V} (h : Reps K H (t :: ts) vs) : ∃ v r,vs = v :: r /\ Rep K H t v /\ Reps K H ts r:=by simp only [Reps] at h; exact h
theorem Reps.inv0 {vs : List V} (h : Reps K H [] vs) : vs = []:=by simp only [Reps] at h; exact h
theorem Reps.length : ∀ {ts : List T} {vs : List V},Reps K H ts vs -> ts.length = vs.length
 | [],_,h => by rw [h.inv0]; rfl
 | t :: ts,_,h => by obtain ⟨v,r,rfl,_,b⟩:=h.inv; simp [Reps.length b]
theorem Reps.get : ∀ {ts : List T} {vs : List V} {i : Nat} {t : T},Reps K H ts vs -> ts[i]? = some t -> ∃ v,vs[i]? = some v /\ Rep K H t v
 | [],_,_,_,_,e => by simp at e
 | a :: ts,_,0,t,h,e => by obtain ⟨v,r,rfl,q,_⟩:=h.inv; simp at e; subst e; exact ⟨v,rfl,q⟩
 | a :: ts,_,i + 1,t,h,e => by obtain ⟨v,r,rfl,_,b⟩:=h.inv; simpa using Reps.get b (by simpa using e)
theorem Reps.get' : ∀ {ts : List T} {vs : List V} {i : Nat} {v : V},Reps K H ts vs -> vs[i]? = some v -> ∃ t,ts[i]? = some t /\ Rep K H t v
 | [],_,_,_,h,e => by rw [h.inv0] at e; simp at e
 | a :: ts,_,0,v,h,e => by obtain ⟨x,r,rfl,q,_⟩:=h.inv; simp at e; subst e; exact ⟨a,rfl,q⟩
 | a :: ts,_,i + 1,v,h,e => by obtain ⟨x,r,rfl,_,b⟩:=h.inv; simpa using Reps.get' b (by simpa using e)
theorem Reps.append : ∀ {ts us : List T} {xs ys : List V},Reps K H ts xs -> Reps K H us ys -> Reps K H (ts ++ us) (xs ++ ys)
 | [],_,_,_,h,h' => by rw [h.inv0]; exact h'
 | t :: ts,_,_,_,h,h' => by obtain ⟨v,r,rfl,a,b⟩:=h.inv; exact .cons a (Reps.append b h')
theorem Reps.take : ∀ {ts : List T} {xs : List V} (n : Nat),Reps K H ts xs -> Reps K H (ts.take n) (xs.take n)
 | [],_,n,h => by rw [h.inv0]; simp only [List.take_nil]; exact .nil
 | t :: ts,_,0,h => .nil
 | t :: ts,_,n + 1,h => by obtain ⟨v,r,rfl,a,b⟩:=h.inv; exact .cons a (Reps.take n b)
theorem Reps.drop : ∀ {ts : List T} {xs : List V} (n : Nat),Reps K H ts xs -> Reps K H (ts.drop n) (xs.drop n)
 | [],_,n,h => by rw [h.inv0]; simp only [List.drop_nil]; exact .nil
 | t :: ts,_,0,h => h
 | t :: ts,_,n + 1,h => by obtain ⟨v,r,rfl,a,b⟩:=h.inv; exact Reps.drop n b
theorem Reps.set : ∀ {ts : List T} {xs : List V} {t : T} {v : V} (n : Nat),Reps K H ts xs -> Rep K H t v -> Reps K H (ts.set n t) (xs.set n v)
 | [],_,_,_,n,h,r => by rw [h.inv0]; exact .nil
 | t :: ts,_,_,_,0,h,q => by obtain ⟨v,r,rfl,a,b⟩:=h.inv; exact .cons q b
 | t :: ts,_,_,_,n + 1,h,q => by obtain ⟨v,r,rfl,a,b⟩:=h.inv; exact .cons a (Reps.set n b q)
theorem Reps.eraseIdx : ∀ {ts : List T} {xs : List V} (n : Nat),Reps K H ts xs -> Reps K H (ts.eraseIdx n) (xs.eraseIdx n)
 | [],_,n,h => by rw [h.inv0]; exact .nil
 | t :: ts,_,0,h => by obtain ⟨v,r,rfl,a,b⟩:=h.inv; exact b
 | t :: ts,_,n + 1,h => by obtain ⟨v,r,rfl,a,b⟩:=h.inv; exact .cons a (Reps.eraseIdx n b)
theorem Rep.non {v : V} (h : Rep K H .non v) : v = .non:=by simp only [Rep] at h; exact h
theorem Rep.bl {b : Bool} {v : V} (h : Rep K H (.bl b) v) : v = .bl b:=by simp only [Rep] at h; exact h
theorem Rep.int {i : Int} {v : V} (h : Rep K H (.int i) v) : v = .int i:=by simp only [Rep] at h; exact h
theorem Rep.str {x : Str} {v : V} (h : Rep K H (.str x) v) : v = .str x:=by simp only [Rep] at h; exact h
theorem Rep.ref {a : Addr} {v : V} (h : Rep K H (.ref a) v) : v = .ref a:=by simp only [Rep] at h; exact h
theorem Rep.ty {n : String} {v : V} (h : Rep K H (.ty n) v) : v = .ty n:=by simp only [Rep] at h; exact h
theorem Rep.tup {ts : List T} {v : V} (h : Rep K H (.tup ts) v) : ∃ a xs,v = .ref a /\ SqT K H a xs /\ Reps K H ts xs:=by simp only [Rep] at h; exact h
theorem Rep.ofNon : Rep K H .non .non:=by simp only [Rep]
theorem Rep.ofBl {b : Bool} : Rep K H (.bl b) (.bl b):=by simp only [Rep]
theorem Rep.ofInt {i : Int} : Rep K H (.int i) (.int i):=by simp only [Rep]
theorem Rep.ofStr {x : Str} : Rep K H (.str x) (.str x):=by simp only [Rep]
theorem Rep.ofRef {a : Addr} : Rep K H (.ref a) (.ref a):=by simp only [Rep]
theorem Rep.ofTy {n : String} : Rep K H (.ty n) (.ty n):=by simp only [Rep]
theorem Rep.ofTup {ts : List T} {a : Addr} {xs : List V} (h : SqT K H a xs) (r : Reps K H ts xs) : Rep K H (.tup ts) (.ref a):=by simp only [Rep]; exact ⟨a,xs,rfl,h,r⟩
end
inductive O3 where
 | lst (ts : List T) | rol (ts : List T) | dct (kvs : List (Str × T)) | dcp (kvs : List (List Key × T))
 | exc (C dx : Addr) | xdt (fs : List (Str × T))
abbrev Hp3:=Addr -> Option O3
noncomputable def up3 (H : Hp3) (a : Addr) (o : O3) : Hp3:=fun b => if b = a then some o else H b
theorem ai {H : Hp3} {a : Addr} {o : O3} : up3 H a o a = some o:=by unfold up3; rw [if_pos rfl]
theorem aj {H : Hp3} {a b : Addr} {o : O3} (h : b ≠ a) : up3 H a o b = H b:=by unfold up3; rw [if_neg h]
theorem qw {H : Hp3} {a : Addr} {o u : O3} : up3 (up3 H a o) a u = up3 H a u:=by funext b; unfold up3; split <;> rfl
def RepD (K : PySem.W.Frag) (H : Hp) : List (Str × T) -> List (Key × V) -> Prop:=Paired fun (p : Str × T) (q : Key × V) => q.1 = Sum.inr p.1 /\ Rep K H p.2 q.2
def RepP (K : PySem.W.Frag) (H : Hp) : List (List Key × T) -> List (List Key × V) -> Prop:=Paired fun (p : List Key × T) (q : List Key × V) => q.1 = p.1 /\ Rep K H p.2 q.2
def RepF (K : PySem.W.Frag) (H : Hp) : List (Str × T) -> List (Str × V) -> Prop:=Paired fun (p : Str × T) (q : Str × V) => q.1 = p.1 /\ Rep K H p.2 q.2
def RepO (K : PySem.W.Frag) (H : Hp) (a : Addr) : O3 -> Prop
 | .lst ts => ∃ xs,H a = some (.lst xs) /\ Reps K H ts xs
 | .rol ts => ∃ xs,Rd H a (.lst xs) /\ Reps K H ts xs
 | .dct kvs => ∃ vs,H a = some (.dK vs) /\ RepD K H kvs vs
 | .dcp kvs => ∃ vs,H a = some (.dT vs) /\ RepP K H kvs vs
 | .exc C dx => H a = some (exO a C (some dx) false)
 | .xdt fs => ∃ vs,H a = some (dxO a vs) /\ RepF K H fs vs
def SimH (K : PySem.W.Frag) (H3 : Hp3) (H : Hp) : Prop:=∀ a o,H3 a = some o -> RepO K H a o
abbrev St3:=List (Option T)
structure SimS (K : PySem.W.Frag) (H : Hp) (σ3 : St3) (σ : L2.St) : Prop where
 len : σ3.length = σ.length
 at' : ∀ (i : Nat) (t : T),σ3[i]? = some (some t) -> ∃ v,σ[i]? = some (some v) /\ Rep K H t v
section
variable {K : PySem.W.Frag} {H H' : Hp} {H3 : Hp3} {σ3 : St3} {σ : L2.St}
theorem SimS.mono (s : SimS K H σ3 σ) (le : TupLe K H H') : SimS K H' σ3 σ:=⟨s.len,fun i t e => let ⟨v,e',r⟩:=s.at' i t e; ⟨v,e',r.mono le⟩⟩
theorem SimS.set (s : SimS K H σ3 σ) {i : Nat} {t : T} {v : V} (r : Rep K H t v) : SimS K H (σ3.set i (some t)) (σ.set i (some v)):=by
 refine ⟨by simp [s.len],fun j u e => ?_⟩
 by_cases hj : i = j
 ·
  subst hj
  by_cases hl : i < σ3.length
  ·
   rw [List.getElem?_set_self hl] at e
   have e' : t = u:=Option.some.inj (Option.some.inj e)
   subst e'
   exact ⟨v,by rw [List.getElem?_set_self (by rw [<- s.len]; exact hl)],r⟩
  ·
   rw [List.getElem?_eq_none (by simpa using hl)] at e; cases e
 ·
  rw [List.getElem?_set_ne hj] at e
  rw [List.getElem?_set_ne hj]
  exact s.at' j u e
theorem RepD.mono {kvs : List (Str × T)} {vs : List (Key × V)} (h : RepD K H kvs vs) (le : TupLe K H H') : RepD K H' kvs vs:=Paired.mapP h fun _ _ ⟨a,b⟩ => ⟨a,b.mono le⟩
theorem RepF.mono {kvs : List (Str × T)} {vs : List (Str × V)} (h : RepF K H kvs vs) (le : TupLe K H H') : RepF K H' kvs vs:=Paired.mapP h fun _ _ ⟨a,b⟩ => ⟨a,b.mono le⟩
theorem RepP.mono {kvs : List (List Key × T)} {vs : List (List Key × V)} (h : RepP K H kvs vs) (le : TupLe K H H') : RepP K H' kvs vs:=Paired.mapP h fun _ _ ⟨a,b⟩ => ⟨a,b.mono le⟩
theorem a5 {a b : Addr} {o : O3} (h : H3 a = some o) (h' : H3 b = none) : a ≠ b:=by
 intro e; subst e; rw [h] at h'; cases h'
theorem ar {p : Addr} {o : HO} (hp : H p = none) : TupLe K H (upd H p o):=fun a xs h => by
 rcases h with (h | ⟨ob,h⟩) | h
 ·
  exact .inl (.inl (by rw [aq (aN h hp)]; exact h))
 ·
  exact .inl (.inr ⟨ob,by rw [aq (aN h hp)]; exact h⟩)
 ·
  exact .inr h
theorem bB {p : Addr} {o : HO} (hp : Mut (H p)) : TupLe K H (upd H p o):=fun a xs h => by
 have key : ∀ u,H a = some u -> ¬ Mut (some u) -> a ≠ p:=fun u e nm z => by subst z; rw [e] at hp; exact nm hp
 rcases h with (h | ⟨ob,h⟩) | h
 ·
  exact .inl (.inl (by rw [aq (key _ h fun z => z)]; exact h))
 ·
  exact .inl (.inr ⟨ob,by rw [aq (key _ h fun z => z)]; exact h⟩)
 ·
  exact .inr h
theorem RepO.stay {a : Addr} {o : O3} (h : RepO K H a o) (le : TupLe K H H') (keep : ∀ u,H a = some u -> H' a = some u) : RepO K H' a o:=by
 cases o with
 | lst ts => obtain ⟨xs,e,r⟩:=h; exact ⟨xs,keep _ e,r.mono le⟩
 | rol ts =>
  obtain ⟨xs,e,r⟩:=h
  refine ⟨xs,?_,r.mono le⟩
  rcases e with e | ⟨ob,e⟩
  ·
   exact .inl (keep _ e)
  ·
   exact .inr ⟨ob,keep _ e⟩
 | dct kvs => obtain ⟨vs,e,r⟩:=h; exact ⟨vs,keep _ e,r.mono le⟩
 | dcp kvs => obtain ⟨vs,e,r⟩:=h; exact ⟨vs,keep _ e,r.mono le⟩
 | exc C dx => exact keep _ h
 | xdt fs => obtain ⟨vs,e,r⟩:=h; exact ⟨vs,keep _ e,r.mono le⟩
theorem SimH.new {p : Addr} {o : HO} (s : SimH K H3 H) (hp : H p = none) : SimH K H3 (upd H p o):=fun a u e =>
 (s a u e).stay (ar hp) fun w q => by rw [aq (aN q hp)]; exact q
theorem SimH.fresh {p : Addr} (s : SimH K H3 H) (hp : H p = none) : H3 p = none:=by
 cases e : H3 p with
 | none => rfl
 | some o =>
  have q:=s p o e
  cases o with
  | lst ts => obtain ⟨xs,z,_⟩:=q; rw [hp] at z; cases z
  | dct ts => obtain ⟨xs,z,_⟩:=q; rw [hp] at z; cases z
  | dcp ts => obtain ⟨xs,z,_⟩:=q; rw [hp] at z; cases z
  | exc C dx => have z : H p = _:=q; rw [hp] at z; cases z
  | xdt ts => obtain ⟨xs,z,_⟩:=q; rw [hp] at z; cases z
  | rol ts =>
   obtain ⟨xs,z,_⟩:=q
   rcases z with z | ⟨ob,z⟩
   ·
    rw [hp] at z; cases z
   ·
    rw [hp] at z; cases z
end
abbrev VK3:=T -> Hp3 -> Prop
abbrev TE3:=St3 -> Hp3 -> VK3 -> Prop
abbrev TT3:=St3 -> Hp3 -> (Bool -> Hp3 -> Prop) -> Prop
abbrev TA3:=St3 -> Hp3 -> (List T -> Hp3 -> Prop) -> Prop
structure Ends3 where
 nx : St3 -> Hp3 -> Prop
 rt : VK3
 bk : St3 -> Hp3 -> Prop:=fun _ _ => False
 ct : St3 -> Hp3 -> Prop:=fun _ _ => False
abbrev TS3:=Ends3 -> St3 -> Hp3 -> Prop
abbrev TG3:=T -> St3 -> Hp3 -> (St3 -> Hp3 -> Prop) -> Prop
abbrev ft:=List T -> St3 -> Hp3 -> (St3 -> Hp3 -> Prop) -> Prop
abbrev R3:=T -> T -> Hp3 -> VK3 -> Prop
section
variable (K : PySem.W.Frag)
def KV3 (H : Hp) (Q3 : VK3) (Q : VK) : Prop:=∀ v H' t H3',TupLe K H H' -> SimH K H3' H' -> Rep K H' t v -> Q3 t H3' -> Q v H'
def KS3 (H : Hp) (N3 : St3 -> Hp3 -> Prop) (N : L2.St -> Hp -> Prop) : Prop:=∀ σ' H' σ3' H3',TupLe K H H' -> SimS K H' σ3' σ' -> SimH K H3' H' -> N3 σ3' H3' -> N σ' H'
def lft (t3 : TE3) : TE:=fun σ H Q => ∃ σ3 H3 Q3,SimS K H σ3 σ /\ SimH K H3 H /\ t3 σ3 H3 Q3 /\ KV3 K H Q3 Q
def lL (t3 : TT3) : TT:=fun σ H Q => ∃ σ3 H3 Q3,SimS K H σ3 σ /\ SimH K H3 H /\ t3 σ3 H3 Q3 /\ ∀ b H' H3',TupLe K H H' -> SimH K H3' H' -> Q3 b H3' -> Q b H'
def zP (t3 : TA3) : TA:=fun σ H Q => ∃ σ3 H3 Q3,SimS K H σ3 σ /\ SimH K H3 H /\ t3 σ3 H3 Q3 /\ ∀ vs H' ts H3',TupLe K H H' -> SimH K H3' H' -> Reps K H' ts vs -> Q3 ts H3' -> Q vs H'
def qx (t3 : TS3) : TS:=fun D σ H => ∃ σ3 H3 D3,SimS K H σ3 σ /\ SimH K H3 H /\ t3 D3 σ3 H3 /\ KS3 K H D3.nx D.nx /\ KV3 K H D3.rt D.rt /\ KS3 K H D3.bk D.bk /\ KS3 K H D3.ct D.ct
def qy (t3 : TG3) : TG:=fun v σ H Q => ∃ t σ3 H3 Q3,Rep K H t v /\ SimS K H σ3 σ /\ SimH K H3 H /\ t3 t σ3 H3 Q3 /\ KS3 K H Q3 Q
def xB (t3 : ft) : TGs:=fun vs σ H Q => ∃ ts σ3 H3 Q3,Reps K H ts vs /\ SimS K H σ3 σ /\ SimH K H3 H /\ t3 ts σ3 H3 Q3 /\ KS3 K H Q3 Q
def ug (r3 : R3) : R2:=fun x y H Q => ∃ tx ty H3 Q3,Rep K H tx x /\ Rep K H ty y /\ SimH K H3 H /\ r3 tx ty H3 Q3 /\ KV3 K H Q3 Q
def zQ (r3 : List T -> Hp3 -> VK3 -> Prop) : List V -> Hp -> VK -> Prop:=fun xs H Q => ∃ ts H3 Q3,Reps K H ts xs /\ SimH K H3 H /\ r3 ts H3 Q3 /\ KV3 K H Q3 Q
def zR (r3 : T -> List T -> Hp3 -> VK3 -> Prop) : V -> List V -> Hp -> VK -> Prop:=fun x xs H Q => ∃ tx ts H3 Q3,Rep K H tx x /\ Reps K H ts xs /\ SimH K H3 H /\ r3 tx ts H3 Q3 /\ KV3 K H Q3 Q
end
section
variable {K : PySem.W.Frag} {H H1 : Hp}
theorem KV3.at {Q3 : VK3} {Q : VK} (k : KV3 K H Q3 Q) (le : TupLe K H H1) : KV3 K H1 Q3 Q:=fun v H' t H3' l => k v H' t H3' (le.trans l)
theorem KS3.at {N3 : St3 -> Hp3 -> Prop} {N : L2.St -> Hp -> Prop} (k : KS3 K H N3 N) (le : TupLe K H H1) : KS3 K H1 N3 N:=fun a b c d l => k a b c d (le.trans l)
end
def PE3 (X : Cx) (e : Expr) (t : TE3) : Prop:=PE X e (lft X.K t)
def PT3 (X : Cx) (e : Expr) (t : TT3) : Prop:=PT X e (lL X.K t)
def PW3 (X : Cx) (e : Expr) (t : TT3) : Prop:=PW X e (lL X.K t)
def PA3 (X : Cx) (es : List Expr) (t : TA3) : Prop:=PA X es (zP X.K t)
def PS3 (X : Cx) (st : Stmt) (t : TS3) : Prop:=PS X st (qx X.K t)
def db (X : Cx) (st : List Stmt) (t : TS3) : Prop:=PSs X st (qx X.K t)
def PG3 (X : Cx) (e : Expr) (t : TG3) : Prop:=PG X e (qy X.K t)
def qz (X : Cx) (es : List Expr) (t : ft) : Prop:=PGs X es (xB X.K t)
def cC (X : Cx) (f : Value -> Value -> Sem Value) (r : R3) : Prop:=OpR X f (ug X.K r)
def bI (X : Cx) (f : Value) (r : List T -> Hp3 -> VK3 -> Prop) : Prop:=CallR X f (zQ X.K r)
def xC (X : Cx) (r : R3) : Prop:=IxR X (ug X.K r)
def jy (X : Cx) (id : String) (r : T -> List T -> Hp3 -> VK3 -> Prop) : Prop:=MtR X id (zR X.K r)
theorem PE.imp {X : Cx} {e : Expr} {t t' : TE} (h : PE X e t) (w : ∀ σ H Q,t' σ H Q -> t σ H Q) : PE X e t':=fun pins s σ H Q I q => h pins s σ H Q I (w σ H Q q)
theorem PT.imp {X : Cx} {e : Expr} {t t' : TT} (h : PT X e t) (w : ∀ σ H Q,t' σ H Q -> t σ H Q) : PT X e t':=fun pins s σ H Q I q => h pins s σ H Q I (w σ H Q q)
theorem PW.imp {X : Cx} {e : Expr} {t t' : TT} (h : PW X e t) (w : ∀ σ H Q,t' σ H Q -> t σ H Q) : PW X e t':=fun wh pins s σ H Q I q => h wh pins s σ H Q I (w σ H Q q)
theorem PA.imp {X : Cx} {es : List Expr} {t t' : TA} (h : PA X es t) (w : ∀ σ H Q,t' σ H Q -> t σ H Q) : PA X es t':=fun pos pins s σ H Q I q => h pos pins s σ H Q I (w σ H Q q)
theorem PS.imp {X : Cx} {e : Stmt} {t t' : TS} (h : PS X e t) (w : ∀ D σ H,t' D σ H -> t D σ H) : PS X e t':=fun pins s σ H D I q => h pins s σ H D I (w D σ H q)
theorem PSs.imp {X : Cx} {e : List Stmt} {t t' : TS} (h : PSs X e t) (w : ∀ D σ H,t' D σ H -> t D σ H) : PSs X e t':=fun pins s σ H D I q => h pins s σ H D I (w D σ H q)
theorem PG.imp {X : Cx} {e : Expr} {t t' : TG} (h : PG X e t) (w : ∀ v σ H Q,t' v σ H Q -> t v σ H Q) : PG X e t':=fun pins s σ H v u Q I r q => h pins s σ H v u Q I r (w v σ H Q q)
theorem PGs.imp {X : Cx} {e : List Expr} {t t' : TGs} (h : PGs X e t) (w : ∀ v σ H Q,t' v σ H Q -> t v σ H Q) : PGs X e t':=fun pins s σ H v u Q I r q => h pins s σ H v u Q I r (w v σ H Q q)
theorem OpR.imp {X : Cx} {f : Value -> Value -> Sem Value} {t t' : R2} (h : OpR X f t) (w : ∀ x y H Q,t' x y H Q -> t x y H Q) : OpR X f t':=fun pins s σ H x y v u Q I r1 r2 q => h pins s σ H x y v u Q I r1 r2 (w x y H Q q)
theorem CallR.imp {X : Cx} {f : Value} {t t' : List V -> Hp -> VK -> Prop} (h : CallR X f t) (w : ∀ x H Q,t' x H Q -> t x H Q) : CallR X f t':=fun pins s σ H x v Q I r1 q => h pins s σ H x v Q I r1 (w x H Q q)
theorem IxR.imp {X : Cx} {t t' : R2} (h : IxR X t) (w : ∀ x y H Q,t' x y H Q -> t x y H Q) : IxR X t':=fun a b pins s σ H x y v u Q I r1 r2 q => h a b pins s σ H x y v u Q I r1 r2 (w x y H Q q)
theorem MtR.imp {X : Cx} {id : String} {t t' : V -> List V -> Hp -> VK -> Prop} (h : MtR X id t) (w : ∀ x xs H Q,t' x xs H Q -> t x xs H Q) : MtR X id t':=fun pins s σ H x xs v us Q I r1 r2 q => h pins s σ H x xs v us Q I r1 r2 (w x xs H Q q)
section
variable {X : Cx} {pos : Pos}
def aJ (i : Nat) : TE3:=fun σ H Q => match σ[i]? with
 | some (some t) => Q t H
 | _ => False
def tC3 (t : T) : TE3:=fun _ H Q => Q t H
theorem v3 (i : Nat) {x : Str} {pos : Pos} (hN : X.N[i]? = some x:=by rfl) (hv : Vis X.env.scope x:=by first | exact Or.inl rfl | exact Or.inr (Or.inl rfl) | exact Or.inr (Or.inr rfl)) (hd : (x == ("__debug__" : Str)) = false:=by decide)
  (hcd : (x == ("__classdict__" : Str)) = false:=by decide) : PE3 X (.Name x pos) (aJ i):=by
 refine PE.imp (pv i hN hv hd hcd) ?_
 rintro σ H Q ⟨σ3,H3,Q3,ss,sh,h,k⟩
 unfold aJ at h
 split at h
 ·
  rename_i t e
  obtain ⟨v,e',r⟩:=ss.at' i t e
  exact ⟨v,e',k v H t H3 .refl sh r h⟩
 ·
  exact h.elim
theorem af {i : Int} {j : Nat} : PE3 X (.Constant (.int i) j pos) (tC3 (.int i)):=by
 refine PE.imp tD ?_
 rintro σ H Q ⟨σ3,H3,Q3,ss,sh,h,k⟩
 exact k _ _ _ H3 .refl sh .ofInt h
theorem dc {b : Bool} {j : Nat} : PE3 X (.Constant (.bool b) j pos) (tC3 (.bl b)):=by
 refine PE.imp wJ ?_
 rintro σ H Q ⟨σ3,H3,Q3,ss,sh,h,k⟩
 exact k _ _ _ H3 .refl sh .ofBl h
theorem uh {j : Nat} : PE3 X (.Constant .none j pos) (tC3 .non):=by
 refine PE.imp tE ?_
 rintro σ H Q ⟨σ3,H3,Q3,ss,sh,h,k⟩
 exact k _ _ _ H3 .refl sh .ofNon h
theorem bf {x : Str} {j : Nat} : PE3 X (.Constant (.str x) j pos) (tC3 (.str x)):=by
 refine PE.imp tF ?_
 rintro σ H Q ⟨σ3,H3,Q3,ss,sh,h,k⟩
 exact k _ _ _ H3 .refl sh .ofStr h
theorem g3 {x : Str} {t : T} {v : V} {u : Value} (hg : Gl X x) (hm : X.mg x = some u) (r : RelV v u) (rt : ∀ H,Rep X.K H t v) (hd : (x == ("__debug__" : Str)) = false:=by decide) : PE3 X (.Name x pos) (tC3 t):=by
 refine PE.imp (pU hg hm r hd) ?_
 rintro σ H Q ⟨σ3,H3,Q3,ss,sh,h,k⟩
 exact k _ _ _ H3 .refl sh (rt H) h
end
section
variable {X : Cx} {a b c : Expr} {ta tb tc : TE3} {pos : Pos}
def bJ (r : R3) (ta tb : TE3) : TE3:=fun σ H Q => ta σ H fun x H1 => tb σ H1 fun y H2 => r x y H2 Q
theorem cS {r : R3} {σ : L2.St} {H : Hp} {Q : VK} (h : lft X.K (bJ r ta tb) σ H Q) : tOp (ug X.K r) (lft X.K ta) (lft X.K tb) σ H Q:=by
 obtain ⟨σ3,H3,Q3,ss,sh,h,k⟩:=h
 exact ⟨σ3,H3,_,ss,sh,h,fun x H1 tx H31 le1 sh1 rx q1 => ⟨σ3,H31,_,ss.mono le1,sh1,q1,fun y H2 ty H32 le2 sh2 ry q2 => ⟨tx,ty,H32,Q3,rx.mono le2,ry,sh2,q2,k.at (le1.trans le2)⟩⟩⟩
theorem am {op : Operator} {r : R3} (ho : cC X (binaryOp op) r) (ha : PE3 X a ta) (hb : PE3 X b tb) : PE3 X (.BinOp a op b pos) (bJ r ta tb):=PE.imp (wX ho ha hb) fun _ _ _ h => cS h
theorem bQ {op : CmpOp} {r : R3} (ho : cC X (compareOp op) r) (ha : PE3 X a ta) (hb : PE3 X b tb) (hm : behindInMarks op b = false:=by first | exact mw _ | rfl) : PE3 X (.Compare a [op] [b] pos) (bJ r ta tb):=PE.imp (p9 ho ha hb hm) fun _ _ _ h => cS h
theorem aw {r : R3} (hr : xC X r) (ha : PE3 X a ta) (hb : PE3 X b tb) (hs : ky b:=by exact fun _ _ => rfl) : PE3 X (.Subscript a b pos) (bJ r ta tb):=PE.imp (xl hr ha hb hs) fun _ _ _ h => cS h
def cD (t : TE3) : TT3:=fun σ H Q => t σ H fun x H' => match x with
 | .bl k => Q k H'
 | _ => False
theorem aU {op : CmpOp} {r : R3} (ho : cC X (compareOp op) r) (ha : PE3 X a ta) (hb : PE3 X b tb) (hm : behindInMarks op b = false:=by first | exact mw _ | rfl) : PT3 X (.Compare a [op] [b] pos) (cD (bJ r ta tb)):=by
 refine PT.imp (qa ho ha hb hm) ?_
 rintro σ H Q ⟨σ3,H3,Q3,ss,sh,h,k⟩
 refine cS (X:=X) ⟨σ3,H3,_,ss,sh,h,fun v H' t H3' le sh' r q => ?_⟩
 cases t with
 | bl b => exact ⟨b,r.bl,k b H' H3' le sh' q⟩
 | _ => exact q.elim
def qA (r r' : R3) (ta tb tc : TE3) : TE3:=fun σ H Q => ta σ H fun x H1 => tb σ H1 fun y H2 => r x y H2 fun z H3 => match z with
 | .bl k => if k = true then tc σ H3 fun w H4 => r' y w H4 Q else Q (.bl false) H3
 | _ => False
end
section
variable {X : Cx} {a b c : Expr} {ta tb tc : TE3} {tA tB' : TT3} {pos : Pos} {rest : List Expr}
theorem bj (h : PE3 X a ta) (he : ∀ whole,isTrue a X.env whole = (do let v <- whole; standAt a.pos; holding [v] (truthy v)):=by intro _; rfl) : PT3 X a (cD ta):=by
 refine PT.imp (tG h he) ?_
 rintro σ H Q ⟨σ3,H3,Q3,ss,sh,h,k⟩
 refine ⟨σ3,H3,_,ss,sh,h,fun v H' t H3' le sh' r q => ?_⟩
 cases t with
 | bl b => exact ⟨b,r.bl,k b H' H3' le sh' q⟩
 | _ => exact q.elim
def sr (t u : TT3) : TT3:=fun σ H Q => t σ H fun c H1 => if c = true then u σ H1 Q else Q false H1
def xD (t u : TT3) : TT3:=fun σ H Q => t σ H fun c H1 => if c = true then Q true H1 else u σ H1 Q
def su (t : TT3) : TT3:=fun σ H Q => t σ H fun c H1 => Q (!c) H1
theorem PW3.pt (h : PW3 X a tA) : PT3 X a tA:=PW.pt h
theorem b6 (ha : PT3 X a tA) : PW3 X (.BoolOp .And [a] pos) tA:=pW ha
theorem mL (ha : PT3 X a tA) : PW3 X (.BoolOp .Or [a] pos) tA:=tH ha
theorem ce (ha : PT3 X a tA) (hb : PW3 X (.BoolOp .And (b :: rest) pos) tB') : PW3 X (.BoolOp .And (a :: b :: rest) pos) (sr tA tB'):=by
 refine PW.imp (tI ha hb) ?_
 rintro σ H Q ⟨σ3,H3,Q3,ss,sh,h,k⟩
 refine ⟨σ3,H3,_,ss,sh,h,fun b H' H3' le sh' q => ?_⟩
 cases b with
 | true => exact ⟨σ3,H3',_,ss.mono le,sh',q,fun b H'' H3'' le' sh'' q' => k b H'' H3'' (le.trans le') sh'' q'⟩
 | false => exact k false H' H3' le sh' q
theorem sv (ha : PT3 X a tA) (hb : PW3 X (.BoolOp .Or (b :: rest) pos) tB') : PW3 X (.BoolOp .Or (a :: b :: rest) pos) (xD tA tB'):=by
 refine PW.imp (wK ha hb) ?_
 rintro σ H Q ⟨σ3,H3,Q3,ss,sh,h,k⟩
 refine ⟨σ3,H3,_,ss,sh,h,fun b H' H3' le sh' q => ?_⟩
 cases b with
 | true => exact k true H' H3' le sh' q
 | false => exact ⟨σ3,H3',_,ss.mono le,sh',q,fun b H'' H3'' le' sh'' q' => k b H'' H3'' (le.trans le') sh'' q'⟩
theorem jz (ha : PT3 X a tA) : PT3 X (.UnaryOp .Not a pos) (su tA):=by
 refine PT.imp (tJ ha) ?_
 rintro σ H Q ⟨σ3,H3,Q3,ss,sh,h,k⟩
 exact ⟨σ3,H3,_,ss,sh,h,fun b H' H3' le sh' q => k _ H' H3' le sh' q⟩
def mM (ta tb : TE3) : TE3:=fun σ H Q => ta σ H fun x H1 => match x with
 | .bl c => if c = true then tb σ H1 Q else Q (.bl false) H1
 | _ => False
def sw (ta tb : TE3) : TE3:=fun σ H Q => ta σ H fun x H1 => match x with
 | .bl c => if c = true then Q (.bl true) H1 else tb σ H1 Q
 | _ => False
def uk (ta : TE3) : TE3:=fun σ H Q => ta σ H fun x H1 => match x with
 | .bl c => Q (.bl (!c)) H1
 | _ => False
theorem gG {op : PySem.BoolOp} {t : TE3} (h : PE3 X a t) : PE3 X (.BoolOp op [a] pos) t:=tK h
theorem mO (ha : PE3 X a ta) (hb : PE3 X (.BoolOp .And (b :: rest) pos) tb) : PE3 X (.BoolOp .And (a :: b :: rest) pos) (mM ta tb):=by
 refine PE.imp (tL ha hb) ?_
 rintro σ H Q ⟨σ3,H3,Q3,ss,sh,h,k⟩
 refine ⟨σ3,H3,_,ss,sh,h,fun v H' t H3' le sh' r q => ?_⟩
 cases t with
 | bl b =>
  refine ⟨b,r.bl,?_⟩
  cases b with
  | true => exact ⟨σ3,H3',_,ss.mono le,sh',q,k.at le⟩
  | false => exact k _ H' _ H3' le sh' .ofBl q
 | _ => exact q.elim
theorem sy (ha : PE3 X a ta) (hb : PE3 X (.BoolOp .Or (b :: rest) pos) tb) : PE3 X (.BoolOp .Or (a :: b :: rest) pos) (sw ta tb):=by
 refine PE.imp (wM ha hb) ?_
 rintro σ H Q ⟨σ3,H3,Q3,ss,sh,h,k⟩
 refine ⟨σ3,H3,_,ss,sh,h,fun v H' t H3' le sh' r q => ?_⟩
 cases t with
 | bl b =>
  refine ⟨b,r.bl,?_⟩
  cases b with
  | true => exact k _ H' _ H3' le sh' .ofBl q
  | false => exact ⟨σ3,H3',_,ss.mono le,sh',q,k.at le⟩
 | _ => exact q.elim
def zS (t : TT3) (ta tb : TE3) : TE3:=fun σ H Q => t σ H fun c H1 => if c = true then ta σ H1 Q else tb σ H1 Q
end
section
variable {X : Cx} {e : Expr} {es : List Expr} {te : TE3} {t : TA3} {pos : Pos}
def bC : TA3:=fun _ H Q => Q [] H
def a6 (ta : TE3) (tr : TA3) : TA3:=fun σ H Q => ta σ H fun x H1 => tr σ H1 fun xs H2 => Q (x :: xs) H2
theorem ac : PA3 X [] bC:=by
 refine PA.imp t0 ?_
 rintro σ H Q ⟨σ3,H3,Q3,ss,sh,h,k⟩
 exact k _ _ _ _ .refl sh .nil h
theorem aa (ha : PE3 X e te) (hr : PA3 X es t) (hs : starEach (e :: es) X.env = (false,eval e X.env) :: starEach es X.env:=by rfl) : PA3 X (e :: es) (a6 te t):=by
 refine PA.imp (qc ha hr hs) ?_
 rintro σ H Q ⟨σ3,H3,Q3,ss,sh,h,k⟩
 exact ⟨σ3,H3,_,ss,sh,h,fun v H' t H3' le sh' r q => ⟨σ3,H3',_,ss.mono le,sh',q,fun vs H'' ts H3'' le' sh'' rs q' => k _ _ _ _ (le.trans le') sh'' (.cons (r.mono le') rs) q'⟩⟩
def kC (t : TA3) : TE3:=fun σ H Q => t σ H fun xs H1 => xs.length <= sizeLine /\ Q (.tup xs) H1
def sA (t : TA3) : TE3:=fun σ H Q => t σ H fun xs H1 => xs.length <= sizeLine /\ ∀ p,H1 p = none -> Q (.ref p) (up3 H1 p (.lst xs))
theorem SimH.newTup {K : PySem.W.Frag} {H : Hp} {H3 : Hp3} {ts : List T} {xs : List V} {p : Addr} (hp : H p = none) (r : Reps K H ts xs) : Rep K (upd H p (.tup xs)) (.tup ts) (.ref p) :=
 .ofTup (.of aC) (r.mono (ar hp))
theorem SimH.newLst {K : PySem.W.Frag} {H : Hp} {H3 : Hp3} {ts : List T} {xs : List V} {p : Addr} (s : SimH K H3 H) (hp : H p = none) (r : Reps K H ts xs) : SimH K (up3 H3 p (.lst ts)) (upd H p (.lst xs)):=fun a o e => by
 by_cases ha : a = p
 ·
  subst ha
  rw [ai] at e; cases e
  exact ⟨xs,aC,r.mono (ar hp)⟩
 ·
  rw [aj ha] at e
  exact s.new hp a o e
theorem aL {x1} (h : PA3 X es t) : PE3 X (.Tuple es x1 pos) (kC t):=by
 refine PE.imp (js h) ?_
 rintro σ H Q ⟨σ3,H3,Q3,ss,sh,h,k⟩
 refine ⟨σ3,H3,_,ss,sh,h,fun vs H' ts H3' le sh' r q => ⟨by rw [<- r.length]; exact q.1,fun p hp => ?_⟩⟩
 exact k _ _ _ H3' (le.trans (ar hp)) (sh'.new hp) (SimH.newTup (H3:=H3') hp r) q.2
theorem bb (h : PA3 X es t) : PE3 X (.List es pos) (sA t):=by
 refine PE.imp (t2 h) ?_
 rintro σ H Q ⟨σ3,H3,Q3,ss,sh,h,k⟩
 refine ⟨σ3,H3,_,ss,sh,h,fun vs H' ts H3' le sh' r q => ⟨by rw [<- r.length]; exact q.1,fun p hp => ?_⟩⟩
 exact k _ _ _ _ (le.trans (ar hp)) (sh'.newLst hp r) .ofRef (q.2 p (sh'.fresh hp))
end
section
variable {X : Cx} {st : Stmt} {rest : List Stmt} {e c : Expr} {te : TE3} {tc : TT3} {t u : TS3} {pos : Pos}
def jA : TS3:=fun D σ H => D.nx σ H
def eK (t u : TS3) : TS3:=fun D σ H => t { D with nx:=u D } σ H
theorem aG : db X [] jA:=by
 refine PSs.imp pX ?_
 rintro D σ H ⟨σ3,H3,D3,ss,sh,h,k1,_⟩
 exact k1 _ _ _ _ .refl ss sh h
theorem ae (h1 : PS3 X st t) (h2 : db X rest u) : db X (st :: rest) (eK t u):=by
 refine PSs.imp (iz h1 h2) ?_
 rintro D σ H ⟨σ3,H3,D3,ss,sh,h,k1,k2,k3,k4⟩
 exact ⟨σ3,H3,_,ss,sh,h,fun σ' H' σ3' H3' le ss' sh' q => ⟨σ3',H3',D3,ss',sh',q,k1.at le,k2.at le,k3.at le,k4.at le⟩,k2,k3,k4⟩
theorem ag (h1 : PS3 X st t) : db X [st] t:=d3 h1
def cJ (te : TE3) : TS3:=fun D σ H => te σ H fun _ H1 => D.nx σ H1
theorem ba (he : PE3 X e te) (hs : swapsWith e none pos.line X.env = pure false:=by rfl) : PS3 X (.Expr e pos) (cJ te):=by
 refine PS.imp (pY he hs) ?_
 rintro D σ H ⟨σ3,H3,D3,ss,sh,h,k1,_⟩
 exact ⟨σ3,H3,_,ss,sh,h,fun v H' t H3' le sh' r q => k1 _ _ _ _ le (ss.mono le) sh' q⟩
def iG (te : TE3) : TS3:=fun D σ H => te σ H D.rt
theorem aF (he : PE3 X e te) : PS3 X (.Return (some e) pos) (iG te):=by
 refine PS.imp (tM he) ?_
 rintro D σ H ⟨σ3,H3,D3,ss,sh,h,k1,k2,_⟩
 exact ⟨σ3,H3,_,ss,sh,h,k2⟩
def ul : TS3:=fun D _ H => D.rt .non H
def mP (c : TT3) (t u : TS3) : TS3:=fun D σ H => c σ H fun b H1 => if b = true then t D σ H1 else u D σ H1
theorem a8 {a b : List Stmt} (hc : PT3 X c tc) (ha : db X a t) (hb : db X b u) : PS3 X (.If c a b pos) (mP tc t u):=by
 refine PS.imp (wQ hc ha hb) ?_
 rintro D σ H ⟨σ3,H3,D3,ss,sh,h,k1,k2,k3,k4⟩
 refine ⟨σ3,H3,_,ss,sh,h,fun b H' H3' le sh' q => ?_⟩
 cases b with
 | true => exact ⟨σ3,H3',D3,ss.mono le,sh',q,k1.at le,k2.at le,k3.at le,k4.at le⟩
 | false => exact ⟨σ3,H3',D3,ss.mono le,sh',q,k1.at le,k2.at le,k3.at le,k4.at le⟩
def cf (i : Nat) : TG3:=fun v σ H Q => Q (σ.set i (some v)) H
theorem ao {i : Nat} {x : Str} (hN : X.N.Nodup) (hi : X.N[i]? = some x:=by rfl) (hx : Loc X.env.scope x:=by first | exact Or.inl rfl | exact Or.inr rfl) (hf : X.fn x = true \/ X.env.scope.names.lookup x = some .local:=by first | exact .inl rfl | exact .inr rfl | assumption) : PG3 X (.Name x pos) (cf i):=by
 refine PG.imp (pZ hN hi hx hf) ?_
 rintro v σ H Q ⟨t,σ3,H3,Q3,r,ss,sh,h,k⟩
 exact k _ _ _ _ .refl (ss.set r) sh h
def sB : ft:=fun ts σ H Q => match ts with
 | [] => Q σ H
 | _ => False
def mQ (t : TG3) (u : ft) : ft:=fun ts σ H Q => match ts with
 | x :: r => t x σ H fun σ' H' => u r σ' H' Q
 | [] => False
theorem bM : qz X [] sB:=by
 refine PGs.imp p0 ?_
 rintro vs σ H Q ⟨ts,σ3,H3,Q3,r,ss,sh,h,k⟩
 cases ts with
 | nil => exact ⟨r.inv0,k _ _ _ _ .refl ss sh h⟩
 | cons _ _ => exact h.elim
theorem ax {e : Expr} {es : List Expr} {t : TG3} {u : ft} (h1 : PG3 X e t) (h2 : qz X es u)
  (hs : (assignEach (e :: es) X.env).map (·.2) = assign e X.env :: (assignEach es X.env).map (·.2):=by rfl) : qz X (e :: es) (mQ t u):=by
 refine PGs.imp (mm h1 h2 hs) ?_
 rintro vs σ H Q ⟨ts,σ3,H3,Q3,r,ss,sh,h,k⟩
 cases ts with
 | nil => exact h.elim
 | cons x ts =>
  obtain ⟨v,vr,rfl,rv,rr⟩:=r.inv
  exact ⟨v,vr,rfl,x,σ3,H3,_,rv,ss,sh,h,fun σ' H' σ3' H3' le ss' sh' q => ⟨ts,σ3',H3',Q3,rr.mono le,ss',sh',q,k.at le⟩⟩
def sC (n : Nat) (g : ft) : TG3:=fun t σ H Q => match t with
 | .tup ts => ts.length = n /\ g ts σ H Q
 | _ => False
theorem cg {es : List Expr} {k : Nat} {t : ft} {n : Nat} (hc : X.calm = true) (h : qz X es t)
  (hn : (assignEach es X.env).length = n:=by rfl) (hst : (assignEach es X.env).findIdx? (·.1) = none:=by rfl) : PG3 X (.Tuple es k pos) (sC n t):=by
 refine PG.imp (tN hc h hn hst) ?_
 rintro v σ H Q ⟨t,σ3,H3,Q3,r,ss,sh,h,k⟩
 cases t with
 | tup ts =>
  obtain ⟨a,xs,rfl,s,rs⟩:=r.tup
  exact ⟨a,xs,rfl,s,by rw [<- rs.length]; exact h.1,ts,σ3,H3,Q3,rs,ss,sh,h.2,k⟩
 | _ => exact h.elim
def dO (te : TE3) (g : TG3) : TS3:=fun D σ H => te σ H fun x H1 => g x σ H1 D.nx
theorem jB {tg e : Expr} {te : TE3} {g : TG3} (he : PE3 X e te) (hg : PG3 X tg g) (hs : swapsWithSole [tg] e pos.line X.env = pure false:=by rfl) (hw : swappedStores [tg] e X.env = pure none:=by rfl)
  (h1 : (assignEach [tg] X.env).map (·.2) = [assign tg X.env]:=by rfl) : PS3 X (.Assign [tg] e pos) (dO te g):=by
 refine PS.imp (tP he hg hs hw h1) ?_
 rintro D σ H ⟨σ3,H3,D3,ss,sh,h,k1,_⟩
 exact ⟨σ3,H3,_,ss,sh,h,fun v H' t H3' le sh' r q => ⟨t,σ3,H3',_,r,ss.mono le,sh',q,k1.at le⟩⟩
theorem ak {i : Nat} {x : Str} {e : Expr} {te : TE3} {pos' : Pos} (hN : X.N.Nodup) (he : PE3 X e te) (hi : X.N[i]? = some x:=by rfl) (hx : Loc X.env.scope x:=by first | exact Or.inl rfl | exact Or.inr rfl)
  (hs : swapsWith e (some (.Name x pos')) pos.line X.env = pure false:=by rfl) (hf : X.fn x = true \/ X.env.scope.names.lookup x = some .local:=by first | exact .inl rfl | exact .inr rfl | assumption) :
  PS3 X (.Assign [.Name x pos'] e pos) (dO te (cf i)):=by
 refine PS.imp (tQ hN hi hx he hs hf) ?_
 rintro D σ H ⟨σ3,H3,D3,ss,sh,h,k1,_⟩
 exact ⟨σ3,H3,_,ss,sh,h,fun v H' t H3' le sh' r q => k1 _ _ _ _ le ((ss.mono le).set r) sh' q⟩
end
abbrev iH:=T -> T -> T -> Hp3 -> (Hp3 -> Prop) -> Prop
def um (K : PySem.W.Frag) (t3 : iH) : ml:=fun o i v H Q => ∃ to ti tv H3 Q3,Rep K H to o /\ Rep K H ti i /\ Rep K H tv v /\ SimH K H3 H /\ t3 to ti tv H3 Q3 /\ ∀ H' H3',TupLe K H H' -> SimH K H3' H' -> Q3 H3' -> Q H'
def sD (X : Cx) (t : iH) : Prop:=PSet X (um X.K t)
theorem PSet.imp {X : Cx} {t t' : ml} (h : PSet X t) (w : ∀ o i v H Q,t' o i v H Q -> t o i v H Q) : PSet X t':=fun pins s σ H o i v ov iv u Q I r1 r2 r3 q => h pins s σ H o i v ov iv u Q I r1 r2 r3 (w o i v H Q q)
section
variable {X : Cx} {pos : Pos}
def kD (to ti : TE3) (t : iH) : TG3:=fun v σ H Q => to σ H fun o H1 => ti σ H1 fun i H2 => t o i v H2 fun H3 => Q σ H3
theorem mR {o i : Expr} {to ti : TE3} {t : iH} (ho : PE3 X o to) (hi : PE3 X i ti) (hs : sD X t)
  (ha : ∀ v,assign (.Subscript o i pos) X.env v = (do
   let ov <- holding [v] (eval o X.env)
   let iv <- holding [v,ov] (eval i X.env)
   standAt pos
   holding [v,ov,iv] (setItem ov iv v)
   release [v,ov,iv] []):=by intro _; rfl) : PG3 X (.Subscript o i pos) (kD to ti t):=by
 refine PG.imp (tO ho hi hs ha) ?_
 rintro v σ H Q ⟨t,σ3,H3,Q3,r,ss,sh,h,k⟩
 exact ⟨σ3,H3,_,ss,sh,h,fun o H1 to H31 le1 sh1 ro q1 => ⟨σ3,H31,_,ss.mono le1,sh1,q1,fun i H2 ti H32 le2 sh2 ri q2 => ⟨to,ti,t,H32,_,ro.mono le2,ri,r.mono (le1.trans le2),sh2,q2,fun H' H3' le sh' q => k _ _ _ _ (le1.trans (le2.trans le)) (ss.mono (le1.trans (le2.trans le))) sh' q⟩⟩⟩
end
abbrev TI3:=St3 -> Hp3 -> (List T -> (Hp3 -> Prop) -> Hp3 -> Prop) -> Prop
def fK (K : PySem.W.Frag) (J : It) (ts : List T) (still : Hp3 -> Prop) (H : Hp) : Prop:=∀ H' H3',TupLe K H H' -> SimH K H3' H' -> still H3' ->
 (∀ i,ts.length <= i -> J.stop i H') /\ ∀ i t,ts[i]? = some t -> J.go i H' /\ ∀ x H'',J.yld i H' x H'' -> TupLe K H' H'' /\ SimH K H3' H'' /\ Rep K H'' t x
def zT (K : PySem.W.Frag) (t3 : TI3) : TI:=fun σ H R => ∃ σ3 H3 R3,SimS K H σ3 σ /\ SimH K H3 H /\ t3 σ3 H3 R3 /\ ∀ J ts still H' H3',TupLe K H H' -> SimH K H3' H' -> fK K J ts still H' -> R3 ts still H3' -> R J H'
def PI3 (X : Cx) (tg iter : Expr) (t : TI3) : Prop:=PI X tg iter (zT X.K t)
theorem PI.imp {X : Cx} {tg e : Expr} {t t' : TI} (h : PI X tg e t) (w : ∀ σ H R,t' σ H R -> t σ H R) : PI X tg e t':=fun pins s σ H R I q => h pins s σ H R I (w σ H R q)
def bg : Hp3 -> Prop:=fun _ => True
def bh (a : Addr) (ts : List T) : Hp3 -> Prop:=fun H => H a = some (.lst ts) \/ H a = some (.rol ts)
theorem SimH.sqL {K : PySem.W.Frag} {H : Hp} {H3 : Hp3} {a : Addr} {ts : List T} (s : SimH K H3 H) (h : bh a ts H3) : ∃ xs,SqL K H a xs /\ Reps K H ts xs:=by
 rcases h with h | h
 ·
  obtain ⟨xs,e,r⟩:=s a _ h
  exact ⟨xs,.of e,r⟩
 ·
  obtain ⟨xs,e,r⟩:=s a _ h
  exact ⟨xs,.inl e,r⟩
section
variable {X : Cx} {tg l : Expr} {tl : TE3} {pos p : Pos}
def mS (tl : TE3) : TI3:=fun σ H R => tl σ H fun x H1 => match x with
 | .ref a => match H1 a with
  | some (.lst ts) => R ts (bh a ts) H1
  | some (.rol ts) => R ts (bh a ts) H1
  | _ => False
 | _ => False
theorem fL {K : PySem.W.Frag} {H : Hp} {a : Addr} {ts : List T} : fK K (Itl K a) ts (bh a ts) H:=fun H' H3' le sh st => by
 obtain ⟨xs,sq,rs⟩:=sh.sqL st
 have hl:=rs.length
 refine ⟨fun i hi => ⟨xs,sq,by omega⟩,fun i t e => ?_⟩
 obtain ⟨v,ev,rv⟩:=rs.get e
 refine ⟨⟨xs,v,sq,ev⟩,fun x H'' y => ?_⟩
 obtain ⟨e1,y⟩:=y
 subst e1
 have:=y xs sq
 rw [ev] at this; cases this
 exact ⟨.refl,sh,rv⟩
theorem bo (hl : PE3 X l tl) : PI3 X tg l (mS tl):=by
 refine PI.imp (p7 hl) ?_
 rintro σ H R ⟨σ3,H3,R3,ss,sh,h,k⟩
 refine ⟨σ3,H3,_,ss,sh,h,fun v H' t H3' le sh' r q => ?_⟩
 cases t with
 | ref a =>
  have q' : (match H3' a with
   | some (.lst ts) => R3 ts (bh a ts) H3'
   | some (.rol ts) => R3 ts (bh a ts) H3'
   | _ => False):=q
  split at q'
  ·
   rename_i ts e
   obtain ⟨xs,sq,rs⟩:=sh'.sqL (.inl e)
   exact ⟨a,r.ref,⟨xs,sq⟩,k _ ts (bh a ts) H' H3' le sh' fL q'⟩
  ·
   rename_i ts e
   obtain ⟨xs,sq,rs⟩:=sh'.sqL (.inr e)
   exact ⟨a,r.ref,⟨xs,sq⟩,k _ ts (bh a ts) H' H3' le sh' fL q'⟩
  ·
   exact q'.elim
 | _ => exact q.elim
def sE (tl : TE3) : TI3:=fun σ H R => tl σ H fun x H1 => match x with
 | .tup ts => R ts bg H1
 | _ => False
theorem mT {K : PySem.W.Frag} {H : Hp} {a : Addr} {ts : List T} {xs : List V} (sq : SqT K H a xs) (rs : Reps K H ts xs) : fK K (Itt K a) ts bg H:=fun H' H3' le sh st => by
 have hl:=rs.length
 refine ⟨fun i hi => ⟨xs,le _ _ sq,by omega⟩,fun i t e => ?_⟩
 obtain ⟨v,ev,rv⟩:=rs.get e
 refine ⟨⟨xs,v,le _ _ sq,ev⟩,fun x H'' y => ?_⟩
 obtain ⟨e1,y⟩:=y
 subst e1
 have:=y xs (le _ _ sq)
 rw [ev] at this; cases this
 exact ⟨.refl,sh,rv.mono le⟩
theorem bn (hl : PE3 X l tl) : PI3 X tg l (sE tl):=by
 refine PI.imp (tS hl) ?_
 rintro σ H R ⟨σ3,H3,R3,ss,sh,h,k⟩
 refine ⟨σ3,H3,_,ss,sh,h,fun v H' t H3' le sh' r q => ?_⟩
 cases t with
 | tup ts =>
  obtain ⟨a,xs,e,sq,rs⟩:=r.tup
  exact ⟨a,e,⟨xs,sq⟩,k _ ts bg H' H3' le sh' (mT sq rs) q⟩
 | _ => exact q.elim
noncomputable def bu (lo : Int) (n : Nat) : List T:=(List.range n).map fun (i : Nat) => T.int (lo + i)
theorem mU {K : PySem.W.Frag} {H : Hp} {lo : Int} {n : Nat} : fK K (Itr lo n) (bu lo n) bg H:=fun H' H3' le sh st => by
 refine ⟨fun i hi => by unfold bu at hi; simp at hi; exact hi,fun i t e => ?_⟩
 unfold bu at e
 rw [List.getElem?_map] at e
 by_cases hi : i < n
 ·
  rw [List.getElem?_range hi] at e
  cases e
  refine ⟨hi,fun x H'' y => ?_⟩
  obtain ⟨e1,e2⟩:=y
  subst e1; subst e2
  exact ⟨.refl,sh,.ofInt⟩
 ·
  rw [List.getElem?_eq_none (by simpa using hi)] at e; cases e
def sF (ta : TA3) : TI3:=fun σ H R => ta σ H fun vs H1 => match vs with
 | [.int j] => -(2 ^ 62) <= j /\ j < 2 ^ 62 /\ R (bu 0 j.toNat) bg H1
 | [.int i,.int j] => (-(2 ^ 62) <= i /\ i < 2 ^ 62 /\ -(2 ^ 62) <= j /\ j < 2 ^ 62) /\ R (bu i (j - i).toNat) bg H1
 | _ => False
theorem bK {a : Expr} {ta : TA3} (hg : Gl X "range") (hm : X.mg "range" = none) (ha : PA3 X [a] ta) (hs : starEach [a] X.env = [(false,eval a X.env)]:=by rfl) : PI3 X tg (.Call (.Name "range" p) [a] [] pos) (sF (fun σ H Q => ta σ H fun vs H1 => vs.length = 1 /\ Q vs H1)):=by
 refine PI.imp (lx hg hm ha hs) ?_
 rintro σ H R ⟨σ3,H3,R3,ss,sh,h,k⟩
 refine ⟨σ3,H3,_,ss,sh,h,fun vs H' ts H3' le sh' r q => ?_⟩
 obtain ⟨hl,q⟩:=q
 cases ts with
 | nil => cases hl
 | cons t ts =>
  cases ts with
  | cons _ _ => simp at hl
  | nil =>
   cases t with
   | int j =>
    obtain ⟨v,_,rfl,rv,r0⟩:=r.inv
    rw [r0.inv0,rv.int]
    exact ⟨j,rfl,q.1,q.2.1,k _ _ _ H' H3' le sh' mU q.2.2⟩
   | _ => exact q.elim
end
def iter3 (g : TG3) (tb : TS3) (D : Ends3) (still : Hp3 -> Prop) : List T -> St3 -> Hp3 -> Prop
 | [],σ,H => still H /\ D.nx σ H
 | t :: r,σ,H => still H /\ g t σ H fun σ2 H2 => tb { D with nx:=iter3 g tb D still r,ct:=iter3 g tb D still r,bk:=D.nx } σ2 H2
theorem iter3.st {g : TG3} {tb : TS3} {D : Ends3} {still : Hp3 -> Prop} {ts : List T} {σ : St3} {H : Hp3} (h : iter3 g tb D still ts σ H) : still H:=by
 cases ts with
 | nil => exact h.1
 | cons t r => exact h.1
def sG (wi : TI3) (g : TG3) (tb : TS3) : TS3:=fun D σ H => wi σ H fun ts still H1 => iter3 g tb D still ts σ H1
section
variable {X : Cx} {tg iter : Expr} {pos : Pos}
theorem aP {body : List Stmt} {wi : TI3} {g : TG3} {tb : TS3} (hp : PassesOwn (model X.prog X.w) X.A X.env X.xe) (hc : X.calm = true) (hi : PI3 X tg iter wi) (hg : PG3 X tg g) (hb : db X body tb)
  (hs : ∀ x,foldedSetIterable iter X.env x = pure x:=by intro _; rfl) : PS3 X (.For tg iter body [] pos) (sG wi g tb):=by
 refine PS.imp (tT hp hc hi hg hb hs) ?_
 rintro D σ H ⟨σ3,H3,D3,ss,sh,h,k1,k2,k3,k4⟩
 refine ⟨σ3,H3,_,ss,sh,h,fun J ts still H1 H31 le sh1 wk q => ?_⟩
 refine ⟨fun i m σ H => ∃ σ3 H3,TupLe X.K H1 H /\ SimS X.K H σ3 σ /\ SimH X.K H3 H /\ m = ts.length - i /\ i <= ts.length /\ iter3 g tb D3 still (ts.drop i) σ3 H3,⟨ts.length,σ3,H31,.refl,ss.mono le,sh1,rfl,Nat.zero_le _,by simpa using q⟩,?_⟩
 rintro i m σ H ⟨σ4,H4,le4,ss4,sh4,rfl,hi,it⟩
 have w:=wk H H4 le4 sh4 it.st
 by_cases hlt : i < ts.length
 ·
  have e:=List.getElem?_eq_getElem hlt
  have ed : ts.drop i = ts[i] :: ts.drop (i + 1):=List.drop_eq_getElem_cons hlt
  rw [ed] at it
  obtain ⟨st,it⟩:=it
  obtain ⟨go,yl⟩:=w.2 i _ e
  refine .inr ⟨go,fun σ' H' => ∃ σ3 H3,TupLe X.K H1 H' /\ SimS X.K H' σ3 σ' /\ SimH X.K H3 H' /\ iter3 g tb D3 still (ts.drop (i + 1)) σ3 H3,fun σ' H' ⟨s5,h5,a,b,c,d⟩ => ⟨ts.length - (i + 1),by omega,s5,h5,a,b,c,rfl,hlt,d⟩,fun x H' y => ?_⟩
  obtain ⟨le',sh',rx⟩:=yl x H' y
  refine ⟨ts[i],σ4,H4,_,rx,ss4.mono le',sh',it,fun σ2 H2 σ32 H32 le2 ss2 sh2 q2 => ?_⟩
  have all : TupLe X.K H1 H2:=le4.trans (le'.trans le2)
  have nx : ∀ (B : TupLe X.K H1 H2),KS3 X.K H2 (iter3 g tb D3 still (ts.drop (i + 1))) (fun σ' H' => ∃ σ3 H3,TupLe X.K H1 H' /\ SimS X.K H' σ3 σ' /\ SimH X.K H3 H' /\ iter3 g tb D3 still (ts.drop (i + 1)) σ3 H3) :=
   fun B σ' H' σ3' H3' l s h q => ⟨σ3',H3',B.trans l,s,h,q⟩
  exact ⟨σ32,H32,_,ss2,sh2,q2,nx all,k2.at (le.trans all),k1.at (le.trans all),nx all⟩
 ·
  have e : i = ts.length:=by omega
  subst e
  rw [List.drop_length] at it
  exact .inl ⟨w.1 _ (Nat.le_refl _),k1 _ _ _ _ (le.trans le4) ss4 sh4 it.2⟩
def gH (c : TT3) (tb : TS3) : TS3:=fun D σ H => ∃ W : Nat -> St3 -> Hp3 -> Prop,(∃ m,W m σ H) /\ ∀ m σ H,W m σ H ->
 c σ H fun b H1 => if b = true then tb { D with nx:=fun σ' H' => ∃ m',m' < m /\ W m' σ' H',ct:=fun σ' H' => ∃ m',m' < m /\ W m' σ' H',bk:=D.nx } σ H1 else D.nx σ H1
theorem eL {c : Expr} {body : List Stmt} {tc : TT3} {tb : TS3} (hp : PassesOwn (model X.prog X.w) X.A X.env X.xe) (hc : PT3 X c tc) (hb : db X body tb) : PS3 X (.While c body [] pos) (gH tc tb):=by
 refine PS.imp (mn hp hc hb) ?_
 rintro D σ H ⟨σ3,H3,D3,ss,sh,⟨W,⟨m0,w0⟩,turn⟩,k1,k2,k3,k4⟩
 refine ⟨fun m σ' H' => ∃ σ3 H3,TupLe X.K H H' /\ SimS X.K H' σ3 σ' /\ SimH X.K H3 H' /\ W m σ3 H3,⟨m0,σ3,H3,.refl,ss,sh,w0⟩,?_⟩
 rintro m σ1 H1 ⟨σ4,H4,le4,ss4,sh4,w4⟩
 refine ⟨σ4,H4,_,ss4,sh4,turn m σ4 H4 w4,fun b H2 H5 le5 sh5 q => ?_⟩
 cases b with
 | true =>
  rw [if_pos rfl] at q ⊢
  have nx : KS3 X.K H2 (fun σ' H' => ∃ m',m' < m /\ W m' σ' H') (fun σ' H' => ∃ m',m' < m /\ ∃ σ3 H3,TupLe X.K H H' /\ SimS X.K H' σ3 σ' /\ SimH X.K H3 H' /\ W m' σ3 H3) :=
   fun σ' H' σ3' H3' l s h ⟨m',hm,w⟩ => ⟨m',hm,σ3',H3',le4.trans (le5.trans l),s,h,w⟩
  exact ⟨_,fun σ' H' h => h,σ4,H5,_,ss4.mono le5,sh5,q,nx,k2.at (le4.trans le5),k1.at (le4.trans le5),nx⟩
 | false =>
  rw [if_neg Bool.false_ne_true] at q ⊢
  exact k1 _ _ _ _ (le4.trans le5) (ss4.mono le5) sh5 q
end
def qB (X : Cx) (ifs : List Expr) (t : TT3) : Prop:=PIf X ifs (lL X.K t)
def mV : TT3:=fun _ H Q => Q true H
theorem b7 {X : Cx} : qB X [] mV:=fun pins s σ H Q I ⟨σ3,H3,Q3,ss,sh,h,k⟩ => qp pins s σ H Q I (k _ _ _ .refl sh h)
theorem d4 {X : Cx} {c : Expr} {t : TT3} (h : PT3 X c t) : qB X [c] t:=qq h
noncomputable def iI (nt : Nat) (cap : List Nat) (σ : St3) : St3:=List.replicate nt none ++ cap.map fun j => (σ[j]?).getD none
theorem kE {K : PySem.W.Frag} {H : Hp} {σ3 : St3} {σ : L2.St} {nt : Nat} {cap : List Nat} (s : SimS K H σ3 σ) : SimS K H (iI nt cap σ3) (fq nt cap σ):=by
 refine ⟨by simp [iI,fq],fun i t e => ?_⟩
 unfold iI at e
 unfold fq
 by_cases hi : i < nt
 ·
  rw [List.getElem?_append_left (by simpa using hi),List.getElem?_replicate] at e
  split at e <;> cases e
 ·
  rw [List.getElem?_append_right (by simpa using hi),List.getElem?_map] at e
  rw [List.getElem?_append_right (by simpa using hi),List.getElem?_map]
  simp only [List.length_replicate] at e ⊢
  cases q : cap[i - nt]? with
  | none => rw [q] at e; cases e
  | some j =>
   rw [q] at e
   have e' : (σ3[j]?).getD none = some t:=Option.some.inj e
   have e2 : σ3[j]? = some (some t):=by
    cases z : σ3[j]? with
    | none => rw [z] at e'; cases e'
    | some y => rw [z] at e'; exact congrArg some e'
   obtain ⟨v,ev,r⟩:=s.at' j t e2
   exact ⟨v,by simp [ev],r⟩
def cIter3 (g : TG3) (tt : TT3) (te : TE3) (still : Hp3 -> Prop) (fin : List T -> Hp3 -> Prop) : List T -> List T -> St3 -> Hp3 -> Prop
 | [],ys,σ,H => still H /\ ys.length <= sizeLine /\ fin ys H
 | t :: r,ys,σ,H => still H /\ g t σ H fun σ2 H2 => tt σ2 H2 fun b H3 => if b = true then te σ2 H3 fun y H4 => ys.length < sizeLine /\ cIter3 g tt te still fin r (ys ++ [y]) σ2 H4 else cIter3 g tt te still fin r ys σ2 H3
theorem cIter3.st {g : TG3} {tt : TT3} {te : TE3} {still : Hp3 -> Prop} {fin : List T -> Hp3 -> Prop} {ts ys : List T} {σ : St3} {H : Hp3} (h : cIter3 g tt te still fin ts ys σ H) : still H:=by
 cases ts with
 | nil => exact h.1
 | cons t r => exact h.1
theorem mW {K : PySem.W.Frag} {J : It} {g : TG3} {tt : TT3} {te : TE3} {still : Hp3 -> Prop} {fin3 : List T -> Hp3 -> Prop} {fin : List V -> Hp -> Prop} {ts : List T} {σ3 : St3} {σ : L2.St} {H1 : Hp} {H31 : Hp3}
  (wk : fK K J ts still H1) (ss : SimS K H1 σ3 σ) (sh : SimH K H31 H1) (h : cIter3 g tt te still fin3 ts [] σ3 H31)
  (hf : ∀ ys us H' H3',TupLe K H1 H' -> SimH K H3' H' -> Reps K H' ys us -> fin3 ys H3' -> fin us H') : kB J (qy K g) (lL K tt) (lft K te) fin σ H1:=by
 refine ⟨fun i m us σ H => ∃ σ3 H3 ys,TupLe K H1 H /\ SimS K H σ3 σ /\ SimH K H3 H /\ Reps K H ys us /\ m = ts.length - i /\ i <= ts.length /\ cIter3 g tt te still fin3 (ts.drop i) ys σ3 H3,⟨ts.length,σ3,H31,[],.refl,ss,sh,.nil,rfl,Nat.zero_le _,by simpa using h⟩,?_⟩
 rintro i m us σ H ⟨σ4,H4,ys,le4,ss4,sh4,ry,rfl,hi,it⟩
 have w:=wk H H4 le4 sh4 it.st
 by_cases hlt : i < ts.length
 ·
  have e:=List.getElem?_eq_getElem hlt
  have ed : ts.drop i = ts[i] :: ts.drop (i + 1):=List.drop_eq_getElem_cons hlt
  rw [ed] at it
  obtain ⟨st,it⟩:=it
  obtain ⟨go,yl⟩:=w.2 i _ e
  refine .inr ⟨go,fun x H' y => ?_⟩
  obtain ⟨le',sh',rx⟩:=yl x H' y
  refine ⟨ts[i],σ4,H4,_,rx,ss4.mono le',sh',it,fun σ2 H2 σ32 H32 le2 ss2 sh2 q2 => ?_⟩
  refine ⟨σ32,H32,_,ss2,sh2,q2,fun b H3 H33 le3 sh3 q3 => ?_⟩
  have all : TupLe K H H3:=le'.trans (le2.trans le3)
  cases b with
  | true =>
   rw [if_pos rfl] at q3
   refine zN ?_
   refine ⟨σ32,H33,_,ss2.mono le3,sh3,q3,fun v H5 t H35 le5 sh5 rt q5 => ⟨by rw [<- ry.length]; exact q5.1,ts.length - (i + 1),by omega,σ32,H35,ys ++ [t],le4.trans (all.trans le5),ss2.mono (le3.trans le5),sh5,(ry.mono (all.trans le5)).append (.cons rt .nil),rfl,hlt,q5.2⟩⟩
  | false =>
   rw [if_neg Bool.false_ne_true] at q3
   refine zM ?_
   exact ⟨ts.length - (i + 1),by omega,σ32,H33,ys,le4.trans all,ss2.mono le3,sh3,ry.mono all,rfl,hlt,q3⟩
 ·
  have e : i = ts.length:=by omega
  subst e
  rw [List.drop_length] at it
  exact .inl ⟨w.1 _ (Nat.le_refl _),by rw [<- ry.length]; exact it.2.1,hf _ _ _ _ le4 sh4 ry it.2.2⟩
def mX (wi : TI3) (g : TG3) (tt : TT3) (te : TE3) (nt : Nat) (cap : List Nat) : TE3:=fun σ H Q => wi σ H fun ts still H1 => cIter3 g tt te still (fun ys H' => ∀ p,H' p = none -> Q (.ref p) (up3 H' p (.lst ys))) ts [] (iI nt cap σ) H1
def fM (wi : TI3) (g : TG3) (tt : TT3) (te : TE3) (nt : Nat) (cap : List Nat) (i : Nat) : TS3:=fun D σ H => wi σ H fun ts still H1 => cIter3 g tt te still (fun ys H' => ∀ p,H' p = none -> D.nx (σ.set i (some (.ref p))) (up3 H' p (.lst ys))) ts [] (iI nt cap σ) H1
section
variable {X : Cx} {N' : List Str} {nt : Nat} {cap : List Nat} {scope : Scope} {elt tg iter : Expr} {ifs : List Expr} {pos pos' spos : Pos} {wi : TI3} {g : TG3} {tt : TT3} {te : TE3}
theorem b8 (hc : X.calm = true) (S : CompSc X N' nt cap scope) (hi : PI3 X tg iter wi)
  (hX : ∀ cl pins s H C fp,PG3 (aO X N' scope cl pins s H C fp) tg g /\ qB (aO X N' scope cl pins s H C fp) ifs tt /\ PE3 (aO X N' scope cl pins s H C fp) elt te)
  (hs : ∀ x,foldedSetIterable iter X.env x = pure x:=by intro _; rfl) : PE3 X (.ListComp elt [⟨tg,iter,ifs,0⟩] scope pos) (mX wi g tt te nt cap):=by
 refine PE.imp (qt (g:=qy X.K g) (tt:=lL X.K tt) (te:=lft X.K te) hc S hi hX hs) ?_
 rintro σ H Q ⟨σ3,H3,Q3,ss,sh,h,k⟩
 refine ⟨σ3,H3,_,ss,sh,h,fun J ts still H1 H31 le sh1 wk q => ?_⟩
 exact mW wk (kE (ss.mono le)) sh1 q fun ys us H' H3' le' sh' ry q' p hp => k _ _ _ _ (le.trans (le'.trans (ar hp))) (sh'.newLst hp ry) .ofRef (q' p (sh'.fresh hp))
theorem d5 {i : Nat} {x : Str} (hc : X.calm = true) (hN : X.N.Nodup) (S : CompSc X N' nt cap scope) (hi : PI3 X tg iter wi)
  (hX : ∀ cl pins s H C fp,PG3 (aO X N' scope cl pins s H C fp) tg g /\ qB (aO X N' scope cl pins s H C fp) ifs tt /\ PE3 (aO X N' scope cl pins s H C fp) elt te)
  (hi' : X.N[i]? = some x:=by rfl) (hx : Loc X.env.scope x:=by first | exact Or.inl rfl | exact Or.inr rfl)
  (hsw : swapsWith (.ListComp elt [⟨tg,iter,ifs,0⟩] scope pos) (some (.Name x pos')) spos.line X.env = pure true:=by rfl)
  (hs : ∀ x,foldedSetIterable iter X.env x = pure x:=by intro _; rfl) (hf : X.fn x = true \/ X.env.scope.names.lookup x = some .local:=by first | exact .inl rfl | exact .inr rfl | assumption) :
  PS3 X (.Assign [.Name x pos'] (.ListComp elt [⟨tg,iter,ifs,0⟩] scope pos) spos) (fM wi g tt te nt cap i):=by
 refine PS.imp (qu (g:=qy X.K g) (tt:=lL X.K tt) (te:=lft X.K te) hc hN hi' hx S hi hX hsw hs hf) ?_
 rintro D σ H ⟨σ3,H3,D3,ss,sh,h,k1,_⟩
 refine ⟨σ3,H3,_,ss,sh,h,fun J ts still H1 H31 le sh1 wk q => ?_⟩
 exact mW wk (kE (ss.mono le)) sh1 q fun ys us H' H3' le' sh' ry q' p hp =>
  k1 _ _ _ _ (le.trans (le'.trans (ar hp))) ((ss.mono (le.trans (le'.trans (ar hp)))).set .ofRef) (sh'.newLst hp ry) (q' p (sh'.fresh hp))
end
abbrev Sp3:=List T -> Hp3 -> VK3 -> Prop
def mY (K : PySem.W.Frag) (sp : Sp3) : Sp:=fun vs H Q _ => ∃ ts H3 Q3,Reps K H ts vs /\ SimH K H3 H /\ sp ts H3 Q3 /\ KV3 K H Q3 Q
def Sub3 (H H' : Hp3) : Prop:=∀ a o,H a = some o -> H' a = some o
theorem Sub3.refl {H : Hp3} : Sub3 H H:=fun _ _ h => h
theorem Sub3.trans {H H1 H2 : Hp3} (a : Sub3 H H1) (b : Sub3 H1 H2) : Sub3 H H2:=fun c o h => b c o (a c o h)
theorem Sub3.new {H : Hp3} {p : Addr} {o : O3} (h : H p = none) : Sub3 H (up3 H p o):=fun a u e => by rw [aj (a5 e h)]; exact e
theorem SimH.sub {K : PySem.W.Frag} {H3 H3' : Hp3} {H : Hp} (s : SimH K H3' H) (h : Sub3 H3 H3') : SimH K H3 H:=fun a o e => s a o (h a o e)
def Fin3 (Q : VK3) : VK3:=fun v H => ∃ H',Sub3 H' H /\ Q v H'
theorem Fin3.of {Q : VK3} {v : T} {H H' : Hp3} (h : Sub3 H' H) (q : Q v H') : Fin3 Q v H:=⟨H',h,q⟩
noncomputable def ay (N : List Str) (ts : List T) : St3:=ts.map some ++ List.replicate (N.length - ts.length) none
theorem fP {K : PySem.W.Frag} {H : Hp} {N : List Str} {ts : List T} {vs : List V} (r : Reps K H ts vs) : SimS K H (ay N ts) (L2.start N vs):=by
 refine ⟨by simp [ay,L2.start,r.length],fun i t e => ?_⟩
 unfold ay at e
 unfold L2.start
 have hl:=r.length
 by_cases hi : i < ts.length
 ·
  rw [List.getElem?_append_left (by simpa using hi),List.getElem?_map] at e
  rw [List.getElem?_append_left (by rw [List.length_map]; omega),List.getElem?_map]
  cases q : ts[i]? with
  | none => rw [q] at e; cases e
  | some u =>
   rw [q] at e; cases e
   obtain ⟨v,ev,rv⟩:=r.get q
   exact ⟨v,by rw [ev]; rfl,rv⟩
 ·
  rw [List.getElem?_append_right (by simpa using hi),List.getElem?_replicate] at e
  split at e <;> cases e
section
variable {X : Cx} {k : Nat} {f : Addr} {fd : FuncData} {ps : List Str} {sp : Sp3} {x : Str} {p pos : Pos} {e : Expr} {es : List Expr} {t : TA3}
def FnOk3 (P : Program) (w : World) (K : PySem.W.Frag) (mg : Str -> Option Value) (base : Heap) (k : Nat) (f : Addr) (fd : FuncData) (ps : List Str) (sp : Sp3) : Prop:=FnOk P w K mg base CX0 k f fd ps (mY K sp)
theorem FnOk3.mono {P : Program} {w : World} {K : PySem.W.Frag} {mg : Str -> Option Value} {base : Heap} {j k : Nat} (F : FnOk3 P w K mg base j f fd ps sp) (h : j <= k) : FnOk3 P w K mg base k f fd ps sp:=FnOk.mono F h
def eM (sp : Sp3) (t : TA3) : TE3:=fun σ H Q => t σ H fun vs H1 => sp vs H1 Q
theorem qC (F : FnOk3 X.prog X.w X.K X.mg X.base k f fd ps sp) (hr : Room k X.A) (hg : Gl X x) (hm : X.mg x = some (.ref f)) (hk : PySem.W.keepIn X.K (.ref f) = true) (hb : Binds X.K fd ps [])
  (ha : PA3 X (e :: es) t) (hdb : (x == ("__debug__" : Str)) = false:=by decide) (he : starEach (e :: es) X.env = (false,eval e X.env) :: starEach es X.env:=by rfl) (hpl : (backTo pos (starEach es X.env)).any (·.1) = false:=by rfl) :
  PE3 X (.Call (.Name x p) (e :: es) [] pos) (eM sp t):=by
 refine PE.imp (qd (dvs:=[]) (E:=E0) F hr hg hm hk hb .nil xy ha hdb he hpl) ?_
 rintro σ H Q ⟨σ3,H3,Q3,ss,sh,h,k⟩
 refine ⟨σ3,H3,_,ss,sh,h,fun vs H' ts H3' le sh' r q => ?_⟩
 show mY X.K sp (vs ++ []) H' Q E0
 rw [List.append_nil]
 exact ⟨ts,H3',Q3,r,sh',q,k.at le⟩
theorem fn3 {P : Program} {w : World} {K : PySem.W.Frag} {mg : Str -> Option Value} {base : Heap} {qual : Str} {st : Stmt} {N : List Str} (F : Fun K x qual st f fd) (S : FnScope N ps (ah st)) (len : ∀ ts H Q,sp ts H Q -> ts.length = ps.length)
  (hbody : ∀ (cdv : Value) (A : Around) (outer : List Env) (s : Shared) (H : Hp) (E : XK) (ts : List T) (H3 : Hp3) (Q : VK3),Room k (A.deeper (envOfC qual (ah st) s.heap.objs.size f cdv)) -> sp ts H3 Q ->
   ∃ t,db (eE CX0 P w K mg base N qual (ah st) f cdv A outer s H E).nox (aT st) t /\ t { nx:=fun _ H' => Fin3 Q .non H',rt:=Fin3 Q } (ay N ts) H3) : FnOk3 P w K mg base (k + 1) f fd ps sp:=by
 refine F.ok S (fun vs H Q E ⟨ts,H3,Q3,r,sh,q,k⟩ => by rw [<- r.length]; exact len _ _ _ q) fun cdv A outer s H vs Q E hr ⟨ts,H3,Q3,r,sh,q,k⟩ => ?_
 obtain ⟨t,ht,hq⟩:=hbody cdv A outer s H E ts H3 Q3 hr q
 exact ⟨_,ht,ay N ts,H3,_,fP r,sh,hq,fun σ' H' σ3' H3' le ss' sh' ⟨H4,sb,q⟩ => k _ _ _ _ le (sh'.sub sb) .ofNon q,fun v H' t H3' le sh' rv ⟨H4,sb,q⟩ => k _ _ _ _ le (sh'.sub sb) rv q,fun _ _ _ _ _ _ _ z => z,fun _ _ _ _ _ _ _ z => z⟩
end
noncomputable instance : DecidableEq T:=fun a b => Classical.propDecidable (a = b)
noncomputable def pl : Nat -> T -> Bool
 | _,.non => true
 | _,.int _ => true
 | _,.str _ => true
 | d + 1,.tup ts => ts.all (pl d)
 | _,_ => false
section
variable {X : Cx} {pins : List (Addr × Obj)} {σ : L2.St} {H : Hp} {s : Shared}
theorem kF (I : Inv X pins σ H s) : ∀ (d : Nat) (x y : T) (v : V),pl d x = true -> pl d y = true -> Rep X.K H x v -> Rep X.K H y v -> x = y:=by
 intro d
 induction d with
 | zero =>
  intro x y v px py rx ry
  cases x <;> cases y <;> first
   | rfl
   | (simp only [Rep] at rx ry; subst rx; cases ry <;> rfl)
   | (simp [pl] at px; done)
   | (simp [pl] at py; done)
 | succ d ih =>
  intro x y v px py rx ry
  cases x with
  | tup ts =>
   cases y with
   | tup us =>
    obtain ⟨a,xs,rfl,sq,r⟩:=rx.tup
    obtain ⟨b,ys,e,sq',r'⟩:=ry.tup
    cases e
    have:=I.tuple_inj sq sq'
    subst this
    simp only [pl,List.all_eq_true] at px py
    congr 1
    have key : ∀ (ts us : List T) (xs : List V),(∀ t ∈ ts,pl d t = true) -> (∀ t ∈ us,pl d t = true) -> Reps X.K H ts xs -> Reps X.K H us xs -> ts = us:=by
     intro ts
     induction ts with
     | nil =>
      intro us xs _ _ h h'
      rw [h.inv0] at h'
      cases us with
      | nil => rfl
      | cons u us => obtain ⟨_,_,e,_⟩:=h'.inv; cases e
     | cons t ts ih2 =>
      intro us xs p1 p2 h h'
      obtain ⟨v,r,rfl,a,b⟩:=h.inv
      cases us with
      | nil => exact absurd h'.inv0 (by simp)
      | cons u us =>
       obtain ⟨v',r',e,a',b'⟩:=h'.inv
       cases e
       rw [ih t u v (p1 t List.mem_cons_self) (p2 u List.mem_cons_self) a a',ih2 us r (fun t ht => p1 t (List.mem_cons_of_mem _ ht)) (fun t ht => p2 t (List.mem_cons_of_mem _ ht)) b b']
    exact key ts us xs px py r r'
   | _ => first | (simp only [Rep] at rx ry; obtain ⟨a,xs,e,_⟩:=rx; subst e; cases ry; done) | (simp [pl] at py; done)
  | _ => cases y <;> first
   | rfl
   | (simp only [Rep] at rx ry; subst rx; cases ry <;> rfl)
   | (simp [pl] at px; done)
   | (simp [pl] at py; done)
   | (simp only [Rep] at rx ry; obtain ⟨a,xs,e,_⟩:=ry; subst e; cases rx; done)
theorem units_in1 (A : Around) : A.in1.units = A.units + 1:=by rfl
theorem eO {α : Type} [DecidableEq (Option α)] (ts us : List α) : ((List.range (min ts.length us.length)).all (fun j => decide (ts[j]? = us[j]?)) && ts.length == us.length) = true ↔ ts = us:=by
 rw [Bool.and_eq_true,List.all_eq_true,beq_iff_eq]
 constructor
 ·
  rintro ⟨h,hl⟩
  refine List.ext_getElem? fun i => ?_
  by_cases hi : i < ts.length
  ·
   exact of_decide_eq_true (h i (List.mem_range.mpr (by omega)))
  ·
   rw [List.getElem?_eq_none (by omega),List.getElem?_eq_none (by omega)]
 ·
  rintro rfl
  exact ⟨fun i _ => by simp,rfl⟩
theorem qD {us : List Value} {i : Nat} (h : i < us.toArray.size) {v : Value} (e : us[i]? = some v) : us.toArray[i] = v:=by
 have : us.toArray[i]? = some v:=by simpa using e
 rw [Array.getElem?_eq_getElem h] at this
 exact Option.some.inj this
theorem kG (I : Inv X pins σ H s) : ∀ (d : Nat) (A : Around) (x y : T) (vx vy : V) (u v : Value),pl d x = true -> pl d y = true -> Rep X.K H x vx -> Rep X.K H y vy -> RelV vx u -> RelV vy v -> A.units + d < cLine -> SeqAt.EqAt A s u v (decide (x = y)):=by
 have cZ : ∀ (A : Around) (x y : T) (vx vy : V) (u v : Value),pl 0 x = true -> pl 0 y = true -> Rep X.K H x vx -> Rep X.K H y vy -> RelV vx u -> RelV vy v -> SeqAt.EqAt A s u v (decide (x = y)):=by
  intro A x y vx vy u v px py rx ry ru rv
  cases x with
  | non =>
   cases rx.non; cases ru
   cases y with
   | non => cases ry.non; cases rv; simp only [decide_true]; exact SeqAt.EqAt.same _
   | int j => cases ry.int; obtain ⟨t',rfl⟩:=rv; rw [decide_eq_false (by simp)]; exact SeqAt.EqAt.none_int _ _
   | str j => cases ry.str; obtain ⟨t',rfl⟩:=rv; rw [decide_eq_false (by simp)]; exact SeqAt.EqAt.none_str _ _
   | _ => simp [pl] at py
  | int i =>
   cases rx.int; obtain ⟨t,rfl⟩:=ru
   cases y with
   | non => cases ry.non; cases rv; rw [decide_eq_false (by simp)]; exact SeqAt.EqAt.int_none _ _
   | int j =>
    cases ry.int; obtain ⟨t',rfl⟩:=rv
    rw [show decide (T.int i = T.int j) = (i == j) by by_cases h : i = j <;> simp [h]]
    exact SeqAt.EqAt.int_int _ _ _ _
   | str j => cases ry.str; obtain ⟨t',rfl⟩:=rv; rw [decide_eq_false (by simp)]; exact SeqAt.EqAt.int_str _ _ _ _
   | _ => simp [pl] at py
  | str i =>
   cases rx.str; obtain ⟨t,rfl⟩:=ru
   cases y with
   | non => cases ry.non; cases rv; rw [decide_eq_false (by simp)]; exact SeqAt.EqAt.str_none _ _
   | int j => cases ry.int; obtain ⟨t',rfl⟩:=rv; rw [decide_eq_false (by simp)]; exact SeqAt.EqAt.str_int _ _ _ _
   | str j =>
    cases ry.str; obtain ⟨t',rfl⟩:=rv
    rw [show decide (T.str i = T.str j) = (i == j) by by_cases h : i = j <;> simp [h]]
    exact SeqAt.EqAt.str_str _ _ _ _
   | _ => simp [pl] at py
  | _ => simp [pl] at px
 intro d
 induction d with
 | zero => intro A x y vx vy u v px py rx ry ru rv _; exact cZ A x y vx vy u v px py rx ry ru rv
 | succ d ih =>
  intro A x y vx vy u v px py rx ry ru rv hu
  have hu0 : A.units < cLine:=by omega
  cases x with
  | tup ts =>
   obtain ⟨a,xs,rfl,sq,r⟩:=rx.tup
   cases ru
   obtain ⟨its,rv1,ht,_⟩:=I.tuple sq
   cases y with
   | tup us =>
    obtain ⟨b,ys,rfl,sq',r'⟩:=ry.tup
    cases rv
    obtain ⟨its',rv2,ht',_⟩:=I.tuple sq'
    by_cases hab : a = b
    ·
     subst hab
     have e : T.tup ts = T.tup us:=kF I (d + 1) _ _ (.ref a) px py (.ofTup sq r) (.ofTup sq' r')
     rw [e,decide_eq_true rfl]
     exact SeqAt.EqAt.same _
    ·
     have l1:=r.length
     have l2:=r'.length
     have l3:=rv1.length
     have l4:=rv2.length
     have key:=SeqAt.RcAt.tuples (A:=A) (s:=s) (e:=fun j => decide (ts[j]? = us[j]?)) (show s.heap.IsTuple a its.toArray from ht) (show s.heap.IsTuple b its'.toArray from ht') hu0 (fun j h1 h2 => by
      rw [List.size_toArray] at h1 h2
      have g1 : j < ts.length:=by omega
      have g2 : j < us.length:=by omega
      obtain ⟨p1,e1,q1⟩:=r.get (List.getElem?_eq_getElem g1)
      obtain ⟨p2,e2,q2⟩:=r'.get (List.getElem?_eq_getElem g2)
      obtain ⟨z1,f1,w1⟩:=rv1.get e1
      obtain ⟨z2,f2,w2⟩:=rv2.get e2
      rw [qD _ f1,qD _ f2,List.getElem?_eq_getElem g1,List.getElem?_eq_getElem g2]
      simp only [pl,List.all_eq_true] at px py
      have:=ih A.in1 ts[j] us[j] p1 p2 z1 z2 (px _ (List.getElem_mem g1)) (py _ (List.getElem_mem g2)) q1 q2 w1 w2 (by rw [units_in1]; omega)
      rw [show decide (some ts[j] = some us[j]) = decide (ts[j] = us[j]) by by_cases h : ts[j] = us[j] <;> simp [h]]
      exact this)
     have eb : ((List.range (min its.toArray.size its'.toArray.size)).all (fun j => decide (ts[j]? = us[j]?)) && its.toArray.size == its'.toArray.size) = decide (T.tup ts = T.tup us):=by
      rw [List.size_toArray,List.size_toArray,<- l3,<- l1,<- l4,<- l2,Bool.eq_iff_iff,eO,decide_eq_true_iff]
      constructor
      ·
       rintro rfl; rfl
      ·
       intro h; injection h
     rw [eb] at key
     exact .of_refs hab key
   | non => cases ry.non; cases rv; rw [decide_eq_false (by simp)]; exact SeqAt.EqAt.tuple_none ht hu0
   | int j => cases ry.int; obtain ⟨t',rfl⟩:=rv; rw [decide_eq_false (by simp)]; exact SeqAt.EqAt.tuple_int _ _ ht hu0
   | str j => cases ry.str; obtain ⟨t',rfl⟩:=rv; rw [decide_eq_false (by simp)]; exact SeqAt.EqAt.tuple_str _ _ ht hu0
   | _ => simp [pl] at py
  | non =>
   cases y with
   | tup us =>
    obtain ⟨b,ys,rfl,sq',r'⟩:=ry.tup
    cases rv
    obtain ⟨its',rv2,ht',_⟩:=I.tuple sq'
    cases rx.non; cases ru; rw [decide_eq_false (by simp)]; exact SeqAt.EqAt.none_tuple ht' hu0
   | non => exact cZ A _ _ vx vy u v rfl rfl rx ry ru rv
   | int j => exact cZ A _ _ vx vy u v rfl rfl rx ry ru rv
   | str j => exact cZ A _ _ vx vy u v rfl rfl rx ry ru rv
   | _ => simp [pl] at py
  | int i =>
   cases y with
   | tup us =>
    obtain ⟨b,ys,rfl,sq',r'⟩:=ry.tup
    cases rv
    obtain ⟨its',rv2,ht',_⟩:=I.tuple sq'
    cases rx.int; obtain ⟨t,rfl⟩:=ru; rw [decide_eq_false (by simp)]; exact SeqAt.EqAt.int_tuple _ _ ht' hu0
   | non => exact cZ A _ _ vx vy u v rfl rfl rx ry ru rv
   | int j => exact cZ A _ _ vx vy u v rfl rfl rx ry ru rv
   | str j => exact cZ A _ _ vx vy u v rfl rfl rx ry ru rv
   | _ => simp [pl] at py
  | str i =>
   cases y with
   | tup us =>
    obtain ⟨b,ys,rfl,sq',r'⟩:=ry.tup
    cases rv
    obtain ⟨its',rv2,ht',_⟩:=I.tuple sq'
    cases rx.str; obtain ⟨t,rfl⟩:=ru; rw [decide_eq_false (by simp)]; exact SeqAt.EqAt.str_tuple _ _ ht' hu0
   | non => exact cZ A _ _ vx vy u v rfl rfl rx ry ru rv
   | int j => exact cZ A _ _ vx vy u v rfl rfl rx ry ru rv
   | str j => exact cZ A _ _ vx vy u v rfl rfl rx ry ru rv
   | _ => simp [pl] at py
  | _ => simp [pl] at px
end
def rI3 (C : Int -> Int -> Prop) (g : Int -> Int -> T) : R3:=fun x y H Q => match x,y with
 | .int i,.int j => C i j /\ Q (g i j) H
 | _,_ => False
def mZ (g : Int -> Int -> T) : R3:=fun x y H Q => match x,y with
 | .int i,.int j => Q (g i j) H
 | _,_ => False
section
variable {X : Cx}
theorem m3 {f : Value -> Value -> Sem Value} {C : Int -> Int -> Prop} {g : Int -> Int -> T} {g' : Int -> Int -> V} (h : OpR X f (rI C g')) (hg : ∀ i j H,Rep X.K H (g i j) (g' i j)) : cC X f (rI3 C g):=by
 refine OpR.imp h ?_
 rintro x y H Q ⟨tx,ty,H3,Q3,rx,ry,sh,h,k⟩
 cases tx with
 | int i =>
  cases ty with
  | int j => exact ⟨i,j,rx.int,ry.int,h.1,k _ _ _ _ .refl sh (hg i j H) h.2⟩
  | _ => exact h.elim
 | _ => exact h.elim
theorem m5 {f : Value -> Value -> Sem Value} {g : Int -> Int -> T} {g' : Int -> Int -> V} (h : OpR X f (rI0 g')) (hg : ∀ i j H,Rep X.K H (g i j) (g' i j)) : cC X f (mZ g):=by
 refine OpR.imp h ?_
 rintro x y H Q ⟨tx,ty,H3,Q3,rx,ry,sh,h,k⟩
 cases tx with
 | int i =>
  cases ty with
  | int j => exact ⟨i,j,rx.int,ry.int,k _ _ _ _ .refl sh (hg i j H) h⟩
  | _ => exact h.elim
 | _ => exact h.elim
def de (_ j : Int) : Prop:=0 < j /\ j.natAbs.log2 < 9000
theorem m6 : OpR X (binaryOp .FloorDiv) (rI de fun i j => .int (i / j)):=opI fun i j _ _ _ _ _ hc q => by
 have e : i / j = i.fdiv j:=(Int.fdiv_eq_ediv_of_nonneg i (Int.le_of_lt hc.1)).symm
 rw [e] at q
 exact floordiv_int (Int.ne_of_gt hc.1) q (.inl (PyProof.noPylong_of_log2 hc.2))
theorem uo : cC X (binaryOp .Sub) (mZ fun i j => .int (i - j)):=m5 tV fun _ _ _ => .ofInt
theorem aH : cC X (binaryOp .FloorDiv) (rI3 de fun i j => .int (i / j)):=m3 m6 fun _ _ _ => .ofInt
theorem aA : cC X (binaryOp .Mod) (rI3 (fun _ j => 0 < j) fun i j => .int (i % j)):=m3 tX fun _ _ _ => .ofInt
theorem gI : cC X (binaryOp .Pow) (rI3 jp fun i j => .int (i ^ j.toNat)):=m3 tY fun _ _ _ => .ofInt
theorem sH : cC X (compareOp .Lt) (mZ fun i j => .bl (decide (i < j))):=m5 xc fun _ _ _ => .ofBl
theorem xE : cC X (compareOp .Gt) (mZ fun i j => .bl (decide (j < i))):=m5 xf fun _ _ _ => .ofBl
theorem cE : cC X (binaryOp .Mult) (rI3 CMul fun i j => .int (i * j)):=m3 tW fun _ _ _ => .ofInt
def eP : R3:=fun x y H Q => match x,y with
 | .int i,.int j => Q (.int (i + j)) H
 | .str i,.str j => i.length + j.length <= sizeLine /\ Q (.str (i ++ j)) H
 | .ref a,.ref b => match H a,H b with
  | some (.lst xs),some (.lst ys) => xs.length + ys.length <= sizeLine /\ ∀ p,H p = none -> Q (.ref p) (up3 H p (.lst (xs ++ ys)))
  | _,_ => False
 | .tup xs,.tup ys => xs.length + ys.length <= sizeLine /\ Q (.tup (xs ++ ys)) H
 | _,_ => False
theorem m7 : OpR X (binaryOp .Add) (fun x y H Q => ∃ a b ys,x = .ref a /\ y = .ref b /\ SqT X.K H a [] /\ SqT X.K H b ys /\ Q (.ref b) H):=by
 intro pins s σ H x y v u Q I rx ry h
 obtain ⟨a,b,ys,rfl,rfl,ha,hb,q⟩:=h
 cases rx
 cases ry
 obtain ⟨its,r1,p1,_⟩:=I.tuple ha
 obtain ⟨its2,r2,p2,_⟩:=I.tuple hb
 cases r1
 obtain ⟨⟨cls,dd,data,sl⟩,ho,hc,n,hd⟩:=id p1
 obtain ⟨⟨cls2,dd2,data2,sl2⟩,ho2,hc2,n2,hd2⟩:=id p2
 simp only at hc hd hc2 hd2
 subst hc hd hc2 hd2
 exact concat_meets ⟨_,ho,rfl⟩ ⟨_,ho2,rfl⟩ noFill_tuple_add seq_tuple_add PySem.F.slot_tuple_add PySem.F.entry_tuple_add (PySem.F.args_tuple_add_2 _ _)
   (tuple_addW0 a b _ its2.toArray n n2 dd dd2 sl sl2 (by simp)) ⟨ho,ho2,⟨.ref b,H,I,rfl,q⟩⟩
theorem aY : cC X (binaryOp .Add) eP:=by
 refine OpR.imp (op_add.or (op_add_str.or (op_cat.or (op_catT.or m7)))) ?_
 rintro x y H Q ⟨tx,ty,H3,Q3,rx,ry,sh,h,k⟩
 cases tx with
 | int i =>
  cases ty with
  | int j => exact .inl ⟨i,j,rx.int,ry.int,k _ _ _ _ .refl sh .ofInt h⟩
  | _ => exact h.elim
 | str i =>
  cases ty with
  | str j => exact .inr (.inl ⟨i,j,rx.str,ry.str,h.1,k _ _ _ _ .refl sh .ofStr h.2⟩)
  | _ => exact h.elim
 | ref a =>
  cases ty with
  | ref b =>
   have h' : (match H3 a,H3 b with
    | some (.lst xs),some (.lst ys) => xs.length + ys.length <= sizeLine /\ ∀ p,H3 p = none -> Q3 (.ref p) (up3 H3 p (.lst (xs ++ ys)))
    | _,_ => False):=h
   split at h'
   ·
    rename_i xs ys e1 e2
    obtain ⟨vs,g1,r1⟩:=sh a _ e1
    obtain ⟨ws,g2,r2⟩:=sh b _ e2
    refine .inr (.inr (.inl ⟨a,b,vs,ws,rx.ref,ry.ref,g1,g2,by rw [<- r1.length,<- r2.length]; exact h'.1,fun p hp => ?_⟩))
    exact k _ _ _ _ (ar hp) (sh.newLst hp (r1.append r2)) .ofRef (h'.2 p (sh.fresh hp))
   ·
    exact h'.elim
  | _ => exact h.elim
 | tup xs =>
  cases ty with
  | tup ys =>
   obtain ⟨a,vs,rfl,s1,r1⟩:=rx.tup
   obtain ⟨b,ws,rfl,s2,r2⟩:=ry.tup
   by_cases hv : vs = []
   ·
    subst hv
    have e0 : xs = []:=List.eq_nil_of_length_eq_zero r1.length
    subst e0
    exact .inr (.inr (.inr (.inr ⟨a,b,ws,rfl,rfl,s1,s2,k _ _ _ _ .refl sh (.ofTup s2 r2) h.2⟩)))
   refine .inr (.inr (.inr (.inl ⟨a,b,vs,ws,rfl,rfl,s1,s2,hv,by rw [<- r1.length,<- r2.length]; exact h.1,fun hw => ?_,fun hw p hp => ?_⟩)))
   ·
    have e : ys = []:=by have:=r2.length; rw [hw] at this; exact List.eq_nil_of_length_eq_zero this
    have q:=h.2
    rw [e,List.append_nil] at q
    exact k _ _ _ _ .refl sh (.ofTup s1 r1) q
   ·
    exact k _ _ _ _ (ar hp) (sh.new hp) (SimH.newTup (H3:=H3) hp (r1.append r2)) h.2
  | _ => exact h.elim
 | _ => exact h.elim
end
section
variable {X : Cx} {pins : List (Addr × Obj)} {σ : L2.St} {H : Hp} {s : Shared}
def jC (neg : Bool) : R3:=fun x y H Q => match x,y with
 | .int i,.int j => Q (.bl (if neg then !decide (i = j) else decide (i = j))) H
 | .str i,.str j => Q (.bl (if neg then !decide (i = j) else decide (i = j))) H
 | .bl i,.bl j => Q (.bl (if neg then !decide (i = j) else decide (i = j))) H
 | .non,.non => Q (.bl (if neg then false else true)) H
 | .tup xs,.tup ys => xs.all (pl 20) = true /\ ys.all (pl 20) = true /\ Q (.bl (if neg then !decide (xs = ys) else decide (xs = ys))) H
 | .ref a,.ref b => match H a,H b with
  | some (.lst xs),some (.lst ys) => a ≠ b /\ xs.all (pl 20) = true /\ ys.all (pl 20) = true /\ Q (.bl (if neg then !decide (xs = ys) else decide (xs = ys))) H
  | _,_ => False
 | _,_ => False
theorem df (I : Inv X pins σ H s) {ts us : List T} {xs ys : List V} {its its' : List Value} {A : Around} (hu : A.units + 30 < cLine) (px : ts.all (pl 20) = true) (py : us.all (pl 20) = true) (r : Reps X.K H ts xs) (r' : Reps X.K H us ys) (rv1 : Vals xs its) (rv2 : Vals ys its') :
  ∀ j (h1 : j < its.toArray.size) (h2 : j < its'.toArray.size),SeqAt.EqAt A.in1 s its.toArray[j] its'.toArray[j] (decide (ts[j]? = us[j]?)):=fun j h1 h2 => by
 have l1:=r.length
 have l2:=r'.length
 have l3:=rv1.length
 have l4:=rv2.length
 rw [List.size_toArray] at h1 h2
 have g1 : j < ts.length:=by omega
 have g2 : j < us.length:=by omega
 obtain ⟨p1,e1,q1⟩:=r.get (List.getElem?_eq_getElem g1)
 obtain ⟨p2,e2,q2⟩:=r'.get (List.getElem?_eq_getElem g2)
 obtain ⟨z1,f1,w1⟩:=rv1.get e1
 obtain ⟨z2,f2,w2⟩:=rv2.get e2
 rw [qD _ f1,qD _ f2,List.getElem?_eq_getElem g1,List.getElem?_eq_getElem g2]
 rw [List.all_eq_true] at px py
 have:=kG I 20 A.in1 ts[j] us[j] p1 p2 z1 z2 (px _ (List.getElem_mem g1)) (py _ (List.getElem_mem g2)) q1 q2 w1 w2 (by rw [units_in1]; omega)
 rw [show decide (some ts[j] = some us[j]) = decide (ts[j] = us[j]) by by_cases h : ts[j] = us[j] <;> simp [h]]
 exact this
theorem dg {ts us : List T} : ((List.range (min ts.length us.length)).all (fun j => decide (ts[j]? = us[j]?)) && ts.length == us.length) = decide (ts = us):=by
 rw [Bool.eq_iff_iff,eO,decide_eq_true_iff]
theorem bG (hu : X.A.units + 30 < cLine) : cC X (compareOp .Eq) (jC false):=by
 intro pins s σ H x y v u Q I rv ru h
 obtain ⟨tx,ty,H3,Q3,rx,ry,sh,h,k⟩:=h
 have sc : ∀ {x y : V},cZ x y = true -> RelV x v -> RelV y u -> (k : Q (.bl (decide (x = y))) H) -> wpAny (model X.prog X.w) X.A (compareOp .Eq v u) (EP X pins σ Q) X.xe s:=fun {x y} a r1 r2 q => xa pins s σ H x y v u Q I r1 r2 ⟨a,q⟩
 cases tx with
 | int i =>
  cases ty with
  | int j =>
   rw [rx.int] at rv; rw [ry.int] at ru
   exact sc rfl rv ru (k _ _ _ _ .refl sh (by rw [show decide (V.int i = V.int j) = decide (i = j) by by_cases e : i = j <;> simp [e]]; exact .ofBl) h)
  | _ => exact h.elim
 | str i =>
  cases ty with
  | str j =>
   rw [rx.str] at rv; rw [ry.str] at ru
   exact sc rfl rv ru (k _ _ _ _ .refl sh (by rw [show decide (V.str i = V.str j) = decide (i = j) by by_cases e : i = j <;> simp [e]]; exact .ofBl) h)
  | _ => exact h.elim
 | bl i =>
  cases ty with
  | bl j =>
   rw [rx.bl] at rv; rw [ry.bl] at ru
   exact sc rfl rv ru (k _ _ _ _ .refl sh (by rw [show decide (V.bl i = V.bl j) = decide (i = j) by by_cases e : i = j <;> simp [e]]; exact .ofBl) h)
  | _ => exact h.elim
 | non =>
  cases ty with
  | non =>
   rw [rx.non] at rv; rw [ry.non] at ru
   exact sc rfl rv ru (k _ _ _ _ .refl sh (by rw [show decide (V.non = V.non) = true by simp]; exact .ofBl) h)
  | _ => exact h.elim
 | tup ts =>
  cases ty with
  | tup us =>
   obtain ⟨a,xs,rfl,sq,r⟩:=rx.tup
   obtain ⟨b,ys,rfl,sq',r'⟩:=ry.tup
   cases rv; cases ru
   obtain ⟨its,rv1,ht,_⟩:=I.tuple sq
   obtain ⟨its',rv2,ht',_⟩:=I.tuple sq'
   refine SeqAt.eq_tupleAt (e:=fun j => decide (ts[j]? = us[j]?)) ht ht' (by omega) (df I hu h.1 h.2.1 r r' rv1 rv2) ⟨.bl _,H,I,rfl,?_⟩
   rw [List.size_toArray,List.size_toArray,<- rv1.length,<- rv2.length,<- r.length,<- r'.length,dg]
   exact k _ _ _ _ .refl sh .ofBl h.2.2
  | _ => exact h.elim
 | ref a =>
  cases ty with
  | ref b =>
   have h' : (match H3 a,H3 b with
    | some (.lst xs),some (.lst ys) => a ≠ b /\ xs.all (pl 20) = true /\ ys.all (pl 20) = true /\ Q3 (.bl (decide (xs = ys))) H3
    | _,_ => False):=h
   split at h'
   ·
    rename_i ts us e1 e2
    obtain ⟨xs,g1,r⟩:=sh a _ e1
    obtain ⟨ys,g2,r'⟩:=sh b _ e2
    cases rx.ref; cases ry.ref; cases rv; cases ru
    obtain ⟨its,rv1,ht,_⟩:=I.list (X:=X) (.of g1)
    obtain ⟨its',rv2,ht',_⟩:=I.list (X:=X) (.of g2)
    have hl : its.length = ts.length:=by rw [<- rv1.length,<- r.length]
    have hl' : its'.length = us.length:=by rw [<- rv2.length,<- r'.length]
    by_cases hsz : ts.length = us.length
    ·
     refine SeqAt.eq_listAt (e:=fun j => decide (ts[j]? = us[j]?)) ht.isList ht'.isList (by simp; omega) (by omega) (df I hu h'.2.1 h'.2.2.1 r r' rv1 rv2) ⟨.bl _,H,I,rfl,?_⟩
     have e:=dg (ts:=ts) (us:=us)
     rw [<- hsz,Nat.min_self,beq_self_eq_true,Bool.and_true] at e
     rw [List.size_toArray,hl,e]
     exact k _ _ _ _ .refl sh .ofBl h'.2.2.2
    ·
     refine SeqAt.eq_list_lengthsAt ht.isList ht'.isList (by simp; omega) (by omega) ⟨.bl false,H,I,rfl,?_⟩
     have e : decide (ts = us) = false:=decide_eq_false fun z => hsz (by rw [z])
     have q:=h'.2.2.2
     rw [e] at q
     exact k _ _ _ _ .refl sh .ofBl q
   ·
    exact h'.elim
  | _ => exact h.elim
 | _ => exact h.elim
theorem m9 (hu : X.A.units + 30 < cLine) : cC X (compareOp .NotEq) (jC true):=by
 intro pins s σ H x y v u Q I rv ru h
 obtain ⟨tx,ty,H3,Q3,rx,ry,sh,h,k⟩:=h
 have sc : ∀ {x y : V},cZ x y = true -> RelV x v -> RelV y u -> (k : Q (.bl (!decide (x = y))) H) -> wpAny (model X.prog X.w) X.A (compareOp .NotEq v u) (EP X pins σ Q) X.xe s:=fun {x y} a r1 r2 q => xb pins s σ H x y v u Q I r1 r2 ⟨a,q⟩
 cases tx with
 | int i =>
  cases ty with
  | int j =>
   rw [rx.int] at rv; rw [ry.int] at ru
   exact sc rfl rv ru (k _ _ _ _ .refl sh (by rw [show decide (V.int i = V.int j) = decide (i = j) by by_cases e : i = j <;> simp [e]]; exact .ofBl) h)
  | _ => exact h.elim
 | str i =>
  cases ty with
  | str j =>
   rw [rx.str] at rv; rw [ry.str] at ru
   exact sc rfl rv ru (k _ _ _ _ .refl sh (by rw [show decide (V.str i = V.str j) = decide (i = j) by by_cases e : i = j <;> simp [e]]; exact .ofBl) h)
  | _ => exact h.elim
 | bl i =>
  cases ty with
  | bl j =>
   rw [rx.bl] at rv; rw [ry.bl] at ru
   exact sc rfl rv ru (k _ _ _ _ .refl sh (by rw [show decide (V.bl i = V.bl j) = decide (i = j) by by_cases e : i = j <;> simp [e]]; exact .ofBl) h)
  | _ => exact h.elim
 | non =>
  cases ty with
  | non =>
   rw [rx.non] at rv; rw [ry.non] at ru
   exact sc rfl rv ru (k _ _ _ _ .refl sh (by rw [show decide (V.non = V.non) = true by simp]; exact .ofBl) h)
  | _ => exact h.elim
 | tup ts =>
  cases ty with
  | tup us =>
   obtain ⟨a,xs,rfl,sq,r⟩:=rx.tup
   obtain ⟨b,ys,rfl,sq',r'⟩:=ry.tup
   cases rv; cases ru
   obtain ⟨its,rv1,ht,_⟩:=I.tuple sq
   obtain ⟨its',rv2,ht',_⟩:=I.tuple sq'
   refine SeqAt.RcNeAt.tuples (e:=fun j => decide (ts[j]? = us[j]?)) ht ht' (by omega) (df I hu h.1 h.2.1 r r' rv1 rv2) _ _ _ _ ⟨.bl _,H,I,rfl,?_⟩
   rw [List.size_toArray,List.size_toArray,<- rv1.length,<- rv2.length,<- r.length,<- r'.length,dg]
   exact k _ _ _ _ .refl sh .ofBl h.2.2
  | _ => exact h.elim
 | ref a =>
  cases ty with
  | ref b =>
   have h' : (match H3 a,H3 b with
    | some (.lst xs),some (.lst ys) => a ≠ b /\ xs.all (pl 20) = true /\ ys.all (pl 20) = true /\ Q3 (.bl (!decide (xs = ys))) H3
    | _,_ => False):=h
   split at h'
   ·
    rename_i ts us e1 e2
    obtain ⟨xs,g1,r⟩:=sh a _ e1
    obtain ⟨ys,g2,r'⟩:=sh b _ e2
    cases rx.ref; cases ry.ref; cases rv; cases ru
    obtain ⟨its,rv1,ht,_⟩:=I.list (X:=X) (.of g1)
    obtain ⟨its',rv2,ht',_⟩:=I.list (X:=X) (.of g2)
    have hl : its.length = ts.length:=by rw [<- rv1.length,<- r.length]
    have hl' : its'.length = us.length:=by rw [<- rv2.length,<- r'.length]
    by_cases hsz : ts.length = us.length
    ·
     refine SeqAt.RcNeAt.lists (e:=fun j => decide (ts[j]? = us[j]?)) ht.isList ht'.isList (by simp; omega) (by omega) (df I hu h'.2.1 h'.2.2.1 r r' rv1 rv2) _ _ _ _ ⟨.bl _,H,I,rfl,?_⟩
     have e:=dg (ts:=ts) (us:=us)
     rw [<- hsz,Nat.min_self,beq_self_eq_true,Bool.and_true] at e
     rw [List.size_toArray,hl,e]
     exact k _ _ _ _ .refl sh .ofBl h'.2.2.2
    ·
     refine SeqAt.RcNeAt.lists_lengths ht.isList ht'.isList (by simp; omega) (by omega) _ _ _ _ ⟨.bl true,H,I,rfl,?_⟩
     have e : decide (ts = us) = false:=decide_eq_false fun z => hsz (by rw [z])
     have q:=h'.2.2.2
     rw [e] at q
     exact k _ _ _ _ .refl sh .ofBl q
   ·
    exact h'.elim
  | _ => exact h.elim
 | _ => exact h.elim
noncomputable def bR (neg : Bool) (x : T) (ts : List T) : Bool:=if neg then !decide (x ∈ ts) else decide (x ∈ ts)
noncomputable def occ (neg : Bool) (i j : Str) : Bool:=if neg then !(!(Builtin.Str.occurrences j i 0 j.length 1).isEmpty) else !(Builtin.Str.occurrences j i 0 j.length 1).isEmpty
def iJ (neg : Bool) : R3:=fun x y H Q => match y with
 | .tup ts => pl 20 x = true /\ ts.all (pl 20) = true /\ Q (.bl (bR neg x ts)) H
 | .ref a => match H a with
  | some (.lst ts) => pl 20 x = true /\ ts.all (pl 20) = true /\ Q (.bl (bR neg x ts)) H
  | some (.rol ts) => pl 20 x = true /\ ts.all (pl 20) = true /\ Q (.bl (bR neg x ts)) H
  | _ => False
 | .str j => match x with
  | .str i => Q (.bl (occ neg i j)) H
  | _ => False
 | _ => False
theorem gJ (I : Inv X pins σ H s) {x : T} {ts : List T} {xs : List V} {its : List Value} (px : pl 20 x = true) (pts : ts.all (pl 20) = true) (r : Reps X.K H ts xs) (rv : Vals xs its) (A : Around) (hu : A.units + 30 < cLine) {vx : V} {u : Value} (rx : Rep X.K H x vx) (ru : RelV vx u) :
  ∃ e : Value -> Bool,(∀ y,y ∈ its -> SeqAt.EqAt A s y u (e y)) /\ its.any e = decide (x ∈ ts):=by
 rw [List.all_eq_true] at pts
 have own : ∀ y,y ∈ its -> ∃ t v,t ∈ ts /\ Rep X.K H t v /\ RelV v y:=fun y hy => by
  obtain ⟨i,hi,e⟩:=List.mem_iff_getElem.mp hy
  have hl:=rv.length
  have e' : its[i]? = some y:=by rw [List.getElem?_eq_getElem hi,e]
  have hx : xs[i]? = some xs[i]:=List.getElem?_eq_getElem (by omega)
  obtain ⟨z,ez,rz⟩:=rv.get hx
  rw [e'] at ez; cases ez
  obtain ⟨t,et,rt⟩:=r.get' hx
  exact ⟨t,_,List.mem_of_getElem? et,rt,rz⟩
 have dec : ∀ t v y,t ∈ ts -> Rep X.K H t v -> RelV v y -> (@decide (∃ v,RelV v y /\ Rep X.K H x v) (Classical.propDecidable _) = true ↔ t = x):=fun t v y ht rt ry => by
  rw [@decide_eq_true_iff _ (Classical.propDecidable _)]
  constructor
  ·
   rintro ⟨v',r1,r2⟩
   cases r1.inj ry
   exact kF I 20 t x _ (pts t ht) px rt r2
  ·
   rintro rfl
   exact ⟨v,ry,rt⟩
 refine ⟨fun y => @decide (∃ v,RelV v y /\ Rep X.K H x v) (Classical.propDecidable _),fun y hy => ?_,?_⟩
 ·
  obtain ⟨t,v,ht,rt,ry⟩:=own y hy
  have q:=kG I 20 A t x v vx y u (pts t ht) px rt rx ry ru (by omega)
  have e : @decide (∃ v,RelV v y /\ Rep X.K H x v) (Classical.propDecidable _) = decide (t = x):=by
   rw [Bool.eq_iff_iff,dec t v y ht rt ry,decide_eq_true_iff]
  show SeqAt.EqAt A s y u (@decide (∃ v,RelV v y /\ Rep X.K H x v) (Classical.propDecidable _))
  rw [e]
  exact q
 ·
  rw [Bool.eq_iff_iff,List.any_eq_true,decide_eq_true_iff]
  constructor
  ·
   rintro ⟨y,hy,e⟩
   obtain ⟨t,v,ht,rt,ry⟩:=own y hy
   rw [<- (dec t v y ht rt ry).mp e]
   exact ht
  ·
   intro hx
   obtain ⟨i,hi,e⟩:=List.mem_iff_getElem.mp hx
   obtain ⟨v,ev,rvv⟩:=r.get (show ts[i]? = some x by rw [List.getElem?_eq_getElem hi,e])
   obtain ⟨y,ey,ry⟩:=rv.get ev
   exact ⟨y,List.mem_of_getElem? ey,(dec x v y hx rvv ry).mpr rfl⟩
end
section
variable {X : Cx}
theorem dP (hu : X.A.units + 31 < cLine) : cC X (compareOp .In) (iJ false):=by
 intro pins s σ H x y v u Q I rv ru h
 obtain ⟨tx,ty,H3,Q3,rx,ry,sh,h,k⟩:=h
 have hu' : X.A.in1.units + 30 < cLine:=by rw [units_in1]; omega
 have lst : ∀ {a : Addr} {ts : List T} {xs : List V},SqL X.K H a xs -> Reps X.K H ts xs -> u = .ref a -> pl 20 tx = true -> ts.all (pl 20) = true -> Q3 (.bl (bR false tx ts)) H3 -> wpAny (model X.prog X.w) X.A (compareOp .In v u) (EP X pins σ Q) X.xe s:=by
  intro a ts xs sq r e p1 p2 q
  subst e
  obtain ⟨its,rvs,ht,_⟩:=I.list sq
  obtain ⟨e,he,ea⟩:=gJ I p1 p2 r rvs X.A.in1 hu' rx rv
  refine SeqAt.in_listAt e ht.isList (fun y hy => he y (by simpa using hy)) ⟨.bl _,H,I,rfl,?_⟩
  rw [show its.toArray.any e = its.any e by simp,ea]
  exact k _ _ _ _ .refl sh .ofBl q
 cases ty with
 | tup ts =>
  obtain ⟨a,xs,rfl,sq,r⟩:=ry.tup
  cases ru
  obtain ⟨its,rvs,ht,_⟩:=I.tuple sq
  obtain ⟨e,he,ea⟩:=gJ I h.1 h.2.1 r rvs X.A.in1 hu' rx rv
  refine SeqAt.in_tupleAt e ht (fun y hy => he y (by simpa using hy)) ⟨.bl _,H,I,rfl,?_⟩
  rw [show its.toArray.any e = its.any e by simp,ea]
  exact k _ _ _ _ .refl sh .ofBl h.2.2
 | ref a =>
  have h' : (match H3 a with
   | some (.lst ts) => pl 20 tx = true /\ ts.all (pl 20) = true /\ Q3 (.bl (bR false tx ts)) H3
   | some (.rol ts) => pl 20 tx = true /\ ts.all (pl 20) = true /\ Q3 (.bl (bR false tx ts)) H3
   | _ => False):=h
  rw [ry.ref] at ru
  split at h'
  ·
   rename_i ts e
   obtain ⟨xs,sq,r⟩:=sh.sqL (.inl e)
   exact lst sq r ru h'.1 h'.2.1 h'.2.2
  ·
   rename_i ts e
   obtain ⟨xs,sq,r⟩:=sh.sqL (.inr e)
   exact lst sq r ru h'.1 h'.2.1 h'.2.2
  ·
   exact h'.elim
 | str j =>
  cases tx with
  | str i => exact lz pins s σ H x y v u Q I rv ru ⟨i,j,rx.str,ry.str,k _ _ _ _ .refl sh .ofBl h⟩
  | _ => exact h.elim
 | _ => exact h.elim
theorem eQ (hu : X.A.units + 31 < cLine) : cC X (compareOp .NotIn) (iJ true):=by
 intro pins s σ H x y v u Q I rv ru h
 obtain ⟨tx,ty,H3,Q3,rx,ry,sh,h,k⟩:=h
 have hu' : X.A.in1.units + 30 < cLine:=by rw [units_in1]; omega
 have lst : ∀ {a : Addr} {ts : List T} {xs : List V},SqL X.K H a xs -> Reps X.K H ts xs -> u = .ref a -> pl 20 tx = true -> ts.all (pl 20) = true -> Q3 (.bl (bR true tx ts)) H3 -> wpAny (model X.prog X.w) X.A (compareOp .NotIn v u) (EP X pins σ Q) X.xe s:=by
  intro a ts xs sq r e p1 p2 q
  subst e
  obtain ⟨its,rvs,ht,_⟩:=I.list sq
  obtain ⟨e,he,ea⟩:=gJ I p1 p2 r rvs X.A.in1 hu' rx rv
  refine SeqAt.notIn_listAt e ht.isList (fun y hy => he y (by simpa using hy)) ⟨.bl _,H,I,rfl,?_⟩
  rw [show its.toArray.any e = its.any e by simp,ea]
  exact k _ _ _ _ .refl sh .ofBl q
 cases ty with
 | tup ts =>
  obtain ⟨a,xs,rfl,sq,r⟩:=ry.tup
  cases ru
  obtain ⟨its,rvs,ht,_⟩:=I.tuple sq
  obtain ⟨e,he,ea⟩:=gJ I h.1 h.2.1 r rvs X.A.in1 hu' rx rv
  refine SeqAt.notIn_tupleAt e ht (fun y hy => he y (by simpa using hy)) ⟨.bl _,H,I,rfl,?_⟩
  rw [show its.toArray.any e = its.any e by simp,ea]
  exact k _ _ _ _ .refl sh .ofBl h.2.2
 | ref a =>
  have h' : (match H3 a with
   | some (.lst ts) => pl 20 tx = true /\ ts.all (pl 20) = true /\ Q3 (.bl (bR true tx ts)) H3
   | some (.rol ts) => pl 20 tx = true /\ ts.all (pl 20) = true /\ Q3 (.bl (bR true tx ts)) H3
   | _ => False):=h
  rw [ry.ref] at ru
  split at h'
  ·
   rename_i ts e
   obtain ⟨xs,sq,r⟩:=sh.sqL (.inl e)
   exact lst sq r ru h'.1 h'.2.1 h'.2.2
  ·
   rename_i ts e
   obtain ⟨xs,sq,r⟩:=sh.sqL (.inr e)
   exact lst sq r ru h'.1 h'.2.1 h'.2.2
  ·
   exact h'.elim
 | str j =>
  cases tx with
  | str i => exact gv pins s σ H x y v u Q I rv ru ⟨i,j,rx.str,ry.str,k _ _ _ _ .refl sh .ofBl h⟩
  | _ => exact h.elim
 | _ => exact h.elim
def oq {α : Type} (o : Option α) (Q : α -> Prop) : Prop:=match o with
 | some v => Q v
 | none => False
def fu : R3:=fun x y H Q => match x,y with
 | .ref a,.int i => match H a with
  | some (.lst ts) => oq (atI ts i) fun t => Q t H
  | some (.rol ts) => oq (atI ts i) fun t => Q t H
  | _ => False
 | .tup ts,.int i => oq (atI ts i) fun t => Q t H
 | .str z,.int i => z.length <= sizeLine /\ oq (atI z.cps.toList i) fun c => Q (.str ⟨#[c]⟩) H
 | _,_ => False
theorem kH {K : PySem.W.Frag} {H : Hp} {ts : List T} {xs : List V} {i : Int} {t : T} (r : Reps K H ts xs) (h : atI ts i = some t) : ∃ v,atI xs i = some v /\ Rep K H t v:=by
 unfold atI at h ⊢
 rw [<- r.length]
 cases e : ixN ts.length i with
 | none => rw [e] at h; cases h
 | some j =>
  rw [e] at h
  exact r.get h
theorem ix3 : xC X fu:=by
 refine IxR.imp t7 ?_
 rintro x y H Q ⟨tx,ty,H3,Q3,rx,ry,sh,h,k⟩
 have lst : ∀ {a : Addr} {ts : List T} {xs : List V} {i : Int},SqL X.K H a xs -> Reps X.K H ts xs -> x = .ref a -> y = .int i -> oq (atI ts i) (fun t => Q3 t H3) -> rIx X.K x y H Q:=by
  intro a ts xs i sq r e1 e2 q
  cases e : atI ts i with
  | none => rw [e] at q; exact q.elim
  | some t =>
   rw [e] at q
   obtain ⟨v,ev,rv⟩:=kH r e
   exact .inl ⟨a,xs,i,v,e1,e2,sq,ev,k _ _ _ _ .refl sh rv q⟩
 cases tx with
 | ref a =>
  cases ty with
  | int i =>
   have h' : (match H3 a with
    | some (.lst ts) => oq (atI ts i) fun t => Q3 t H3
    | some (.rol ts) => oq (atI ts i) fun t => Q3 t H3
    | _ => False):=h
   split at h'
   ·
    rename_i ts e
    obtain ⟨xs,sq,r⟩:=sh.sqL (.inl e)
    exact lst sq r rx.ref ry.int h'
   ·
    rename_i ts e
    obtain ⟨xs,sq,r⟩:=sh.sqL (.inr e)
    exact lst sq r rx.ref ry.int h'
   ·
    exact h'.elim
  | _ => exact h.elim
 | tup ts =>
  cases ty with
  | int i =>
   have h' : oq (atI ts i) fun t => Q3 t H3:=h
   cases e : atI ts i with
   | none => rw [e] at h'; exact h'.elim
   | some t =>
    rw [e] at h'
    obtain ⟨a,xs,e1,sq,r⟩:=rx.tup
    obtain ⟨v,ev,rv⟩:=kH r e
    exact .inr (.inl ⟨a,xs,i,v,e1,ry.int,sq,ev,k _ _ _ _ .refl sh rv h'⟩)
  | _ => exact h.elim
 | str z =>
  cases ty with
  | int i =>
   have h' : z.length <= sizeLine /\ oq (atI z.cps.toList i) fun c => Q3 (.str ⟨#[c]⟩) H3:=h
   cases e : atI z.cps.toList i with
   | none => rw [e] at h'; exact h'.2.elim
   | some c =>
    rw [e] at h'
    exact .inr (.inr ⟨z,i,c,rx.str,ry.int,h'.1,e,k _ _ _ _ .refl sh .ofStr h'.2⟩)
  | _ => exact h.elim
 | _ => exact h.elim
def gK : iH:=fun o i v H Q => match o,i with
 | .ref a,.int k => match H a with
  | some (.lst ts) => oq (ixN ts.length k) fun j => Q (up3 H a (.lst (ts.set j v)))
  | _ => False
 | _,_ => False
theorem SimH.wrL {K : PySem.W.Frag} {H : Hp} {H3 : Hp3} {a : Addr} {xs : List V} {ts : List T} {xs' : List V} (s : SimH K H3 H) (hH : H a = some (.lst xs)) (r : Reps K H ts xs') : SimH K (up3 H3 a (.lst ts)) (upd H a (.lst xs')):=fun b o e => by
 have le : TupLe K H (upd H a (.lst xs')):=bB (by rw [hH]; exact trivial)
 by_cases hb : b = a
 ·
  subst hb
  rw [ai] at e; cases e
  exact ⟨xs',aC,r.mono le⟩
 ·
  rw [aj hb] at e
  exact (s b o e).stay le fun u q => by rw [aq hb]; exact q
theorem fR : sD X gK:=by
 refine PSet.imp set_list ?_
 rintro o i v H Q ⟨to,ti,tv,H3,Q3,ro,ri,rv,sh,h,k⟩
 cases to with
 | ref a =>
  cases ti with
  | int n =>
   have h' : (match H3 a with
    | some (.lst ts) => oq (ixN ts.length n) fun j => Q3 (up3 H3 a (.lst (ts.set j tv)))
    | _ => False):=h
   split at h'
   ·
    rename_i ts e
    obtain ⟨xs,hH,r⟩:=sh a _ e
    cases ej : ixN ts.length n with
    | none => rw [ej] at h'; exact h'.elim
    | some j =>
     rw [ej] at h'
     exact ⟨a,xs,n,j,ro.ref,ri.int,hH,by rw [<- r.length]; exact ej,k _ _ (bB (by rw [hH]; exact trivial)) (sh.wrL hH (r.set j rv)) h'⟩
   ·
    exact h'.elim
  | _ => exact h.elim
 | _ => exact h.elim
abbrev TO3:=St3 -> Hp3 -> (Option Int -> Hp3 -> Prop) -> Prop
def zU (K : PySem.W.Frag) (t3 : TO3) : TO:=fun σ H Q => ∃ σ3 H3 Q3,SimS K H σ3 σ /\ SimH K H3 H /\ t3 σ3 H3 Q3 /\ ∀ o H' H3',TupLe K H H' -> SimH K H3' H' -> Q3 o H3' -> Q o H'
def PO3 (X : Cx) (e : Option Expr) (t : TO3) : Prop:=PO X e (zU X.K t)
theorem PO.imp {e : Option Expr} {t t' : TO} (h : PO X e t) (w : ∀ σ H Q,t' σ H Q -> t σ H Q) : PO X e t':=fun pins s σ H Q I q => h pins s σ H Q I (w σ H Q q)
def iK : TO3:=fun _ H Q => Q none H
def ng (t : TE3) : TO3:=fun σ H Q => t σ H fun x H1 => match x with
 | .int i => Q (some i) H1
 | _ => False
theorem cr : PO3 X none iK:=by
 refine PO.imp qf ?_
 rintro σ H Q ⟨σ3,H3,Q3,ss,sh,h,k⟩
 exact k _ _ _ .refl sh h
theorem cu {e : Expr} {te : TE3} (h : PE3 X e te) : PO3 X (some e) (ng te):=by
 refine PO.imp (qg h) ?_
 rintro σ H Q ⟨σ3,H3,Q3,ss,sh,h,k⟩
 refine ⟨σ3,H3,_,ss,sh,h,fun v H' t H3' le sh' r q => ?_⟩
 cases t with
 | int i => exact ⟨i,r.int,k _ _ _ le sh' q⟩
 | _ => exact q.elim
theorem uq : SlR X (fun x lo hi H Q => ∃ z,x = .str z /\ z.length <= sizeLine /\ Q (.str (PySem.Txt.slice z lo hi)) H):=by
 intro pins s σ H x v vl vu lo hi sl Q I rx hs pl pu h
 obtain ⟨z,rfl,hz,q⟩:=h
 obtain ⟨t,rfl⟩:=rx
 refine ⟨"str",_,F.slot_str_getitem.lookup,typeIs_str _ _ _,?_⟩
 obtain ⟨o,e,c,d⟩:=hs
 have fin : ∀ (t' : Tok) (k : Nat),EP X pins σ Q (.str (PySem.Txt.slice z lo hi) t') { s with toks:=k }:=fun t' k => ⟨.str _,H,I.tok k,⟨t',rfl⟩,q⟩
 cases pl with
 | none =>
  cases pu with
  | none => exact wpAny_getItem_str_slice (l:=none) (u:=none) (st:=none) ⟨o,e,c,d⟩ rfl (post_val_or_str ⟨Nat.le_trans (PySem.Txt.slice_le z _ _) hz,fin⟩)
  | int j uj => exact wpAny_getItem_str_slice (l:=none) (u:=some (j,uj)) (st:=none) ⟨o,e,c,d⟩ rfl (post_val_or_str ⟨Nat.le_trans (PySem.Txt.slice_le z _ _) hz,fin⟩)
 | int i ui =>
  cases pu with
  | none => exact wpAny_getItem_str_slice (l:=some (i,ui)) (u:=none) (st:=none) ⟨o,e,c,d⟩ rfl (post_val_or_str ⟨Nat.le_trans (PySem.Txt.slice_le z _ _) hz,fin⟩)
  | int j uj => exact wpAny_getItem_str_slice (l:=some (i,ui)) (u:=some (j,uj)) (st:=none) ⟨o,e,c,d⟩ rfl (post_val_or_str ⟨Nat.le_trans (PySem.Txt.slice_le z _ _) hz,fin⟩)
noncomputable def b4 (ts : List T) (lo hi : Option Int) : List T:=(ts.drop (HT.sIx ts.length 0 lo)).take (HT.sIx ts.length ts.length hi - HT.sIx ts.length 0 lo)
def qE : T -> Option Int -> Option Int -> Hp3 -> VK3 -> Prop:=fun x lo hi H Q => match x with
 | .ref a => match H a with
  | some (.lst ts) => ∀ p,H p = none -> Q (.ref p) (up3 H p (.lst (b4 ts lo hi)))
  | some (.rol ts) => ∀ p,H p = none -> Q (.ref p) (up3 H p (.lst (b4 ts lo hi)))
  | _ => False
 | .tup ts => ¬ (HT.sIx ts.length 0 lo = 0 /\ HT.sIx ts.length ts.length hi = ts.length) /\ Q (.tup (b4 ts lo hi)) H
 | .str z => z.length <= sizeLine /\ Q (.str (PySem.Txt.slice z lo hi)) H
 | _ => False
def xF (te : TE3) (tl th : TO3) : TE3:=fun σ H Q => te σ H fun x H1 => tl σ H1 fun l H2 => th σ H2 fun u H3 => qE x l u H3 Q
theorem gL {K : PySem.W.Frag} {H : Hp} {ts : List T} {xs : List V} (r : Reps K H ts xs) (lo hi : Option Int) : Reps K H (b4 ts lo hi) (iA xs lo hi):=by
 unfold b4 iA
 rw [<- r.length]
 exact (r.drop _).take _
theorem cw {e : Expr} {lo hi : Option Expr} {te : TE3} {tl th : TO3} {p2 pos : Pos} (he : PE3 X e te) (hl : PO3 X lo tl) (hu : PO3 X hi th) : PE3 X (.Subscript e (.Slice lo hi none p2) pos) (xF te tl th):=by
 refine PE.imp (mz (sl_list.or (sl_tup.or uq)) he hl hu) ?_
 rintro σ H Q ⟨σ3,H3,Q3,ss,sh,h,k⟩
 refine ⟨σ3,H3,_,ss,sh,h,fun x H1 tx H31 le1 sh1 rx q1 => ⟨σ3,H31,_,ss.mono le1,sh1,q1,fun l H2 H32 le2 sh2 q2 => ⟨σ3,H32,_,ss.mono (le1.trans le2),sh2,q2,fun u H4 H34 le4 sh4 q4 => ?_⟩⟩⟩
 have k':=k.at (le1.trans (le2.trans le4))
 have rx':=rx.mono (le2.trans le4)
 cases tx with
 | ref a =>
  have h' : (match H34 a with
   | some (.lst ts) => ∀ p,H34 p = none -> Q3 (.ref p) (up3 H34 p (.lst (b4 ts l u)))
   | some (.rol ts) => ∀ p,H34 p = none -> Q3 (.ref p) (up3 H34 p (.lst (b4 ts l u)))
   | _ => False):=q4
  split at h'
  ·
   rename_i ts e
   obtain ⟨xs,sq,r⟩:=sh4.sqL (.inl e)
   exact .inl ⟨a,xs,rx'.ref,sq,fun p hp => k' _ _ _ _ (ar hp) (sh4.newLst hp (gL r l u)) .ofRef (h' p (sh4.fresh hp))⟩
  ·
   rename_i ts e
   obtain ⟨xs,sq,r⟩:=sh4.sqL (.inr e)
   exact .inl ⟨a,xs,rx'.ref,sq,fun p hp => k' _ _ _ _ (ar hp) (sh4.newLst hp (gL r l u)) .ofRef (h' p (sh4.fresh hp))⟩
  ·
   exact h'.elim
 | tup ts =>
  obtain ⟨a,xs,rfl,sq,r⟩:=rx'.tup
  refine .inr (.inl ⟨a,xs,rfl,sq,by rw [<- r.length]; exact q4.1,fun p hp => k' _ _ _ _ (ar hp) (sh4.new hp) (SimH.newTup (H3:=H34) hp (gL r l u)) q4.2⟩)
 | str z => exact .inr (.inr ⟨z,rx'.str,q4.1,k' _ _ _ _ .refl sh4 .ofStr q4.2⟩)
 | _ => exact q4.elim
noncomputable def av (k : Str) : List (Str × T) -> Option T
 | [] => none
 | (k',v) :: r => if k' = k then some v else av k r
noncomputable def put3 (k : Str) (v : T) (kvs : List (Str × T)) : List (Str × T) :=
 if (kvs.any fun kv => decide (kv.1 = k)) = true then kvs.map (fun kv => if kv.1 = k then (kv.1,v) else kv) else kvs ++ [(k,v)]
def r3D : R3:=fun x y H Q => match x,y with
 | .ref a,.str k => match H a with
  | some (.dct kvs) => oq (av k kvs) fun t => Q t H
  | _ => False
 | _,_ => False
theorem iL {K : PySem.W.Frag} {H : Hp} {k : Str} : ∀ {kvs : List (Str × T)} {vs : List (Key × V)} {t : T},RepD K H kvs vs -> av k kvs = some t -> ∃ v,cV vs (Sum.inr k : Key) = some v /\ Rep K H t v
 | [],_,_,_,e => by cases e
 | (k',t') :: r,_,t,.cons (b:=(kk,v')) ⟨e1,rv⟩ rr,e => by
  simp only at e1 rv
  subst e1
  unfold av at e
  by_cases hk : k' = k
  ·
   rw [if_pos hk] at e
   cases e
   exact ⟨v',by rw [cn (by rw [hk])],rv⟩
  ·
   rw [if_neg hk] at e
   obtain ⟨v,ev,q⟩:=iL rr e
   exact ⟨v,by rw [cq (by intro z; exact hk (Sum.inr.inj z))]; exact ev,q⟩
theorem gM {o i : Expr} {to ti : TE3} {pos : Pos} (hu : X.A.units + 1 < cLine) (ho : PE3 X o to) (hi : PE3 X i ti) (hs : qj i:=by exact fun _ _ => rfl) : PE3 X (.Subscript o i pos) (bJ r3D to ti):=by
 refine PE.imp (kz hu ho hi hs) ?_
 rintro σ H Q ⟨σ3,H3,Q3,ss,sh,h,k⟩
 refine ⟨σ3,H3,_,ss,sh,h,fun x H1 tx H31 le1 sh1 rx q1 => ⟨σ3,H31,_,ss.mono le1,sh1,q1,fun y H2 ty H32 le2 sh2 ry q2 => ?_⟩⟩
 cases tx with
 | ref a =>
  cases ty with
  | str key =>
   have h' : (match H32 a with
    | some (.dct kvs) => oq (av key kvs) fun t => Q3 t H32
    | _ => False):=q2
   split at h'
   ·
    rename_i kvs e
    obtain ⟨vs,hH,r⟩:=sh2 a _ e
    cases el : av key kvs with
    | none => rw [el] at h'; exact h'.elim
    | some t =>
     rw [el] at h'
     obtain ⟨v,ev,rv⟩:=iL r el
     refine ⟨a,v,rx.ref,?_,k.at (le1.trans le2) _ _ _ _ .refl sh2 rv h'⟩
     rw [ry.str,<- ev]
     exact DGet.k (k:=Sum.inr key) hH
   ·
    exact h'.elim
  | _ => exact q2.elim
 | _ => exact q2.elim
def nh (td ty tv : TE3) : TS3:=fun D σ H => tv σ H fun v H1 => td σ H1 fun x H2 => ty σ H2 fun y H3 => match x,y with
 | .ref a,.str k => match H3 a with
  | some (.dct kvs) => kvs.length < sizeLine /\ D.nx σ (up3 H3 a (.dct (put3 k v kvs)))
  | _ => False
 | _,_ => False
theorem qF {K : PySem.W.Frag} {H : Hp} {k : Str} {t : T} {v : V} (rv : Rep K H t v) {kvs : List (Str × T)} {vs : List (Key × V)} (r : RepD K H kvs vs) : RepD K H (put3 k t kvs) (putK vs (Sum.inr k : Key) v):=by
 have e : ∀ {kvs : List (Str × T)} {vs : List (Key × V)},RepD K H kvs vs -> (kvs.any fun kv => decide (kv.1 = k)) = (vs.any fun kv => decide (kv.1 = (Sum.inr k : Key))) /\ RepD K H (kvs.map (fun kv => if kv.1 = k then (kv.1,t) else kv)) (vs.map (fun kv => if kv.1 = (Sum.inr k : Key) then (kv.1,v) else kv)):=by
  intro kvs
  induction kvs with
  | nil => intro vs r; cases r; exact ⟨rfl,.nil⟩
  | cons p l ih =>
   intro vs r
   cases r with
   | cons q rr =>
    rename_i b l2
    obtain ⟨e1,e2⟩:=ih rr
    obtain ⟨q1,q2⟩:=q
    obtain ⟨bk,bv⟩:=b
    simp only at q1 q2
    subst q1
    by_cases hk : p.1 = k
    ·
     refine ⟨by simp [hk],?_⟩
     simp only [List.map_cons,hk,if_true]
     exact .cons ⟨rfl,rv⟩ e2
    ·
     have hk' : ¬ (Sum.inr p.1 : Key) = Sum.inr k:=fun z => hk (Sum.inr.inj z)
     refine ⟨by simp only [List.any_cons,hk,hk',decide_false,Bool.false_or]; exact e1,?_⟩
     simp only [List.map_cons,hk,hk',if_false]
     exact .cons ⟨rfl,q2⟩ e2
 obtain ⟨e1,e2⟩:=e r
 unfold put3 putK
 rw [e1]
 split
 ·
  exact e2
 ·
  have app : ∀ {a : List (Str × T)} {b : List (Key × V)},RepD K H a b -> RepD K H (a ++ [(k,t)]) (b ++ [((Sum.inr k : Key),v)]):=fun h => Paired.snoc h ⟨rfl,rv⟩
  exact app r
theorem SimH.wrD {K : PySem.W.Frag} {H : Hp} {H3 : Hp3} {a : Addr} {kv : List (Key × V)} {kvs : List (Str × T)} {kv' : List (Key × V)} (s : SimH K H3 H) (hH : H a = some (.dK kv)) (r : RepD K H kvs kv') : SimH K (up3 H3 a (.dct kvs)) (upd H a (.dK kv')):=fun b o e => by
 have le : TupLe K H (upd H a (.dK kv')):=bB (by rw [hH]; exact trivial)
 by_cases hb : b = a
 ·
  subst hb
  rw [ai] at e; cases e
  exact ⟨kv',aC,r.mono le⟩
 ·
  rw [aj hb] at e
  exact (s b o e).stay le fun u q => by rw [aq hb]; exact q
theorem gN {o i value : Expr} {td ty tv : TE3} {pos pos' : Pos} (hu : X.A.units + 1 < cLine) (ho : PE3 X o td) (hi : PE3 X i ty) (hv : PE3 X value tv) (hs : swapsWith value (some (.Subscript o i pos')) pos.line X.env = pure false:=by rfl) :
  PS3 X (.Assign [.Subscript o i pos'] value pos) (nh td ty tv):=by
 refine PS.imp (kA hu ho hi hv hs) ?_
 rintro D σ H ⟨σ3,H3,D3,ss,sh,h,k1,_⟩
 refine ⟨σ3,H3,_,ss,sh,h,fun v H1 tv H31 le1 sh1 rv q1 => ⟨σ3,H31,_,ss.mono le1,sh1,q1,fun x H2 tx H32 le2 sh2 rx q2 => ⟨σ3,H32,_,ss.mono (le1.trans le2),sh2,q2,fun y H4 ty H34 le4 sh4 ry q4 => ?_⟩⟩⟩
 cases tx with
 | ref a =>
  cases ty with
  | str key =>
   have h' : (match H34 a with
    | some (.dct kvs) => kvs.length < sizeLine /\ D3.nx σ3 (up3 H34 a (.dct (put3 key tv kvs)))
    | _ => False):=q4
   split at h'
   ·
    rename_i kvs e
    obtain ⟨vs,hH,r⟩:=sh4 a _ e
    have rvv:=rv.mono (le2.trans le4)
    have le5 : TupLe X.K H4 (upd H4 a (.dK (putK vs (Sum.inr key : Key) v))):=bB (by rw [hH]; exact trivial)
    refine ⟨a,_,(rx.mono le4).ref,?_,k1 _ _ _ _ (le1.trans (le2.trans (le4.trans le5))) (ss.mono (le1.trans (le2.trans (le4.trans le5)))) (sh4.wrD hH (qF rvv r)) h'.2⟩
    rw [ry.str]
    exact DPut.k (k:=Sum.inr key) hH (by rw [<- Paired.length r]; exact h'.1)
   ·
    exact h'.elim
  | _ => exact q4.elim
 | _ => exact q4.elim
def ni : List (Str × TE3) -> St3 -> Hp3 -> (List (Str × T) -> Hp3 -> Prop) -> Prop
 | [],_,H,Q => Q [] H
 | (k,tv) :: r,σ,H,Q => tv σ H fun y H2 => ni r σ H2 fun ps H3 => Q ((k,y) :: ps) H3
noncomputable def zV (kvs more : List (Str × T)) : List (Str × T):=more.foldl (fun acc kv => put3 kv.1 kv.2 acc) kvs
def ut (trs : List (Str × TE3)) : TE3:=fun σ H Q => ∀ p,H p = none -> ni trs σ (up3 H p (.dct [])) fun ps H2 => H2 p = some (.dct []) /\ ps.length <= 15 /\ Q (.ref p) (up3 H2 p (.dct (zV [] ps)))
end
section
variable {X : Cx} {x : Str} {p pos : Pos} {e : Expr} {es : List Expr} {t : TA3} {id Ty : String} {r : List T -> Hp3 -> VK3 -> Prop}
def jD (r : List T -> Hp3 -> VK3 -> Prop) (t : TA3) : TE3:=fun σ H Q => t σ H fun vs H1 => r vs H1 Q
theorem aB (hc : bI X (.builtin id) r) (hg : Gl X x) (hm : X.mg x = none) (hv : bootBuiltins x = some (.builtin id)) (ha : PA3 X (e :: es) t) (hn : x ≠ "__name__":=by decide) (hdb : (x == ("__debug__" : Str)) = false:=by decide)
  (he : starEach (e :: es) X.env = (false,eval e X.env) :: starEach es X.env:=by rfl) (hpl : (backTo pos (starEach es X.env)).any (·.1) = false:=by rfl) : PE3 X (.Call (.Name x p) (e :: es) [] pos) (jD r t):=by
 refine PE.imp (mx hc hg hm hv ha hn hdb he hpl) ?_
 rintro σ H Q ⟨σ3,H3,Q3,ss,sh,h,k⟩
 exact ⟨σ3,H3,_,ss,sh,h,fun vs H' ts H3' le sh' r q => ⟨ts,H3',Q3,r,sh',q,k.at le⟩⟩
theorem aI (hc : bI X (.type Ty) r) (hg : Gl X x) (hm : X.mg x = none) (hv : bootBuiltins x = some (.type Ty)) (ha : PA3 X (e :: es) t) (hn : x ≠ "__name__":=by decide) (hdb : (x == ("__debug__" : Str)) = false:=by decide)
  (he : starEach (e :: es) X.env = (false,eval e X.env) :: starEach es X.env:=by rfl) (hpl : (backTo pos (starEach es X.env)).any (·.1) = false:=by rfl) : PE3 X (.Call (.Name x p) (e :: es) [] pos) (jD r t):=by
 refine PE.imp (lD hc hg hm hv ha hn hdb he hpl) ?_
 rintro σ H Q ⟨σ3,H3,Q3,ss,sh,h,k⟩
 exact ⟨σ3,H3,_,ss,sh,h,fun vs H' ts H3' le sh' r q => ⟨ts,H3',Q3,r,sh',q,k.at le⟩⟩
theorem xG {n : String} (hg : Gl X x) (hm : X.mg x = none) (hv : bootBuiltins x = some (.type n)) (hn : x ≠ "__name__":=by decide) (hdb : (x == ("__debug__" : Str)) = false:=by decide) : PE3 X (.Name x pos) (tC3 (.ty n)):=by
 refine PE.imp (pV (v:=.ty n) hg hm hv rfl hn hdb) ?_
 rintro σ H Q ⟨σ3,H3,Q3,ss,sh,h,k⟩
 exact k _ _ _ H3 .refl sh .ofTy h
theorem Reps.one' {K : PySem.W.Frag} {H : Hp} {t : T} {vs : List V} (r : Reps K H [t] vs) : ∃ v,vs = [v] /\ Rep K H t v:=by
 obtain ⟨v,_,rfl,a,b⟩:=r.inv
 rw [b.inv0]
 exact ⟨v,rfl,a⟩
theorem Reps.two' {K : PySem.W.Frag} {H : Hp} {t u : T} {vs : List V} (r : Reps K H [t,u] vs) : ∃ v w,vs = [v,w] /\ Rep K H t v /\ Rep K H u w:=by
 obtain ⟨v,_,rfl,a,b⟩:=r.inv
 obtain ⟨w,rfl,c⟩:=b.one'
 exact ⟨v,w,rfl,a,c⟩
def iM : List T -> Hp3 -> VK3 -> Prop:=fun ts H Q => match ts with
 | [.ref a] => match H a with
  | some (.lst xs) => Q (.int xs.length) H
  | some (.rol xs) => Q (.int xs.length) H
  | _ => False
 | [.tup xs] => Q (.int xs.length) H
 | [.str z] => z.length <= sizeLine /\ Q (.int z.length) H
 | _ => False
theorem ci : bI X (.builtin "len") iM:=by
 refine CallR.imp (call_len_seq.or gB) ?_
 rintro xs H Q ⟨ts,H3,Q3,r,sh,h,k⟩
 match ts,h,r with
 | [.ref a],h,r =>
  obtain ⟨v,rfl,rv⟩:=r.one'
  have h' : (match H3 a with
   | some (.lst xs) => Q3 (.int xs.length) H3
   | some (.rol xs) => Q3 (.int xs.length) H3
   | _ => False):=h
  split at h'
  ·
   rename_i us e
   obtain ⟨ys,sq,rs⟩:=sh.sqL (.inl e)
   exact .inl ⟨a,ys,by rw [rv.ref],.inl sq,by rw [<- rs.length]; exact k _ _ _ _ .refl sh .ofInt h'⟩
  ·
   rename_i us e
   obtain ⟨ys,sq,rs⟩:=sh.sqL (.inr e)
   exact .inl ⟨a,ys,by rw [rv.ref],.inl sq,by rw [<- rs.length]; exact k _ _ _ _ .refl sh .ofInt h'⟩
  ·
   exact h'.elim
 | [.tup us],h,r =>
  obtain ⟨v,rfl,rv⟩:=r.one'
  obtain ⟨a,ys,rfl,sq,rs⟩:=rv.tup
  exact .inl ⟨a,ys,rfl,.inr sq,by rw [<- rs.length]; exact k _ _ _ _ .refl sh .ofInt h⟩
 | [.str z],h,r =>
  obtain ⟨v,rfl,rv⟩:=r.one'
  exact .inr ⟨z,by rw [rv.str],h.1,k _ _ _ _ .refl sh .ofInt h.2⟩
def jE : List T -> Hp3 -> VK3 -> Prop:=fun ts H Q => match ts with
 | [.ref a] => match H a with
  | some (.lst xs) => ∀ p,H p = none -> Q (.ref p) (up3 H p (.lst xs))
  | some (.rol xs) => ∀ p,H p = none -> Q (.ref p) (up3 H p (.lst xs))
  | _ => False
 | [.tup xs] => ∀ p,H p = none -> Q (.ref p) (up3 H p (.lst xs))
 | _ => False
theorem gO : bI X (.type "list") jE:=by
 refine CallR.imp gC ?_
 rintro xs H Q ⟨ts,H3,Q3,r,sh,h,k⟩
 match ts,h,r with
 | [.ref a],h,r =>
  obtain ⟨v,rfl,rv⟩:=r.one'
  have h' : (match H3 a with
   | some (.lst xs) => ∀ p,H3 p = none -> Q3 (.ref p) (up3 H3 p (.lst xs))
   | some (.rol xs) => ∀ p,H3 p = none -> Q3 (.ref p) (up3 H3 p (.lst xs))
   | _ => False):=h
  split at h'
  ·
   rename_i us e
   obtain ⟨ys,sq,rs⟩:=sh.sqL (.inl e)
   exact ⟨a,ys,by rw [rv.ref],.inl sq,fun l hl => k _ _ _ _ (ar hl) (sh.newLst hl rs) .ofRef (h' l (sh.fresh hl))⟩
  ·
   rename_i us e
   obtain ⟨ys,sq,rs⟩:=sh.sqL (.inr e)
   exact ⟨a,ys,by rw [rv.ref],.inl sq,fun l hl => k _ _ _ _ (ar hl) (sh.newLst hl rs) .ofRef (h' l (sh.fresh hl))⟩
  ·
   exact h'.elim
 | [.tup us],h,r =>
  obtain ⟨v,rfl,rv⟩:=r.one'
  obtain ⟨a,ys,rfl,sq,rs⟩:=rv.tup
  exact ⟨a,ys,rfl,.inr sq,fun l hl => k _ _ _ _ (ar hl) (sh.newLst hl rs) .ofRef (h l (sh.fresh hl))⟩
def dh : List T -> Hp3 -> VK3 -> Prop:=fun ts H Q => match ts with
 | [.ref a] => match H a with
  | some (.lst xs) => Q (.tup xs) H
  | some (.rol xs) => Q (.tup xs) H
  | _ => False
 | [.tup xs] => Q (.tup xs) H
 | _ => False
theorem bD : bI X (.type "tuple") dh:=by
 refine CallR.imp fm ?_
 rintro xs H Q ⟨ts,H3,Q3,r,sh,h,k⟩
 match ts,h,r with
 | [.ref a],h,r =>
  obtain ⟨v,rfl,rv⟩:=r.one'
  have h' : (match H3 a with
   | some (.lst xs) => Q3 (.tup xs) H3
   | some (.rol xs) => Q3 (.tup xs) H3
   | _ => False):=h
  split at h'
  ·
   rename_i us e
   obtain ⟨ys,sq,rs⟩:=sh.sqL (.inl e)
   exact ⟨a,ys,by rw [rv.ref],.inl ⟨sq,fun l hl => k _ _ _ _ (ar hl) (sh.new hl) (SimH.newTup (H3:=H3) hl rs) h'⟩⟩
  ·
   rename_i us e
   obtain ⟨ys,sq,rs⟩:=sh.sqL (.inr e)
   exact ⟨a,ys,by rw [rv.ref],.inl ⟨sq,fun l hl => k _ _ _ _ (ar hl) (sh.new hl) (SimH.newTup (H3:=H3) hl rs) h'⟩⟩
  ·
   exact h'.elim
 | [.tup us],h,r =>
  obtain ⟨v,rfl,rv⟩:=r.one'
  obtain ⟨a,ys,rfl,sq,rs⟩:=rv.tup
  exact ⟨a,ys,rfl,.inr ⟨sq,k _ _ _ _ .refl sh (.ofTup sq rs) h⟩⟩
def nj : List T -> Hp3 -> VK3 -> Prop:=fun ts H Q => match ts with
 | [.int i] => Q (.int i) H
 | [.bl b] => Q (.int (if b then 1 else 0)) H
 | _ => False
theorem d6 : bI X (.type "int") nj:=by
 refine CallR.imp lA ?_
 rintro xs H Q ⟨ts,H3,Q3,r,sh,h,k⟩
 match ts,h,r with
 | [.int i],h,r =>
  obtain ⟨v,rfl,rv⟩:=r.one'
  exact .inl ⟨i,by rw [rv.int],k _ _ _ _ .refl sh .ofInt h⟩
 | [.bl b],h,r =>
  obtain ⟨v,rfl,rv⟩:=r.one'
  exact .inr ⟨b,by rw [rv.bl],k _ _ _ _ .refl sh .ofInt h⟩
def xH : List T -> Hp3 -> VK3 -> Prop:=fun ts H Q => match ts with
 | [.int i] => i.natAbs.log2 < 1920 /\ Q (.str (toString i)) H
 | _ => False
noncomputable def ints3 : List T -> Option (List Int)
 | [] => some []
 | .int i :: r => (ints3 r).map (i :: ·)
 | _ => none
theorem fS : ∀ (ns : List Int),ints3 (ns.map T.int) = some ns
 | [] => rfl
 | n :: r => by simp [ints3,fS r]
theorem eR {K : PySem.W.Frag} {H : Hp} : ∀ {ts : List T} {xs : List V} {us : List Value} {ns : List Int},ints3 ts = some ns -> Reps K H ts xs -> Vals xs us -> IntsAre us ns
 | [],xs,us,ns,e,r,v => by
  cases e
  rw [r.inv0] at v
  cases v
  exact .nil
 | .int i :: l,xs,us,ns,e,r,v => by
  obtain ⟨x,xr,rfl,rx,rr⟩:=r.inv
  cases v with
  | cons a b =>
   rw [rx.int] at a
   obtain ⟨t,rfl⟩:=a
   cases hl : ints3 l with
   | none => simp [ints3,hl] at e
   | some ms =>
    simp [ints3,hl] at e
    subst e
    exact .cons _ _ (eR hl rr b)
 | .non :: _,_,_,_,e,_,_ => by simp [ints3] at e
 | .bl _ :: _,_,_,_,e,_,_ => by simp [ints3] at e
 | .str _ :: _,_,_,_,e,_,_ => by simp [ints3] at e
 | .tup _ :: _,_,_,_,e,_,_ => by simp [ints3] at e
 | .ref _ :: _,_,_,_,e,_,_ => by simp [ints3] at e
 | .ty _ :: _,_,_,_,e,_,_ => by simp [ints3] at e
def sI : List T -> Hp3 -> VK3 -> Prop:=fun ts H Q => match ts with
 | [.ref a] => match H a with
  | some (.lst xs) => oq (ints3 xs) fun ns => Q (.int ns.sum) H
  | some (.rol xs) => oq (ints3 xs) fun ns => Q (.int ns.sum) H
  | _ => False
 | _ => False
theorem uu (hc : X.calm = true) : bI X (.builtin "sum") sI:=by
 intro pins s σ H xs us Q I rv h
 obtain ⟨ts,H3,Q3,r,sh,h,k⟩:=h
 match ts,h,r with
 | [.ref a],h,r =>
  obtain ⟨v,rfl,rv'⟩:=r.one'
  obtain ⟨u,rfl,ru⟩:=vals1 rv
  rw [rv'.ref] at ru
  cases ru
  have main : ∀ {ls : List T} {ys : List V},SqL X.K H a ys -> Reps X.K H ls ys -> oq (ints3 ls) (fun ns => Q3 (.int ns.sum) H3) -> wpAny (model X.prog X.w) X.A (call (.builtin "sum") [.ref a]) (EP X pins σ Q) X.xe s:=by
   intro ls ys sq rs q
   cases e : ints3 ls with
   | none => rw [e] at q; exact q.elim
   | some ns =>
    rw [e] at q
    obtain ⟨its,rvs,hl,_⟩:=I.list sq
    have hi:=eR e rs rvs
    have hall : AllInts its.toArray:=hi.allInts
    obtain ⟨zs,ez⟩:=hall.items
    have hls : s.heap.IsList a (intItems zs):=by rw [<- ez]; exact hl.isList
    refine sum_intListG (I.ok.hd hc) hls fun h' tk t' hk => ?_
    have es : preSum (numAt zs) zs.size = ns.sum:=by
     have e1:=nums_intItems zs
     rw [<- ez,show its.toArray.toList = its from rfl,hi.numsOf] at e1
     rw [preSum_eq,List.take_of_length_le (by simp),<- e1]
    rw [es]
    exact ⟨.int ns.sum,H,I.kept hk,⟨t',rfl⟩,k _ _ _ _ .refl sh .ofInt q⟩
  have h' : (match H3 a with
   | some (.lst xs) => oq (ints3 xs) fun ns => Q3 (.int ns.sum) H3
   | some (.rol xs) => oq (ints3 xs) fun ns => Q3 (.int ns.sum) H3
   | _ => False):=h
  split at h'
  ·
   rename_i ls e
   obtain ⟨ys,sq,rs⟩:=sh.sqL (.inl e)
   exact main sq rs h'
  ·
   rename_i ls e
   obtain ⟨ys,sq,rs⟩:=sh.sqL (.inr e)
   exact main sq rs h'
  ·
   exact h'.elim
noncomputable def isT (n : String) : T -> Hp3 -> Option Bool:=fun x H => match x with
 | .non => some (n == "NoneType")
 | .bl _ => some (n == "bool" || n == "int")
 | .int _ => some (n == "int")
 | .str _ => some (n == "str")
 | .tup _ => some (n == "tuple")
 | .ref a => match H a with
  | some (.lst _) => some (n == "list")
  | some (.dct _) => some (n == "dict")
  | _ => none
 | .ty _ => none
def fT : List T -> Hp3 -> VK3 -> Prop:=fun ts H Q => match ts with
 | [x,.ty n] => (n = "str" \/ n = "int" \/ n = "bool" \/ n = "tuple" \/ n = "list") /\ oq (isT n x H) fun b => Q (.bl b) H
 | _ => False
variable {o : Expr} {to : TE3} {name : Str} {apos cpos : Pos} {m : T -> List T -> Hp3 -> VK3 -> Prop}
def ty3 (Ty : String) : T -> Hp3 -> Prop:=fun x H => match x with
 | .str _ => Ty = "str"
 | .tup _ => Ty = "tuple"
 | .ref a => Ty = "list" /\ match H a with
  | some (.lst _) => True
  | some (.rol _) => True
  | _ => False
 | _ => False
theorem xI {K : PySem.W.Frag} {H : Hp} {H3 : Hp3} {t : T} {v : V} (sh : SimH K H3 H) (r : Rep K H t v) (h : ty3 Ty t H3) : tyV K Ty v H:=by
 cases t with
 | str z => rw [r.str]; exact h
 | tup ts =>
  obtain ⟨a,xs,rfl,sq,_⟩:=r.tup
  exact .inr (.inl ⟨h,xs,sq⟩)
 | ref a =>
  rw [r.ref]
  refine .inl ⟨h.1,?_⟩
  have h2:=h.2
  cases e : H3 a with
  | none => rw [e] at h2; exact h2.elim
  | some o =>
   rw [e] at h2
   cases o with
   | lst ts => obtain ⟨xs,sq,_⟩:=sh.sqL (.inl e); exact ⟨xs,sq⟩
   | rol ts => obtain ⟨xs,sq,_⟩:=sh.sqL (.inr e); exact ⟨xs,sq⟩
   | dct _ => exact h2.elim
   | dcp _ => exact h2.elim
   | exc _ _ => exact h2.elim
   | xdt _ => exact h2.elim
 | _ => exact h.elim
def di (Ty : String) (m : T -> List T -> Hp3 -> VK3 -> Prop) (to : TE3) (t : TA3) : TE3:=fun σ H Q => to σ H fun x H1 => ty3 Ty x H1 /\ t σ H1 fun xs H2 => m x xs H2 Q
theorem br (pa : PlainAttrs Ty) (slot : Slot Ty name id) (hty : typeOf (.builtin id) = pure (.type "method_descriptor")) (hm : jy X id m) (ho : PE3 X o to) (ha : PA3 X (e :: es) t)
  (hbase : attributeBase o name X.env (eval o X.env) = eval o X.env:=by rfl)
  (hfew : ((backTo cpos (starEach (e :: es) X.env)).all (fun x => !x.1) && (backToKw cpos (keywordEach [] X.env)).all (fun x => x.1.isSome)
   && decide ((e :: es).length + ([] : List Keyword).length + (if ([] : List Keyword).isEmpty then 0 else 1) < 30)) = true:=by rfl)
  (hline : (apos.endLine == cpos.line) = true:=by rfl) (hs : starEach (e :: es) X.env = (false,eval e X.env) :: starEach es X.env:=by rfl) (hplain : (backTo cpos (starEach es X.env)).any (·.1) = false:=by rfl) :
  PE3 X (.Call (.Attribute o name apos) (e :: es) [] cpos) (di Ty m to t):=by
 refine PE.imp (xq pa slot hty hm ho ha hbase hfew hline hs hplain) ?_
 rintro σ H Q ⟨σ3,H3,Q3,ss,sh,h,k⟩
 exact ⟨σ3,H3,_,ss,sh,h,fun x H1 tx H31 le1 sh1 rx q1 => ⟨xI sh1 rx q1.1,σ3,H31,_,ss.mono le1,sh1,q1.2,fun vs H2 ts H32 le2 sh2 rs q2 => ⟨tx,ts,H32,Q3,rx.mono le2,rs,sh2,q2,k.at (le1.trans le2)⟩⟩⟩
def fU : T -> List T -> Hp3 -> VK3 -> Prop:=fun x ts H Q => match x,ts with
 | .ref a,[t] => match H a with
  | some (.lst xs) => xs.length < sizeLine /\ Q .non (up3 H a (.lst (xs ++ [t])))
  | _ => False
 | _,_ => False
theorem aX : jy X "list.append" fU:=by
 refine MtR.imp lE ?_
 rintro x xs H Q ⟨tx,ts,H3,Q3,rx,rs,sh,h,k⟩
 match tx,ts,h,rx,rs with
 | .ref a,[t],h,rx,rs =>
  obtain ⟨v,rfl,rv⟩:=rs.one'
  have h' : (match H3 a with
   | some (.lst xs) => xs.length < sizeLine /\ Q3 .non (up3 H3 a (.lst (xs ++ [t])))
   | _ => False):=h
  split at h'
  ·
   rename_i ls e
   obtain ⟨ys,hH,r⟩:=sh a _ e
   exact ⟨a,ys,v,rx.ref,rfl,hH,by rw [<- r.length]; exact h'.1,k _ _ _ _ (bB (by rw [hH]; exact trivial)) (sh.wrL hH (r.append (.cons rv .nil))) .ofNon h'.2⟩
  ·
   exact h'.elim
def xJ : T -> List T -> Hp3 -> VK3 -> Prop:=fun x ts H Q => match x,ts with
 | .ref a,[.ref b] => match H a,H b with
  | some (.lst xs),some (.lst ys) => xs.length + ys.length <= sizeLine /\ Q .non (up3 H a (.lst (xs ++ ys)))
  | _,_ => False
 | _,_ => False
def kI : T -> List T -> Hp3 -> VK3 -> Prop:=fun x ts H Q => match x,ts with
 | .ref a,[.int i] => match H a with
  | some (.lst xs) => oq (ixN xs.length i) fun j => oq (xs[j]?) fun t => Q t (up3 H a (.lst (xs.eraseIdx j)))
  | _ => False
 | _,_ => False
theorem iN : jy X "list.pop" kI:=by
 intro pins s σ H x xs v us Q I rx0 rs0 hh
 obtain ⟨tx,ts,H3,Q3,rx,rs,sh,h,k⟩:=hh
 refine mB pins s σ H x xs v us Q I rx0 rs0 ?_
 match tx,ts,h,rx,rs with
 | .ref a,[.int i],h,rx,rs =>
  obtain ⟨w,rfl,rv⟩:=rs.one'
  have h' : (match H3 a with
   | some (.lst xs) => oq (ixN xs.length i) fun j => oq (xs[j]?) fun t => Q3 t (up3 H3 a (.lst (xs.eraseIdx j)))
   | _ => False):=h
  split at h'
  ·
   rename_i ls e
   obtain ⟨ys,hH,r⟩:=sh a _ e
   have hz:=(I.lstM hH).1
   cases ej : ixN ls.length i with
   | none => rw [ej] at h'; exact h'.elim
   | some j =>
    rw [ej] at h'
    cases et : ls[j]? with
    | none => simp only [oq,et] at h'
    | some t =>
     have h2 : Q3 t (up3 H3 a (.lst (ls.eraseIdx j))):=by simpa only [oq,et] using h'
     obtain ⟨g1,g2,g3,g4⟩:=gw ej
     obtain ⟨y,ey,ry⟩:=r.get et
     have hl:=r.length
     have hb:=c4
     have le : TupLe X.K H (upd H a (.lst (ys.eraseIdx j))):=bB (by rw [hH]; exact trivial)
     exact ⟨a,ys,i,j,y,rx.ref,by rw [rv.int],hH,by omega,by omega,by rw [<- hl]; exact g1,ey,k _ _ _ _ le (sh.wrL hH (r.eraseIdx j)) (ry.mono le) h2⟩
  ·
   exact h'.elim
noncomputable def aQ : List T -> Option (List Str)
 | [] => some []
 | .str x :: r => (aQ r).map (x :: ·)
 | _ => none
theorem dC : ∀ (ns : List Str),aQ (ns.map T.str) = some ns
 | [] => rfl
 | n :: r => by simp [aQ,dC r]
theorem cF {K : PySem.W.Frag} {H : Hp} : ∀ {ts : List T} {xs : List V} {us : List Value} {ns : List Str},aQ ts = some ns -> Reps K H ts xs -> Vals xs us -> StrsAre us ns
 | [],xs,us,ns,e,r,v => by
  cases e
  rw [r.inv0] at v
  cases v
  exact .nil
 | .str i :: l,xs,us,ns,e,r,v => by
  obtain ⟨x,xr,rfl,rx,rr⟩:=r.inv
  cases v with
  | cons a b =>
   rw [rx.str] at a
   obtain ⟨t,rfl⟩:=a
   cases hl : aQ l with
   | none => simp [aQ,hl] at e
   | some ms =>
    simp [aQ,hl] at e
    subst e
    exact .cons _ _ (cF hl rr b)
 | .non :: _,_,_,_,e,_,_ => by simp [aQ] at e
 | .bl _ :: _,_,_,_,e,_,_ => by simp [aQ] at e
 | .int _ :: _,_,_,_,e,_,_ => by simp [aQ] at e
 | .tup _ :: _,_,_,_,e,_,_ => by simp [aQ] at e
 | .ref _ :: _,_,_,_,e,_,_ => by simp [aQ] at e
 | .ty _ :: _,_,_,_,e,_,_ => by simp [aQ] at e
end
section
variable {X : Cx}
def jOk (z : Str) (ys : List Str) : Prop:=(ys.map (·.length)).sum + ys.length * z.length <= 16777216
def dD : T -> List T -> Hp3 -> VK3 -> Prop:=fun x ts H Q => match x,ts with
 | .str z,[.ref a] => match H a with
  | some (.lst xs) => oq (aQ xs) fun ys => jOk z ys /\ Q (.str (PySem.Txt.join z ys)) H
  | some (.rol xs) => oq (aQ xs) fun ys => jOk z ys /\ Q (.str (PySem.Txt.join z ys)) H
  | _ => False
 | .str z,[.tup xs] => oq (aQ xs) fun ys => jOk z ys /\ Q (.str (PySem.Txt.join z ys)) H
 | _,_ => False
theorem kJ : jy X "str.join" dD:=by
 intro pins s σ H x xs v us Q I rx0 rs0 hh
 obtain ⟨tx,ts,H3,Q3,rx,rs,sh,h,k⟩:=hh
 have fin : ∀ {y : Str},Q3 (.str y) H3 -> ∀ t' kk,EP X pins σ Q (.str y t') { s with toks:=kk }:=fun q t' kk => ⟨.str _,H,I.tok kk,⟨t',rfl⟩,k _ _ _ _ .refl sh .ofStr q⟩
 match tx,ts,h,rx,rs with
 | .str z,[.ref a],h,rx,rs =>
  obtain ⟨w,rfl,rv⟩:=rs.one'
  obtain ⟨u,rfl,ru⟩:=vals1 rs0
  rw [rv.ref] at ru
  cases ru
  rw [rx.str] at rx0
  obtain ⟨t,rfl⟩:=rx0
  have main : ∀ {ls : List T} {ys : List V},SqL X.K H a ys -> Reps X.K H ls ys -> oq (aQ ls) (fun ys => jOk z ys /\ Q3 (.str (PySem.Txt.join z ys)) H3) -> wpAny (model X.prog X.w) X.A (call (.builtin "str.join") [.str z t,.ref a]) (EP X pins σ Q) X.xe s:=by
   intro ls ys sq r q
   cases e : aQ ls with
   | none => rw [e] at q; exact q.elim
   | some zs =>
    rw [e] at q
    obtain ⟨its,rvs,hl,_⟩:=I.list sq
    exact join_list hl.isList (cF e r rvs) q.1 (fin q.2)
  have h' : (match H3 a with
   | some (.lst xs) => oq (aQ xs) fun ys => jOk z ys /\ Q3 (.str (PySem.Txt.join z ys)) H3
   | some (.rol xs) => oq (aQ xs) fun ys => jOk z ys /\ Q3 (.str (PySem.Txt.join z ys)) H3
   | _ => False):=h
  split at h'
  ·
   rename_i ls e
   obtain ⟨ys,sq,r⟩:=sh.sqL (.inl e)
   exact main sq r h'
  ·
   rename_i ls e
   obtain ⟨ys,sq,r⟩:=sh.sqL (.inr e)
   exact main sq r h'
  ·
   exact h'.elim
 | .str z,[.tup ls],h,rx,rs =>
  obtain ⟨w,rfl,rv⟩:=rs.one'
  obtain ⟨u,rfl,ru⟩:=vals1 rs0
  obtain ⟨a,ys,rfl,sq,r⟩:=rv.tup
  cases ru
  rw [rx.str] at rx0
  obtain ⟨t,rfl⟩:=rx0
  have q : oq (aQ ls) (fun ys => jOk z ys /\ Q3 (.str (PySem.Txt.join z ys)) H3):=h
  cases e : aQ ls with
  | none => rw [e] at q; exact q.elim
  | some zs =>
   rw [e] at q
   obtain ⟨its,rvs,hl,_⟩:=I.tuple sq
   exact join_tuple hl (cF e r rvs) q.1 (fin q.2)
def d7 : T -> List T -> Hp3 -> VK3 -> Prop:=fun x ts H Q => match x,ts with
 | .str z,[.str y] => match Builtin.Str.occurrences z y 0 z.length 1 with
  | i :: _ => Q (.int i) H
  | [] => False
 | _,_ => False
theorem iO : jy X "str.index" d7:=by
 intro pins s σ H x xs v us Q I rx0 rs0 hh
 obtain ⟨tx,ts,H3,Q3,rx,rs,sh,h,k⟩:=hh
 match tx,ts,h,rx,rs with
 | .str z,[.str y],h,rx,rs =>
  obtain ⟨w,rfl,rv⟩:=rs.one'
  obtain ⟨u,rfl,ru⟩:=vals1 rs0
  rw [rv.str] at ru
  obtain ⟨t',rfl⟩:=ru
  rw [rx.str] at rx0
  obtain ⟨t,rfl⟩:=rx0
  have h' : (match Builtin.Str.occurrences z y 0 z.length 1 with
   | i :: _ => Q3 (.int i) H3
   | [] => False):=h
  split at h'
  ·
   rename_i i rest e
   exact SC.index e ⟨.int i,H,I.tok _,⟨_,rfl⟩,k _ _ _ _ .refl sh .ofInt h'⟩
  ·
   exact h'.elim
end
noncomputable def eS (n0 : List (Str × NameKind)) (N : List Str) (kind : Bool) (names : List (Str × NameKind)) (N' : List Str) (nt : Nat) (cap : List Nat) : Bool :=
 kind && names.all (fun y => y.2 != .cell || names.lookup y.1 == some .cell) && names.all (fun x => x.2 != .local || names.lookup x.1 == some .local) && names.all (fun y => y.2 != .free || n0.lookup y.1 == some .cell || n0.lookup y.1 == some .free)
  && N'.length == nt + cap.length && (List.range cap.length).all fun j => match N'[nt + j]?,cap[j]? with
   | some x,some i => N[i]? == some x && names.lookup x == some .free
   | _,_ => false
theorem bS {X : Cx} {N' : List Str} {nt : Nat} {cap : List Nat} {scope : Scope} {n0 : List (Str × NameKind)} {N : List Str} (h0 : X.env.scope.names = n0) (hN : X.N = N)
  (h : eS n0 N (scope.kind == .function) scope.names N' nt cap = true) : CompSc X N' nt cap scope:=by
 unfold eS at h
 simp only [Bool.and_eq_true,List.all_eq_true,beq_iff_eq,bne_iff_ne,Bool.or_eq_true,List.mem_range] at h
 obtain ⟨⟨⟨⟨⟨h1,h2⟩,h3⟩,h4⟩,h5⟩,h6⟩:=h
 refine ⟨h1,fun y hy e => (h2 y hy).resolve_left fun z => z e,fun x hx e => (h3 x hx).resolve_left fun z => z e,fun y hy e => ?_,h5,fun j x e => ?_⟩
 ·
  show X.env.scope.names.lookup y.1 = _ \/ X.env.scope.names.lookup y.1 = _
  rw [h0]
  rcases h4 y hy with (z | z) | z
  ·
   exact absurd e z
  ·
   exact .inl z
  ·
   exact .inr z
 ·
  have hj : j < cap.length:=by
   have:=(List.getElem?_eq_some_iff.mp e).1
   omega
  have q:=h6 j hj
  rw [e] at q
  cases ec : cap[j]? with
  | none => rw [ec] at q; cases q
  | some i =>
   rw [ec] at q
   simp only [Bool.and_eq_true,beq_iff_eq] at q
   exact ⟨i,rfl,by rw [hN]; exact q.1,q.2⟩
noncomputable def uv (n00 names : List (Str × NameKind)) : List (Str × NameKind):=names.map fun (n,k) => if (k == NameKind.free && n00.lookup n == some .cell) = true then (n,NameKind.cell) else (n,k)
theorem qG {X : Cx} {N0 N' : List Str} {nt : Nat} {cap : List Nat} {scope0 scope : Scope} {n00 : List (Str × NameKind)} {N : List Str} {cl : List (Str × Addr)} {pins : List (Addr × Obj)} {s : Shared} {H : Hp} {C : Addr} {fp : List Addr}
  (h0 : X.env.scope.names = n00) (hk : X.env.scope.kind = .function) (hN : N0 = N) (h : eS (uv n00 scope0.names) N (scope.kind == .function) scope.names N' nt cap = true) : CompSc (aO X N0 scope0 cl pins s H C fp) N' nt cap scope:=by
 refine bS (n0:=uv n00 scope0.names) (N:=N) ?_ hN h
 show (relabel scope0 X.env).names = _
 unfold relabel uv
 dsimp only
 refine List.map_congr_left fun y hy => ?_
 obtain ⟨n,k⟩:=y
 have e : X.env.kindOf n = n00.lookup n:=by unfold Env.kindOf; rw [h0]
 simp only [e,hk,beq_self_eq_true,Bool.and_true]
structure G3 (K : PySem.W.Frag) (mg : Str -> Option Value) (x : Str) (st : Stmt) (ps : List Str) (f : Addr) (fd : FuncData) : Prop where
 fn : Fun K x x st f fd
 b : Binds K fd ps []
 m : mg x = some (.ref f)
structure Bl (mg : Str -> Option Value) : Prop where
 len_ : mg "len" = none
 sum_ : mg "sum" = none
 isinstance_ : mg "isinstance" = none
 all_ : mg "all" = none
 any_ : mg "any" = none
 list_ : mg "list" = none
 tuple_ : mg "tuple" = none
 int_ : mg "int" = none
 str_ : mg "str" = none
 bool_ : mg "bool" = none
 range_ : mg "range" = none
 zip_ : mg "zip" = none
 reversed_ : mg "reversed" = none
 enumerate_ : mg "enumerate" = none
 set_ : mg "set" = none
 sorted_ : mg "sorted" = none
 min_ : mg "min" = none
 max_ : mg "max" = none
 dict_ : mg "dict" = none
 repr_ : mg "repr" = none
theorem bX : bootBuiltins "len" = some (.builtin "len"):=by decide +kernel
theorem uw : bootBuiltins "sum" = some (.builtin "sum"):=by decide +kernel
theorem a7 : bootBuiltins "isinstance" = some (.builtin "isinstance"):=by decide +kernel
theorem nk : bootBuiltins "all" = some (.builtin "all"):=by decide +kernel
theorem jF : bootBuiltins "any" = some (.builtin "any"):=by decide +kernel
theorem d8 : bootBuiltins "list" = some (.type "list"):=by decide +kernel
theorem bE : bootBuiltins "tuple" = some (.type "tuple"):=by decide +kernel
theorem gP : bootBuiltins "int" = some (.type "int"):=by decide +kernel
theorem Room.u30 {k : Nat} {A : Around} (r : Room k A) : A.units + 30 < cLine:=by have:=r.un; omega
theorem Room.u31 {k : Nat} {A : Around} (r : Room k A) : A.units + 31 < cLine:=by have:=r.un; omega
theorem Room.u1 {k : Nat} {A : Around} (r : Room k A) : A.units + 1 < cLine:=by have:=r.un; omega
section
variable {H : Hp3} {Q : VK3} {σ : St3}
def vq (o : Option (Option T)) (Q : T -> Prop) : Prop:=match o with
 | some (some t) => Q t
 | _ => False
theorem nq (t : T) (Q : T -> Prop) : vq (some (some t)) Q = Q t:=rfl
theorem eT (i : Nat) : aJ i σ H Q = vq (σ[i]?) fun t => Q t H:=rfl
def bq (x : T) (Q : Bool -> Prop) : Prop:=match x with
 | .bl k => Q k
 | _ => False
theorem ux (b : Bool) (Q : Bool -> Prop) : bq (.bl b) Q = Q b:=rfl
theorem uA (t : TE3) (Q : Bool -> Hp3 -> Prop) : cD t σ H Q = t σ H fun x H' => bq x fun k => Q k H':=rfl
theorem qH (r r' : R3) (ta tb tc : TE3) : qA r r' ta tb tc σ H Q = ta σ H fun x H1 => tb σ H1 fun y H2 => r x y H2 fun z H3 => bq z fun k => if k = true then tc σ H3 fun w H4 => r' y w H4 Q else Q (.bl false) H3:=rfl
theorem uB (ta tb : TE3) : mM ta tb σ H Q = ta σ H fun x H1 => bq x fun c => if c = true then tb σ H1 Q else Q (.bl false) H1:=rfl
theorem xK (ta tb : TE3) : sw ta tb σ H Q = ta σ H fun x H1 => bq x fun c => if c = true then Q (.bl true) H1 else tb σ H1 Q:=rfl
theorem uC (ta : TE3) : uk ta σ H Q = ta σ H fun x H1 => bq x fun c => Q (.bl (!c)) H1:=rfl
theorem b5 {α : Type} (v : α) (Q : α -> Prop) : oq (some v) Q = Q v:=rfl
theorem q_I (C : Int -> Int -> Prop) (g : Int -> Int -> T) (i j : Int) : rI3 C g (.int i) (.int j) H Q = (C i j /\ Q (g i j) H):=rfl
theorem zW (g : Int -> Int -> T) (i j : Int) : mZ g (.int i) (.int j) H Q = Q (g i j) H:=rfl
theorem nu (i j : Int) : eP (.int i) (.int j) H Q = Q (.int (i + j)) H:=rfl
theorem uD (i j : Str) : eP (.str i) (.str j) H Q = (i.length + j.length <= sizeLine /\ Q (.str (i ++ j)) H):=rfl
theorem uE (xs ys : List T) : eP (.tup xs) (.tup ys) H Q = (xs.length + ys.length <= sizeLine /\ Q (.tup (xs ++ ys)) H):=rfl
def xL (o u : Option O3) (H : Hp3) (Q : VK3) : Prop:=match o,u with
 | some (.lst xs),some (.lst ys) => xs.length + ys.length <= sizeLine /\ ∀ p,H p = none -> Q (.ref p) (up3 H p (.lst (xs ++ ys)))
 | _,_ => False
theorem uF (a b : Addr) : eP (.ref a) (.ref b) H Q = xL (H a) (H b) H Q:=rfl
theorem uG (xs ys : List T) : xL (some (.lst xs)) (some (.lst ys)) H Q = (xs.length + ys.length <= sizeLine /\ ∀ p,H p = none -> Q (.ref p) (up3 H p (.lst (xs ++ ys)))):=rfl
theorem xM (n : Bool) (i j : Int) : jC n (.int i) (.int j) H Q = Q (.bl (if n then !decide (i = j) else decide (i = j))) H:=rfl
theorem xN (n : Bool) (i j : Str) : jC n (.str i) (.str j) H Q = Q (.bl (if n then !decide (i = j) else decide (i = j))) H:=rfl
theorem xO (n : Bool) (i j : Bool) : jC n (.bl i) (.bl j) H Q = Q (.bl (if n then !decide (i = j) else decide (i = j))) H:=rfl
theorem xP (n : Bool) (xs ys : List T) : jC n (.tup xs) (.tup ys) H Q = (xs.all (pl 20) = true /\ ys.all (pl 20) = true /\ Q (.bl (if n then !decide (xs = ys) else decide (xs = ys))) H):=rfl
def eqH (n : Bool) (a b : Addr) (o u : Option O3) (H : Hp3) (Q : VK3) : Prop:=match o,u with
 | some (.lst xs),some (.lst ys) => a ≠ b /\ xs.all (pl 20) = true /\ ys.all (pl 20) = true /\ Q (.bl (if n then !@decide (xs = ys) (instDecidableEqList xs ys) else @decide (xs = ys) (instDecidableEqList xs ys))) H
 | _,_ => False
theorem xQ (n : Bool) (a b : Addr) : jC n (.ref a) (.ref b) H Q = eqH n a b (H a) (H b) H Q:=rfl
theorem xR (n : Bool) (a b : Addr) (xs ys : List T) : eqH n a b (some (.lst xs)) (some (.lst ys)) H Q = (a ≠ b /\ xs.all (pl 20) = true /\ ys.all (pl 20) = true /\ Q (.bl (if n then !decide (xs = ys) else decide (xs = ys))) H):=rfl
theorem xS (n : Bool) (x : T) (ts : List T) : iJ n x (.tup ts) H Q = (pl 20 x = true /\ ts.all (pl 20) = true /\ Q (.bl (bR n x ts)) H):=rfl
theorem xT (n : Bool) (i j : Str) : iJ n (.str i) (.str j) H Q = Q (.bl (occ n i j)) H:=rfl
def inH (n : Bool) (x : T) (o : Option O3) (H : Hp3) (Q : VK3) : Prop:=match o with
 | some (.lst ts) => pl 20 x = true /\ ts.all (pl 20) = true /\ Q (.bl (bR n x ts)) H
 | some (.rol ts) => pl 20 x = true /\ ts.all (pl 20) = true /\ Q (.bl (bR n x ts)) H
 | _ => False
theorem sJ (n : Bool) (x : T) (a : Addr) : iJ n x (.ref a) H Q = inH n x (H a) H Q:=rfl
theorem nv (n : Bool) (x : T) (ts : List T) : inH n x (some (.lst ts)) H Q = (pl 20 x = true /\ ts.all (pl 20) = true /\ Q (.bl (bR n x ts)) H):=rfl
def ixH (o : Option O3) (i : Int) (H : Hp3) (Q : VK3) : Prop:=match o with
 | some (.lst ts) => oq (atI ts i) fun t => Q t H
 | some (.rol ts) => oq (atI ts i) fun t => Q t H
 | _ => False
theorem xU (a : Addr) (i : Int) : fu (.ref a) (.int i) H Q = ixH (H a) i H Q:=rfl
theorem xV (ts : List T) (i : Int) : ixH (some (.lst ts)) i H Q = oq (atI ts i) fun t => Q t H:=rfl
theorem xW (ts : List T) (i : Int) : fu (.tup ts) (.int i) H Q = oq (atI ts i) fun t => Q t H:=rfl
theorem xX (z : Str) (i : Int) : fu (.str z) (.int i) H Q = (z.length <= sizeLine /\ oq (atI z.cps.toList i) fun c => Q (.str ⟨#[c]⟩) H):=rfl
def stH (o : Option O3) (a : Addr) (k : Int) (v : T) (H : Hp3) (Q : Hp3 -> Prop) : Prop:=match o with
 | some (.lst ts) => oq (ixN ts.length k) fun j => Q (up3 H a (.lst (ts.set j v)))
 | _ => False
theorem uH (a : Addr) (k : Int) (v : T) (Q : Hp3 -> Prop) : gK (.ref a) (.int k) v H Q = stH (H a) a k v H Q:=rfl
theorem xY (ts : List T) (a : Addr) (k : Int) (v : T) (Q : Hp3 -> Prop) : stH (some (.lst ts)) a k v H Q = oq (ixN ts.length k) fun j => Q (up3 H a (.lst (ts.set j v))):=rfl
def pq (x : T) (Q : Option Int -> Prop) : Prop:=match x with
 | .int i => Q (some i)
 | _ => False
theorem zX (i : Int) (Q : Option Int -> Prop) : pq (.int i) Q = Q (some i):=rfl
theorem uI (t : TE3) (Q : Option Int -> Hp3 -> Prop) : ng t σ H Q = t σ H fun x H1 => pq x fun o => Q o H1:=rfl
def slH (o : Option O3) (lo hi : Option Int) (H : Hp3) (Q : VK3) : Prop:=match o with
 | some (.lst ts) => ∀ p,H p = none -> Q (.ref p) (up3 H p (.lst (b4 ts lo hi)))
 | some (.rol ts) => ∀ p,H p = none -> Q (.ref p) (up3 H p (.lst (b4 ts lo hi)))
 | _ => False
theorem xZ (a : Addr) (lo hi : Option Int) : qE (.ref a) lo hi H Q = slH (H a) lo hi H Q:=rfl
theorem ya (ts : List T) (lo hi : Option Int) : slH (some (.lst ts)) lo hi H Q = ∀ p,H p = none -> Q (.ref p) (up3 H p (.lst (b4 ts lo hi))):=rfl
theorem uJ (ts : List T) (lo hi : Option Int) : slH (some (.rol ts)) lo hi H Q = ∀ p,H p = none -> Q (.ref p) (up3 H p (.lst (b4 ts lo hi))):=rfl
theorem yb (ts : List T) (lo hi : Option Int) : qE (.tup ts) lo hi H Q = (¬ (HT.sIx ts.length 0 lo = 0 /\ HT.sIx ts.length ts.length hi = ts.length) /\ Q (.tup (b4 ts lo hi)) H):=rfl
theorem yc (z : Str) (lo hi : Option Int) : qE (.str z) lo hi H Q = (z.length <= sizeLine /\ Q (.str (PySem.Txt.slice z lo hi)) H):=rfl
def dgH (o : Option O3) (k : Str) (H : Hp3) (Q : VK3) : Prop:=match o with
 | some (.dct kvs) => oq (av k kvs) fun t => Q t H
 | _ => False
theorem q_D (a : Addr) (k : Str) : r3D (.ref a) (.str k) H Q = dgH (H a) k H Q:=rfl
theorem yd (kvs : List (Str × T)) (k : Str) : dgH (some (.dct kvs)) k H Q = oq (av k kvs) fun t => Q t H:=rfl
def dpH (x y v : T) (H : Hp3) (Q : Hp3 -> Prop) : Prop:=match x,y with
 | .ref a,.str k => match H a with
  | some (.dct kvs) => kvs.length < sizeLine /\ Q (up3 H a (.dct (put3 k v kvs)))
  | _ => False
 | _,_ => False
def dpO (o : Option O3) (a : Addr) (k : Str) (v : T) (H : Hp3) (Q : Hp3 -> Prop) : Prop:=match o with
 | some (.dct kvs) => kvs.length < sizeLine /\ Q (up3 H a (.dct (put3 k v kvs)))
 | _ => False
theorem uK (td ty tv : TE3) (D : Ends3) : nh td ty tv D σ H = tv σ H fun v H1 => td σ H1 fun x H2 => ty σ H2 fun y H3 => dpH x y v H3 fun H4 => D.nx σ H4:=rfl
theorem ye (a : Addr) (k : Str) (v : T) (Q : Hp3 -> Prop) : dpH (.ref a) (.str k) v H Q = dpO (H a) a k v H Q:=rfl
theorem yf (kvs : List (Str × T)) (a : Addr) (k : Str) (v : T) (Q : Hp3 -> Prop) : dpO (some (.dct kvs)) a k v H Q = (kvs.length < sizeLine /\ Q (up3 H a (.dct (put3 k v kvs)))):=rfl
def lnH (o : Option O3) (H : Hp3) (Q : VK3) : Prop:=match o with
 | some (.lst xs) => Q (.int xs.length) H
 | some (.rol xs) => Q (.int xs.length) H
 | _ => False
theorem uL (a : Addr) : iM [.ref a] H Q = lnH (H a) H Q:=rfl
theorem yg (xs : List T) : lnH (some (.lst xs)) H Q = Q (.int xs.length) H:=rfl
theorem uM (xs : List T) : iM [.tup xs] H Q = Q (.int xs.length) H:=rfl
theorem uN (z : Str) : iM [.str z] H Q = (z.length <= sizeLine /\ Q (.int z.length) H):=rfl
def liH (o : Option O3) (H : Hp3) (Q : VK3) : Prop:=match o with
 | some (.lst xs) => ∀ p,H p = none -> Q (.ref p) (up3 H p (.lst xs))
 | some (.rol xs) => ∀ p,H p = none -> Q (.ref p) (up3 H p (.lst xs))
 | _ => False
theorem qI (a : Addr) : jE [.ref a] H Q = liH (H a) H Q:=rfl
theorem yh (xs : List T) : liH (some (.lst xs)) H Q = ∀ p,H p = none -> Q (.ref p) (up3 H p (.lst xs)):=rfl
theorem qJ (xs : List T) : jE [.tup xs] H Q = ∀ p,H p = none -> Q (.ref p) (up3 H p (.lst xs)):=rfl
def tpH (o : Option O3) (H : Hp3) (Q : VK3) : Prop:=match o with
 | some (.lst xs) => Q (.tup xs) H
 | some (.rol xs) => Q (.tup xs) H
 | _ => False
theorem jG (a : Addr) : dh [.ref a] H Q = tpH (H a) H Q:=rfl
theorem kK (xs : List T) : tpH (some (.lst xs)) H Q = Q (.tup xs) H:=rfl
theorem uO (xs : List T) : dh [.tup xs] H Q = Q (.tup xs) H:=rfl
theorem uP (i : Int) : nj [.int i] H Q = Q (.int i) H:=rfl
theorem uQ (b : Bool) : nj [.bl b] H Q = Q (.int (if b then 1 else 0)) H:=rfl
theorem uR (i : Int) : xH [.int i] H Q = (i.natAbs.log2 < 1920 /\ Q (.str (toString i)) H):=rfl
def smH (o : Option O3) (H : Hp3) (Q : VK3) : Prop:=match o with
 | some (.lst xs) => oq (ints3 xs) fun ns => Q (.int ns.sum) H
 | some (.rol xs) => oq (ints3 xs) fun ns => Q (.int ns.sum) H
 | _ => False
theorem uS (a : Addr) : sI [.ref a] H Q = smH (H a) H Q:=rfl
theorem yi (xs : List T) : smH (some (.lst xs)) H Q = oq (ints3 xs) fun ns => Q (.int ns.sum) H:=rfl
theorem iP (x : T) (n : String) : fT [x,.ty n] H Q = ((n = "str" \/ n = "int" \/ n = "bool" \/ n = "tuple" \/ n = "list") /\ oq (isT n x H) fun b => Q (.bl b) H):=rfl
theorem nw (Ty : String) (z : Str) : ty3 Ty (.str z) H = (Ty = "str"):=rfl
def tyH (o : Option O3) : Prop:=match o with
 | some (.lst _) => True
 | some (.rol _) => True
 | _ => False
theorem ny (Ty : String) (a : Addr) : ty3 Ty (.ref a) H = (Ty = "list" /\ tyH (H a)):=rfl
theorem kL (xs : List T) : tyH (some (.lst xs)) = True:=rfl
def apH (o : Option O3) (a : Addr) (t : T) (H : Hp3) (Q : VK3) : Prop:=match o with
 | some (.lst xs) => xs.length < sizeLine /\ Q .non (up3 H a (.lst (xs ++ [t])))
 | _ => False
theorem nz (a : Addr) (t : T) : fU (.ref a) [t] H Q = apH (H a) a t H Q:=rfl
theorem kM (xs : List T) (a : Addr) (t : T) : apH (some (.lst xs)) a t H Q = (xs.length < sizeLine /\ Q .non (up3 H a (.lst (xs ++ [t])))):=rfl
def exH (o u : Option O3) (a : Addr) (H : Hp3) (Q : VK3) : Prop:=match o,u with
 | some (.lst xs),some (.lst ys) => xs.length + ys.length <= sizeLine /\ Q .non (up3 H a (.lst (xs ++ ys)))
 | _,_ => False
theorem yj (a b : Addr) : xJ (.ref a) [.ref b] H Q = exH (H a) (H b) a H Q:=rfl
theorem yk (xs ys : List T) (a : Addr) : exH (some (.lst xs)) (some (.lst ys)) a H Q = (xs.length + ys.length <= sizeLine /\ Q .non (up3 H a (.lst (xs ++ ys)))):=rfl
def poH (o : Option O3) (a : Addr) (i : Int) (H : Hp3) (Q : VK3) : Prop:=match o with
 | some (.lst xs) => oq (ixN xs.length i) fun j => oq (xs[j]?) fun t => Q t (up3 H a (.lst (xs.eraseIdx j)))
 | _ => False
theorem ym (a : Addr) (i : Int) : kI (.ref a) [.int i] H Q = poH (H a) a i H Q:=rfl
theorem yn (xs : List T) (a : Addr) (i : Int) : poH (some (.lst xs)) a i H Q = oq (ixN xs.length i) fun j => oq (xs[j]?) fun t => Q t (up3 H a (.lst (xs.eraseIdx j))):=rfl
def joH (o : Option O3) (z : Str) (H : Hp3) (Q : VK3) : Prop:=match o with
 | some (.lst xs) => oq (aQ xs) fun ys => jOk z ys /\ Q (.str (PySem.Txt.join z ys)) H
 | some (.rol xs) => oq (aQ xs) fun ys => jOk z ys /\ Q (.str (PySem.Txt.join z ys)) H
 | _ => False
theorem gQ (z : Str) (a : Addr) : dD (.str z) [.ref a] H Q = joH (H a) z H Q:=rfl
theorem nA (xs : List T) (z : Str) : joH (some (.lst xs)) z H Q = oq (aQ xs) fun ys => jOk z ys /\ Q (.str (PySem.Txt.join z ys)) H:=rfl
theorem qK (z : Str) (xs : List T) : dD (.str z) [.tup xs] H Q = oq (aQ xs) fun ys => jOk z ys /\ Q (.str (PySem.Txt.join z ys)) H:=rfl
def idH (o : List Nat) (H : Hp3) (Q : VK3) : Prop:=match o with
 | i :: _ => Q (.int i) H
 | [] => False
theorem qL (z y : Str) : d7 (.str z) [.str y] H Q = idH (Builtin.Str.occurrences z y 0 z.length 1) H Q:=rfl
theorem yo (i : Nat) (r : List Nat) : idH (i :: r) H Q = Q (.int i) H:=rfl
def rgq (vs : List T) (H : Hp3) (R : List T -> (Hp3 -> Prop) -> Hp3 -> Prop) : Prop:=match vs with
 | [.int j] => -(2 ^ 62) <= j /\ j < 2 ^ 62 /\ R (bu 0 j.toNat) bg H
 | [.int i,.int j] => (-(2 ^ 62) <= i /\ i < 2 ^ 62 /\ -(2 ^ 62) <= j /\ j < 2 ^ 62) /\ R (bu i (j - i).toNat) bg H
 | _ => False
theorem yp (ta : TA3) (R : List T -> (Hp3 -> Prop) -> Hp3 -> Prop) : sF ta σ H R = ta σ H fun vs H1 => rgq vs H1 R:=rfl
theorem fV (j : Int) (R : List T -> (Hp3 -> Prop) -> Hp3 -> Prop) : rgq [.int j] H R = (-(2 ^ 62) <= j /\ j < 2 ^ 62 /\ R (bu 0 j.toNat) bg H):=rfl
theorem yq (i j : Int) (R : List T -> (Hp3 -> Prop) -> Hp3 -> Prop) : rgq [.int i,.int j] H R = ((-(2 ^ 62) <= i /\ i < 2 ^ 62 /\ -(2 ^ 62) <= j /\ j < 2 ^ 62) /\ R (bu i (j - i).toNat) bg H):=rfl
def tuq (x : T) (H : Hp3) (R : List T -> (Hp3 -> Prop) -> Hp3 -> Prop) : Prop:=match x with
 | .tup ts => R ts bg H
 | _ => False
theorem uT (tl : TE3) (R : List T -> (Hp3 -> Prop) -> Hp3 -> Prop) : sE tl σ H R = tl σ H fun x H1 => tuq x H1 R:=rfl
theorem yr (ts : List T) (R : List T -> (Hp3 -> Prop) -> Hp3 -> Prop) : tuq (.tup ts) H R = R ts bg H:=rfl
def liq (x : T) (H : Hp3) (R : List T -> (Hp3 -> Prop) -> Hp3 -> Prop) : Prop:=match x with
 | .ref a => match H a with
  | some (.lst ts) => R ts (bh a ts) H
  | some (.rol ts) => R ts (bh a ts) H
  | _ => False
 | _ => False
def liO (o : Option O3) (a : Addr) (H : Hp3) (R : List T -> (Hp3 -> Prop) -> Hp3 -> Prop) : Prop:=match o with
 | some (.lst ts) => R ts (bh a ts) H
 | some (.rol ts) => R ts (bh a ts) H
 | _ => False
theorem qM (tl : TE3) (R : List T -> (Hp3 -> Prop) -> Hp3 -> Prop) : mS tl σ H R = tl σ H fun x H1 => liq x H1 R:=rfl
theorem sK (a : Addr) (R : List T -> (Hp3 -> Prop) -> Hp3 -> Prop) : liq (.ref a) H R = liO (H a) a H R:=rfl
theorem iQ (ts : List T) (a : Addr) (R : List T -> (Hp3 -> Prop) -> Hp3 -> Prop) : liO (some (.lst ts)) a H R = R ts (bh a ts) H:=rfl
theorem uU (Q : St3 -> Hp3 -> Prop) : sB [] σ H Q = Q σ H:=rfl
theorem qN (t : TG3) (u : ft) (x : T) (r : List T) (Q : St3 -> Hp3 -> Prop) : mQ t u (x :: r) σ H Q = t x σ H fun σ' H' => u r σ' H' Q:=rfl
theorem uV (n : Nat) (g : ft) (ts : List T) (Q : St3 -> Hp3 -> Prop) : sC n g (.tup ts) σ H Q = (ts.length = n /\ g ts σ H Q):=rfl
end
theorem gR {n j : Nat} (h : j < n) : ixN n (j : Int) = some j:=by
 unfold ixN
 rw [if_pos (Int.natCast_nonneg j),if_pos (by omega),Int.toNat_natCast]
theorem zY (n : Nat) : ixN (n + 1) 0 = some 0:=gR (j:=0) (Nat.succ_pos n)
theorem at0 {α : Type} (a : α) (r : List α) : atI (a :: r) 0 = some a:=cz (j:=0) rfl
theorem at1 {α : Type} (a b : α) (r : List α) : atI (a :: b :: r) 1 = some b:=cz (j:=1) rfl
theorem at2 {α : Type} (a b c : α) (r : List α) : atI (a :: b :: c :: r) 2 = some c:=cz (j:=2) rfl
theorem at3 {α : Type} (a b c d : α) (r : List α) : atI (a :: b :: c :: d :: r) 3 = some d:=cz (j:=3) rfl
theorem iR {α : Type} (xs : List α) (i : Int) (h0 : 0 <= i) (h1 : i < xs.length) : ∃ z,z ∈ xs /\ atI xs i = some z:=by
 obtain ⟨j,rfl⟩:=Int.eq_ofNat_of_zero_le h0
 have hj : j < xs.length:=by omega
 exact ⟨xs[j],List.getElem_mem hj,cz (List.getElem?_eq_getElem hj)⟩
theorem eU {α β : Type} (f : α -> β) (xs : List α) (i : Int) : atI (xs.map f) i = (atI xs i).map f:=by
 unfold atI
 rw [List.length_map]
 cases ixN xs.length i with
 | none => rfl
 | some j => simp
theorem bU {g : TG3} {tb : TS3} {D : Ends3} {still : Hp3 -> Prop} {ts : List T} {σ : St3} {H : Hp3} (I : List T -> St3 -> Hp3 -> Prop) (h0 : I ts σ H) (hn : ∀ σ H,I [] σ H -> still H /\ D.nx σ H)
  (hs : ∀ t r σ H (N : St3 -> Hp3 -> Prop),I (t :: r) σ H -> (∀ σ' H',I r σ' H' -> N σ' H') -> still H /\ g t σ H fun σ2 H2 => tb { D with nx:=N,ct:=N,bk:=D.nx } σ2 H2) : iter3 g tb D still ts σ H:=by
 induction ts generalizing σ H with
 | nil => exact hn σ H h0
 | cons t r ih => exact hs t r σ H (iter3 g tb D still r) h0 fun σ' H' h => ih h
theorem iS {g : TG3} {tt : TT3} {te : TE3} {still : Hp3 -> Prop} {fin : List T -> Hp3 -> Prop} {ts ys : List T} {σ : St3} {H : Hp3} (I : List T -> List T -> St3 -> Hp3 -> Prop) (h0 : I ts ys σ H) (hn : ∀ ys σ H,I [] ys σ H -> still H /\ ys.length <= sizeLine /\ fin ys H)
  (hs : ∀ t r ys σ H (N : List T -> St3 -> Hp3 -> Prop),I (t :: r) ys σ H -> (∀ ys' σ' H',I r ys' σ' H' -> N ys' σ' H') ->
   still H /\ g t σ H fun σ2 H2 => tt σ2 H2 fun b H3 => if b = true then te σ2 H3 fun y H4 => ys.length < sizeLine /\ N (ys ++ [y]) σ2 H4 else N ys σ2 H3) : cIter3 g tt te still fin ts ys σ H:=by
 induction ts generalizing σ H ys with
 | nil => exact hn ys σ H h0
 | cons t r ih => exact hs t r ys σ H (cIter3 g tt te still fin r) h0 fun ys' σ' H' h => ih h
theorem uW (σ : St3) (H : Hp3) (Q : List (Str × T) -> Hp3 -> Prop) : ni [] σ H Q = Q [] H:=rfl
theorem uX (k : Str) (tv : TE3) (r : List (Str × TE3)) (σ : St3) (H : Hp3) (Q : List (Str × T) -> Hp3 -> Prop) : ni ((k,tv) :: r) σ H Q = tv σ H fun y H2 => ni r σ H2 fun ps H3 => Q ((k,y) :: ps) H3:=rfl
theorem sx0 (n : Nat) : HT.sIx n 0 none = 0:=rfl
theorem nB {ts : List T} {k : Nat} : b4 ts none (some (k : Int)) = ts.take k:=by
 unfold b4
 rw [sx0,HT.sIx_nat,List.drop_zero,Nat.sub_zero]
 by_cases h : k <= ts.length
 ·
  rw [Nat.min_eq_left h]
 ·
  rw [Nat.min_eq_right (by omega),List.take_length,List.take_of_length_le (by omega)]
theorem cK {ts : List T} {k : Nat} : b4 ts (some (k : Int)) none = ts.drop k:=by
 unfold b4
 rw [HT.sIx_none,HT.sIx_nat]
 by_cases h : k <= ts.length
 ·
  rw [Nat.min_eq_left h,List.take_of_length_le (by simp)]
 ·
  rw [Nat.min_eq_right (by omega),List.drop_of_length_le (Nat.le_refl _),List.drop_of_length_le (by omega),List.take_nil]
theorem ap {H : Hp3} {a b : Addr} {o : O3} (h : up3 H a o b = none) : b ≠ a /\ H b = none:=by
 by_cases e : b = a
 ·
  subst e; rw [ai] at h; cases h
 ·
  rw [aj e] at h; exact ⟨e,h⟩
theorem bw {α : Type} (enc f : α -> T) (as : List α) (rest : St3) {te : TE3} {still : Hp3 -> Prop} {fin : List T -> Hp3 -> Prop} {v : Option T} {H : Hp3} (hst : still H) (hl : as.length <= sizeLine)
  (ht : ∀ a ∈ as,∀ Q : VK3,Q (f a) H -> te (some (enc a) :: rest) H Q) (hfin : fin (as.map f) H) : cIter3 (cf 0) mV te still fin (as.map enc) [] (v :: rest) H:=by
 refine iS (fun r ys σ H' => ∃ (rs ds : List α) (v : Option T),σ = v :: rest /\ r = rs.map enc /\ ys = ds.map f /\ ds ++ rs = as /\ H' = H) ⟨as,[],v,rfl,rfl,rfl,rfl,rfl⟩ ?_ ?_
 ·
  rintro ys σ H' ⟨rs,ds,v,rfl,hrs,rfl,hsp,rfl⟩
  have hrs' : rs = []:=List.map_eq_nil_iff.mp hrs.symm
  subst hrs'
  rw [List.append_nil] at hsp
  subst hsp
  exact ⟨hst,by rw [List.length_map]; exact hl,hfin⟩
 ·
  rintro x r ys σ H' N ⟨rs,ds,v,rfl,hrs,rfl,hsp,rfl⟩ hN
  cases rs with
  | nil => cases hrs
  | cons t rs =>
   injection hrs with e1 e2
   subst e1 e2
   refine ⟨hst,?_⟩
   show te (some (enc t) :: rest) H' _
   refine ht t (by rw [<- hsp]; simp) _ ⟨?_,hN _ _ _ ⟨rs,ds ++ [t],_,rfl,rfl,by simp,by rw [<- hsp]; simp,rfl⟩⟩
   have:=congrArg List.length hsp
   simp only [List.length_append,List.length_cons] at this
   rw [List.length_map]
   omega
section
variable {X : Cx}
noncomputable def aK : List T -> Option (List Bool)
 | [] => some []
 | .bl x :: r => (aK r).map (x :: ·)
 | _ => none
theorem bx : ∀ (ns : List Bool),aK (ns.map T.bl) = some ns
 | [] => rfl
 | n :: r => by simp [aK,bx r]
theorem b9 {K : PySem.W.Frag} {H : Hp} : ∀ {ts : List T} {xs : List V} {us : List Value} {bs : List Bool},aK ts = some bs -> Reps K H ts xs -> Vals xs us -> us = bs.map Value.bool
 | [],xs,us,bs,e,r,v => by
  cases e
  rw [r.inv0] at v
  cases v
  rfl
 | .bl i :: l,xs,us,bs,e,r,v => by
  obtain ⟨x,xr,rfl,rx,rr⟩:=r.inv
  cases v with
  | cons a b =>
   rw [rx.bl] at a
   cases hl : aK l with
   | none => simp [aK,hl] at e
   | some ms =>
    simp [aK,hl] at e
    subst e
    cases a
    rw [b9 hl rr b]
    rfl
 | .non :: _,_,_,_,e,_,_ => by simp [aK] at e
 | .int _ :: _,_,_,_,e,_,_ => by simp [aK] at e
 | .str _ :: _,_,_,_,e,_,_ => by simp [aK] at e
 | .tup _ :: _,_,_,_,e,_,_ => by simp [aK] at e
 | .ref _ :: _,_,_,_,e,_,_ => by simp [aK] at e
 | .ty _ :: _,_,_,_,e,_,_ => by simp [aK] at e
def alH (o : Option O3) (H : Hp3) (Q : VK3) : Prop:=match o with
 | some (.lst xs) => oq (aK xs) fun bs => Q (.bl (bs.all id)) H
 | some (.rol xs) => oq (aK xs) fun bs => Q (.bl (bs.all id)) H
 | _ => False
def sL : List T -> Hp3 -> VK3 -> Prop:=fun ts H Q => match ts with
 | [.ref a] => alH (H a) H Q
 | _ => False
theorem yt (a : Addr) {H : Hp3} {Q : VK3} : sL [.ref a] H Q = alH (H a) H Q:=rfl
theorem yu (xs : List T) {H : Hp3} {Q : VK3} : alH (some (.lst xs)) H Q = oq (aK xs) fun bs => Q (.bl (bs.all id)) H:=rfl
theorem all_range (bs : List Bool) : (List.range bs.length).all (fun i => bs.getD i true) = bs.all id:=by
 rw [Bool.eq_iff_iff,List.all_eq_true,List.all_eq_true]
 constructor
 ·
  intro h b hb
  obtain ⟨i,hi,rfl⟩:=List.mem_iff_getElem.mp hb
  have:=h i (List.mem_range.mpr hi)
  simpa [List.getD,hi] using this
 ·
  intro h i hi
  have hi':=List.mem_range.mp hi
  have:=h bs[i] (List.getElem_mem hi')
  simpa [List.getD,hi'] using this
theorem nE (hc : X.calm = true) : bI X (.builtin "all") sL:=by
 intro pins s σ H xs us Q I rv h
 obtain ⟨ts,H3,Q3,r,sh,h,k⟩:=h
 match ts,h,r with
 | [.ref a],h,r =>
  obtain ⟨v,rfl,rv'⟩:=r.one'
  obtain ⟨u,rfl,ru⟩:=vals1 rv
  rw [rv'.ref] at ru
  cases ru
  have main : ∀ {ls : List T} {ys : List V},SqL X.K H a ys -> Reps X.K H ls ys -> oq (aK ls) (fun bs => Q3 (.bl (bs.all id)) H3) -> wpAny (model X.prog X.w) X.A (call (.builtin "all") [.ref a]) (EP X pins σ Q) X.xe s:=by
   intro ls ys sq rs q
   cases e : aK ls with
   | none => rw [e] at q; exact q.elim
   | some bs =>
    rw [e] at q
    obtain ⟨its,rvs,hl,_⟩:=I.list sq
    have hi:=b9 e rs rvs
    subst hi
    have hlI : a ≠ s.heap.objs.size:=fun z => by
     obtain ⟨o,n,eo,_⟩:=hl
     have:=Heap.lt_size eo
     rw [z] at this
     exact Nat.lt_irrefl _ this
    refine call_all_walk (wpAny_pyIter_list hl.isList ?_)
    refine ⟨s.heap.objs.size,_,_,_,_,_,fun i => bs.getD i true,rfl,Walks.list (A:=X.A.in1) (I.ok.hd hc) s.heap.objs.size a hlI (bs.map Value.bool).toArray,⟨⟨_,Heap.get?_push_size _ rfl,rfl,rfl⟩,hl.isList.push _⟩,fun i v s' Q' E' hv hq => ?_,fun h' tk hk => ?_⟩
    ·
     have hv' : (bs.map Value.bool)[i]? = some v:=by simpa using hv
     rw [List.getElem?_map] at hv'
     cases eb : bs[i]? with
     | none => rw [eb] at hv'; cases hv'
     | some b =>
      rw [eb] at hv'
      cases hv'
      have : bs.getD i true = b:=by simp [List.getD,eb]
      dsimp only at hq
      rw [this] at hq
      exact wpAny_truthy_bool hq
    ·
     have hn : (bs.map Value.bool).toArray.size = bs.length:=by simp
     rw [hn,all_range]
     refine ⟨.bl (bs.all id),H,I.kept fun b o e => hk b o (fun z => ?_) (Heap.get?_push_of_some _ e),rfl,k _ _ _ _ .refl sh .ofBl q⟩
     have:=Heap.lt_size e
     rw [List.mem_singleton.mp z] at this
     exact Nat.lt_irrefl _ this
  have h' : alH (H3 a) H3 Q3:=h
  cases eo : H3 a with
  | none => rw [eo] at h'; exact h'.elim
  | some o =>
   rw [eo] at h'
   cases o with
   | lst ls =>
    obtain ⟨ys,sq,rs⟩:=sh.sqL (.inl eo)
    exact main sq rs h'
   | rol ls =>
    obtain ⟨ys,sq,rs⟩:=sh.sqL (.inr eo)
    exact main sq rs h'
   | dct _ => exact h'.elim
   | dcp _ => exact h'.elim
   | exc _ _ => exact h'.elim
   | xdt _ => exact h'.elim
end
section
variable {prog : Program} {w : World} {A : Around} {E : Value -> Shared -> Prop} {s : Shared}
end
section
variable {prog : Program} {w : World} {A : Around} {E : Value -> Shared -> Prop} {s : Shared}
end
section
variable {prog : Program} {w : World} {A : Around} {E : Value -> Shared -> Prop} {s : Shared}
end
section
variable {prog : Program} {w : World} {A : Around} {E : Value -> Shared -> Prop} {s : Shared}
end
section
variable {prog : Program} {w : World} {A : Around} {E : Value -> Shared -> Prop} {s : Shared}
end
section
variable {X : Cx} {e : Expr} {te : TE} {p1 p2 pos pos' : Pos}
end
section
variable {prog : Program} {w : World} {A : Around} {E : Value -> Shared -> Prop} {s : Shared}
end
section
variable {z ti to i1 i2 : Addr} {f1 f2 : List Addr}
end
section
variable {prog : Program} {w : World} {A : Around} {E : Value -> Shared -> Prop} {s : Shared} {z ti to i1 i2 : Addr} {f1 f2 : List Addr} {n1 n2 k : Nat} {P1 P2 : Nat -> Value -> Prop} {S1 S2 : Nat -> Heap -> Prop}
end
section
variable {prog : Program} {w : World} {A : Around} {E : Value -> Shared -> Prop} {s : Shared} {z ti to i1 i2 : Addr} {f1 f2 : List Addr} {n1 n2 k : Nat} {P1 P2 : Nat -> Value -> Prop} {S1 S2 : Nat -> Heap -> Prop}
end
section
variable {prog : Program} {w : World} {A : Around} {E : Value -> Shared -> Prop} {s : Shared}
end
section
variable {X : Cx} {pins : List (Addr × Obj)} {σ : L2.St} {H : Hp} {s : Shared} {h' : Heap}
theorem kN {ch : List Addr} {t' : Nat} (I : Inv X pins σ H s) (k : ∀ b o,b ∉ ch -> s.heap.get? b = some o -> h'.get? b = some o) (hf : ∀ b ∈ ch,fj X pins H b) : Inv X pins σ H { s with heap:=h',toks:=t' }:=by
 have nit : ∀ b u,H b = some u -> b ∉ ch:=fun b u e z => by rw [(hf b z).1] at e; cases e
 refine I.step (g':=s.gens) (d':=s.drawn) (ch:=ch) (fun b hb => ?_) (fun b o _ _ hc e _ => k b o hc e) (fun b o _ _ hc e _ => ⟨o.slots,k b o hc e⟩) (fun _ _ _ _ n => n)
  (fun b o hc e => ⟨o,k b o hc e⟩) (fun _ _ e => e) (fun _ _ _ e => e) (fun b ps e => ⟨#[],by rw [e]; simp⟩) (fun m hm => ?_) (fun b u e => ?_) I.bare
 ·
  obtain ⟨_,f1,_,f3,f4,f5⟩:=hf b hb
  exact ⟨f3,f1,f4,f5⟩
 ·
  obtain ⟨o,es,ep,ho,r⟩:=hm
  exact ⟨o,es,ep,k _ o (fun z => (hf _ z).2.1 rfl) ho,r⟩
 ·
  refine (I.hok b u e).stay (fun c v hc q => k c v ?_ q) (fun _ q => q) fun _ _ q => q
  rcases hc with z | z
  ·
   rw [z]; exact nit b u e
  ·
   exact nit c _ z
end
section
variable {X : Cx} {elts : List Expr} {x1 : Nat} {tpos pos p : Pos} {ea eb : Expr}
noncomputable def uY : List T -> List T -> List T
 | x :: xs,y :: ys => .tup [x,y] :: uY xs ys
 | _,_ => []
end
theorem fW : ∀ (ts : List T),uY ts ts = ts.map fun t => .tup [t,t]
 | [] => rfl
 | t :: r => by rw [uY,fW r]; rfl
section
variable {H : Hp3} {Q : VK3}
theorem uZ (x : T) : fT [x,.ty "str"] H Q = oq (isT "str" x H) fun b => Q (.bl b) H:=by rw [iP]; exact propext ⟨fun h => h.2,fun h => ⟨by simp,h⟩⟩
theorem jH (x : Str) : isT "str" (.str x) H = some true:=rfl
theorem jI (x : Int) : isT "str" (.int x) H = some false:=rfl
theorem jJ (x : List T) : isT "str" (.tup x) H = some false:=rfl
theorem lM (x : Bool) : isT "str" (.bl x) H = some false:=rfl
theorem jK  : isT "str" (.non) H = some false:=rfl
theorem u9 (x : T) : fT [x,.ty "int"] H Q = oq (isT "int" x H) fun b => Q (.bl b) H:=by rw [iP]; exact propext ⟨fun h => h.2,fun h => ⟨by simp,h⟩⟩
theorem jL (x : Str) : isT "int" (.str x) H = some false:=rfl
theorem jM (x : Int) : isT "int" (.int x) H = some true:=rfl
theorem jN (x : List T) : isT "int" (.tup x) H = some false:=rfl
theorem lN (x : Bool) : isT "int" (.bl x) H = some true:=rfl
theorem jO  : isT "int" (.non) H = some false:=rfl
theorem qO (x : T) : fT [x,.ty "bool"] H Q = oq (isT "bool" x H) fun b => Q (.bl b) H:=by rw [iP]; exact propext ⟨fun h => h.2,fun h => ⟨by simp,h⟩⟩
theorem iT (x : Str) : isT "bool" (.str x) H = some false:=rfl
theorem iU (x : Int) : isT "bool" (.int x) H = some false:=rfl
theorem iV (x : List T) : isT "bool" (.tup x) H = some false:=rfl
theorem jP (x : Bool) : isT "bool" (.bl x) H = some true:=rfl
theorem iW  : isT "bool" (.non) H = some false:=rfl
theorem nF (x : T) : fT [x,.ty "tuple"] H Q = oq (isT "tuple" x H) fun b => Q (.bl b) H:=by rw [iP]; exact propext ⟨fun h => h.2,fun h => ⟨by simp,h⟩⟩
theorem gT (x : Str) : isT "tuple" (.str x) H = some false:=rfl
theorem gU (x : Int) : isT "tuple" (.int x) H = some false:=rfl
theorem gW (x : List T) : isT "tuple" (.tup x) H = some true:=rfl
theorem iX (x : Bool) : isT "tuple" (.bl x) H = some false:=rfl
theorem gX  : isT "tuple" (.non) H = some false:=rfl
theorem qP (x : T) : fT [x,.ty "list"] H Q = oq (isT "list" x H) fun b => Q (.bl b) H:=by rw [iP]; exact propext ⟨fun h => h.2,fun h => ⟨by simp,h⟩⟩
theorem iY (x : Str) : isT "list" (.str x) H = some false:=rfl
theorem iZ (x : Int) : isT "list" (.int x) H = some false:=rfl
theorem i0 (x : List T) : isT "list" (.tup x) H = some false:=rfl
theorem jQ (x : Bool) : isT "list" (.bl x) H = some false:=rfl
theorem i4  : isT "list" (.non) H = some false:=rfl
theorem kO {α : Type} [DecidableEq α] (a : α) : decide (a = a) = true:=decide_eq_true rfl
end
theorem aR {N P : List Str} {sc : Scope} (a : sc.kind = .function:=by rfl) (b : sc.isCoroutine = false:=by rfl) (c : sc.isGenerator = false:=by rfl) (d : N.Nodup:=by decide +kernel) (e : N.take P.length = P:=by rfl)
 (f : ∀ x ∈ P,sc.names.lookup x = some .local \/ sc.names.lookup x = some .cell:=by decide +kernel) (g : ∀ y ∈ sc.names,y.2 ≠ .free:=by decide +kernel) : FnScope N P sc:=⟨a,b,c,d,e,f,g⟩
structure Cal (P : Program) (w : World) (K : PySem.W.Frag) (mg : Str -> Option Value) (base : Heap) (k : Nat) (x : Str) (st : Stmt) (ps : List Str) (sp : Sp3) : Prop where
 ex : ∃ (f : Addr) (fd : FuncData),G3 K mg x st ps f fd /\ FnOk3 P w K mg base k f fd ps sp
theorem va {X : Cx} {k : Nat} {ps : List Str} {sp : Sp3} {st : Stmt} {x : Str} {p pos : Pos} {e : Expr} {es : List Expr} {t : TA3} (D : Cal X.prog X.w X.K X.mg X.base k x st ps sp) (hr : Room k X.A) (hg : Gl X x)
  (ha : PA3 X (e :: es) t) (hdb : (x == ("__debug__" : Str)) = false:=by decide) (he : starEach (e :: es) X.env = (false,eval e X.env) :: starEach es X.env:=by rfl) (hpl : (backTo pos (starEach es X.env)).any (·.1) = false:=by rfl) :
  PE3 X (.Call (.Name x p) (e :: es) [] pos) (eM sp t):=by
 obtain ⟨f,fd,g,F⟩:=D.ex
 exact qC F hr hg g.m g.fn.kp g.b ha hdb he hpl
theorem aD {X : Cx} {k j : Nat} {ps : List Str} {sp : Sp3} {st : Stmt} {x : Str} {p pos : Pos} {e : Expr} {es : List Expr} {t : TA3} (D : Cal X.prog X.w X.K X.mg X.base k x st ps sp) (hr : Room j X.A) (hg : Gl X x) (ha : PA3 X (e :: es) t) (hk : k <= j:=by decide) (hdb : (x == ("__debug__" : Str)) = false:=by decide) (he : starEach (e :: es) X.env = (false,eval e X.env) :: starEach es X.env:=by rfl) (hpl : (backTo pos (starEach es X.env)).any (·.1) = false:=by rfl) : PE3 X (.Call (.Name x p) (e :: es) [] pos) (eM sp t):=va D (hr.mono hk) hg ha hdb he hpl
open L2 PySem.Builtin PySem.Builtin.Str
section
variable {prog : Program} {w : World} {A : Around} {E : Value -> Shared -> Prop} {s : Shared} {x y : Str} {t u : Tok} {Q : Value -> Shared -> Prop}
end
section
variable {X : Cx}
end
section
variable {prog : Program} {w : World} {A : Around} {E : Value -> Shared -> Prop} {s : Shared}
end
section
variable {prog : Program} {w : World} {A : Around} {E : Value -> Shared -> Prop} {s : Shared}
end
theorem qQ {prog : Program} {w : World} {A : Around} (hh : A.handled = none) (it t : Addr) (hne : t ≠ it) (items : Array Value) (k : Nat) (hk : items[k]? = none) :
  Draws prog w A it [it,t] k (fun _ _ => True) (fun i h => i = k /\ h.IsListIter it t i /\ h.IsList t items) where
 live:=fun _ _ st => let ⟨o,ho,_⟩:=st.2.1; ⟨o,ho⟩
 frame:=fun _ _ _ st hk => ⟨st.1,st.2.1.at fun o e => hk it (by simp) o e,st.2.2.at fun o e => hk t (by simp) o e⟩
 item:=fun i s Q E hi st hQ => absurd st.1 (Nat.ne_of_lt hi)
 done:=fun s Q E st hE => wpAny_nextOf_list_end hh st.2.1 st.2.2 hk hE
section
variable {X : Cx} {elts : List Expr} {x1 j : Nat} {tpos pos p cp kp : Pos} {e : Expr}
theorem gY : bootBuiltins "enumerate" = some (.type "enumerate"):=by decide +kernel
end
section
variable {X : Cx} {tg l : Expr}
end
section
variable {prog : Program} {w : World} {A : Around} {E : Value -> Shared -> Prop} {s : Shared}
end
section
variable {X : Cx} {e : Expr} {te : TE} {p1 p2 pos pos' : Pos}
end
section
variable {X : Cx} {pins : List (Addr × Obj)} {σ : L2.St} {H : Hp} {s : Shared}
end
section
variable {X : Cx}
end
section
variable {X : Cx} {a : Expr} {ta : TE3} {pos : Pos}
def ngq (x : T) (H : Hp3) (Q : VK3) : Prop:=match x with
 | .int i => Q (.int (-i)) H
 | _ => False
def yv (ta : TE3) : TE3:=fun σ H Q => ta σ H fun x H1 => ngq x H1 Q
theorem yw (ta : TE3) {σ : St3} {H : Hp3} {Q : VK3} : yv ta σ H Q = ta σ H fun x H1 => ngq x H1 Q:=rfl
theorem yx (i : Int) {H : Hp3} {Q : VK3} : ngq (.int i) H Q = Q (.int (-i)) H:=rfl
def vb : List T -> Hp3 -> VK3 -> Prop:=fun ts H Q => match ts with
 | [.str x] => x.length <= 640 /\ oq (PySem.intText? x) fun n => Q (.int n) H
 | _ => False
theorem vc (x : Str) {H : Hp3} {Q : VK3} : vb [.str x] H Q = (x.length <= 640 /\ oq (PySem.intText? x) fun n => Q (.int n) H):=rfl
end
noncomputable def vd (K : PySem.W.Frag) (a : Addr) : It :=
 ⟨fun i H => ∃ xs x,SqL K H a xs /\ xs[i]? = some x,
  fun i H v H' => ∃ p x,v = .ref p /\ H p = none /\ H' = upd H p (.tup [.int (i : Int),x]) /\ ∀ xs,SqL K H a xs -> xs[i]? = some x,
  fun i H => ∃ xs,SqL K H a xs /\ xs.length <= i⟩
theorem jR {P : Program} {w : World} {K : PySem.W.Frag} {elts : List Expr} {x1 : Nat} {pos : Pos} (a it e : Addr) (l1 : a < it) (l2 : it < e) :
  Turn P w K (.Tuple elts x1 pos) (vd K a) [e,it] e (fun i h => (∃ old,IsEnum h e it (i : Int) old) /\ h.IsListIter it a i) where
 mem:=List.mem_cons_self
 obj:=fun i h st c hc => by
  obtain ⟨⟨old,he⟩,⟨o1,e1,_,d1⟩⟩:=st
  simp only [List.mem_cons,List.not_mem_nil,or_false] at hc
  rcases hc with rfl | rfl
  ·
   exact ⟨_,he,fun v z => by cases z⟩
  ·
   exact ⟨_,e1,fun v z => by rw [d1] at z; cases z⟩
 keep:=fun i h h' st k => by
  obtain ⟨⟨old,he⟩,h1⟩:=st
  exact ⟨⟨old,k e (by simp) _ he⟩,h1.at fun o q => k it (by simp) o q⟩
 item:=by
  intro X hP hw hK hc i pins s σ H E I hf st hg
  subst hP hw hK
  obtain ⟨xs,x,hq,hx⟩:=hg
  obtain ⟨its,rv,p,hz⟩:=I.list hq
  obtain ⟨u,hu,ru⟩:=rv.get hx
  obtain ⟨⟨old,he⟩,h1⟩:=st
  have hu' : its.toArray[i]? = some u:=by simpa using hu
  have hai : a ≠ it:=Nat.ne_of_lt l1
  have hei : e ≠ it:=Nat.ne_of_gt l2
  have hea : e ≠ a:=Nat.ne_of_gt (Nat.lt_trans l1 l2)
  have hef : e ∉ [it,a]:=by simp [hei,hea]
  have D:=Draws.list (prog:=X.prog) (w:=X.w) (A:=X.A.in1) (I.ok.hd hc) it a hai its.toArray
  refine wpAny_pyNext_enum_itemD (i:=i) D he ⟨h1,p.isList⟩ (Array.getElem?_eq_some_iff.mp hu').1 hei hef fun x' h' tk px ho hs' hT hsz kp => ?_
  have e1 : x' = u:=Option.some.inj (px.symm.trans hu')
  subst e1
  obtain ⟨hs1,hs2⟩:=hs'
  refine ⟨_,rfl,wpAny_letOwnedTupleGo_enum ho fun h2' hz2' sb => ?_⟩
  have kp2 : ∀ c o,c ∉ [e,it] -> s.heap.get? c = some o -> h2'.get? c = some o:=fun c o nc q => (sb.2 c fun z => nc (z ▸ List.mem_cons_self)).trans (kp c o (fun z => nc (z ▸ List.mem_cons_self)) (fun z => nc (by simp [z])) q)
  have lt : ∀ {c o},s.heap.get? c = some o -> s.heap.objs.size ≠ c:=fun q => Nat.ne_of_gt (Heap.lt_size q)
  have lt1 : ∀ {c : Addr},c ∈ [e,it] -> c ≠ s.heap.objs.size:=fun {c} hc => by
   simp only [List.mem_cons,List.not_mem_nil,or_false] at hc
   rcases hc with q | q <;> subst q
   ·
    exact Ne.symm (lt he)
   ·
    obtain ⟨o,q,_⟩:=h1; exact Ne.symm (lt q)
  have hTe : s.heap.objs.size ≠ e:=lt he
  have I1 : Inv X pins σ (upd H s.heap.objs.size (.tup [.int (i : Int),x])) { s with heap:=s.heap.push { cls:=.type "tuple",data:=.seq #[.int (i : Int) tk,x'] },toks:=tk + 1 } :=
   I.laid (t':=tk + 1) (fun b o q => Heap.get?_push_of_some _ q) (Nat.le_refl _) (show ObjOk X.prog X.w _ _ _ (.tup [.int (i : Int),x]) from ⟨by show 2 <= sizeLine; decide,[.int (i : Int) tk,x'],.cons ⟨tk,rfl⟩ (.cons ru .nil),Tup0.new _ _⟩)
  have I2 : Inv X pins σ (upd H s.heap.objs.size (.tup [.int (i : Int),x])) { s with heap:=h2',toks:=tk + 1 }:=kN (s:={ s with heap:=s.heap.push { cls:=.type "tuple",data:=.seq #[.int (i : Int) tk,x'] },toks:=tk + 1 }) (ch:=[e,it]) (t':=tk + 1) I1 (fun c o nc q => by
   by_cases z : c = s.heap.objs.size
   ·
    subst z
    have q' : (s.heap.push { cls:=.type "tuple",data:=.seq #[.int (i : Int) tk,x'] }).get? s.heap.objs.size = some o:=q
    rw [Heap.get?_push_size _ rfl] at q'
    cases q'
    exact (sb.2 _ hTe).trans hT
   ·
    have q' : (s.heap.push { cls:=.type "tuple",data:=.seq #[.int (i : Int) tk,x'] }).get? c = some o:=q
    rw [Heap.get?_push_ne _ _ _ z] at q'
    exact kp2 c o nc q') fun c hc => ⟨by rw [aq (lt1 hc)]; exact (hf c hc).1,(hf c hc).2⟩
  refine ⟨.ref s.heap.objs.size,_,I2,rfl,⟨s.heap.objs.size,x,rfl,I.hok.fresh (Nat.le_refl _),rfl,fun zs hq' => by rw [I.list_inj hq' hq]; exact hx⟩,⟨⟨x',?_⟩,hs1.at fun o q => (sb.2 it (Ne.symm hei)).trans q⟩,fun c hc => by rw [aq (lt1 hc)]; exact (hf c hc).1⟩
  exact hz2'
 done:=by
  intro X hP hw hK hc i pins s σ H E I hf st hg
  subst hP hw hK
  obtain ⟨xs,hq,hx⟩:=hg
  obtain ⟨its,rv,p,hz⟩:=I.list hq
  obtain ⟨⟨old,he⟩,h1⟩:=st
  have hl:=rv.length
  have hai : a ≠ it:=Nat.ne_of_lt l1
  have D:=qQ (prog:=X.prog) (w:=X.w) (A:=X.A.in1) (I.ok.hd hc) it a hai its.toArray i (by simp; omega)
  exact wpAny_pyNext_enum_endD D he ⟨rfl,h1,p.isList⟩ fun h' eb => ⟨rfl,kN (ch:=[e,it]) (t':=s.toks) I (fun b o nb q => eb b o (fun z => nb (by simp [z])) q) hf⟩
 self:=fun _ _ _ _ _ st h => wpAny_pyIter_enum st.1.choose_spec h
section
variable {X : Cx} {elts : List Expr} {x1 : Nat} {tpos pos p : Pos} {e : Expr}
def ve (K : PySem.W.Frag) (te : TE) : TI:=fun σ H R => te σ H fun x H1 => ∃ a,x = .ref a /\ (∃ xs,H1 a = some (.lst xs)) /\ R (vd K a) H1
theorem nG {te : TE} (hg : Gl X "enumerate") (hm : X.mg "enumerate" = none) (he : PE X e te)
  (hs : starEach [e] X.env = (false,eval e X.env) :: starEach [] X.env:=by rfl) (hpl : (backTo pos (starEach [] X.env)).any (·.1) = false:=by rfl) :
  PI X (.Tuple elts x1 tpos) (.Call (.Name "enumerate" p) [e] [] pos) (ve X.K te):=by
 intro pins s σ H R I h
 refine wpAny_Call_Name_kw (eC I hg hm gY ?_ (by decide) (by decide))
 refine PyProof.Rows.callWith_type1 ?_ hs hpl
 rw [hs]
 show wpAny _ _ (spliced ((false,eval e X.env) :: backTo pos (starEach [] X.env))) _ _ s
 refine Calls.spliced_cons (thn (he pins s σ H _ I h) fun u s2 ⟨x,H2,I2,r1,a,ea,⟨xs,hl⟩,q⟩ => ?_)
 subst ea
 cases r1
 refine Calls.spliced_nil ?_
 obtain ⟨hz,its,n,rv,ho⟩:=I2.hok a _ hl
 have la : a < s2.heap.objs.size:=Heap.lt_size ho
 refine call_enumerate_list ⟨_,ho,rfl,n,rfl⟩ fun h' hE hL l1 kp => wpAny_pyIter_enum hE ?_
 refine ⟨s2.heap.objs.size + 1,[s2.heap.objs.size + 1,s2.heap.objs.size],_,_,H2,rfl,I2.kept (t':=s2.toks) kp,jR a s2.heap.objs.size (s2.heap.objs.size + 1) la (Nat.lt_succ_self _),⟨⟨.none,hE⟩,hL⟩,fun c hc => ?_,q⟩
 have hc' : s2.heap.objs.size <= c:=by
  simp only [List.mem_cons,List.not_mem_nil,or_false] at hc
  rcases hc with z | z <;> subst z
  ·
   exact Nat.le_succ _
  ·
   exact Nat.le_refl _
 exact I2.fpOk hc' (I2.hok.fresh hc')
noncomputable def bT (k : Int) : List T -> List T
 | [] => []
 | x :: r => .tup [.int k,x] :: bT (k + 1) r
theorem fX : ∀ (k : Int) (xs : List T) (i : Nat),(bT k xs)[i]? = xs[i]?.map fun x => .tup [.int (k + i),x]
 | _,[],i => by simp [bT]
 | k,x :: xs,0 => by simp [bT]
 | k,x :: xs,i + 1 => by
  simp only [bT,List.getElem?_cons_succ]
  rw [fX (k + 1) xs i]
  have : k + 1 + (i : Int) = k + ((i + 1 : Nat) : Int):=by omega
  rw [this]
theorem fZ : ∀ (k : Int) (xs : List T),(bT k xs).length = xs.length
 | _,[] => rfl
 | k,x :: xs => by simp [bT,fZ (k + 1) xs]
def qR (o : Option O3) (a : Addr) (H : Hp3) (R : List T -> (Hp3 -> Prop) -> Hp3 -> Prop) : Prop:=match o with
 | some (.lst ts) => R (bT 0 ts) (bh a ts) H
 | _ => False
def vf (x : T) (H : Hp3) (R : List T -> (Hp3 -> Prop) -> Hp3 -> Prop) : Prop:=match x with
 | .ref a => qR (H a) a H R
 | _ => False
def kP (te : TE3) : TI3:=fun σ H R => te σ H fun x H1 => vf x H1 R
theorem nH (te : TE3) {σ : St3} {H : Hp3} {R : List T -> (Hp3 -> Prop) -> Hp3 -> Prop} : kP te σ H R = te σ H fun x H1 => vf x H1 R:=rfl
theorem vg (a : Addr) {H : Hp3} {R : List T -> (Hp3 -> Prop) -> Hp3 -> Prop} : vf (.ref a) H R = qR (H a) a H R:=rfl
theorem vh (ts : List T) (a : Addr) {H : Hp3} {R : List T -> (Hp3 -> Prop) -> Hp3 -> Prop} : qR (some (.lst ts)) a H R = R (bT 0 ts) (bh a ts) H:=rfl
theorem jS {K : PySem.W.Frag} {H : Hp} {a : Addr} {ts : List T} : fK K (vd K a) (bT 0 ts) (bh a ts) H:=fun H' H3' le sh st => by
 obtain ⟨xs,sq,rs⟩:=sh.sqL st
 have hl:=rs.length
 refine ⟨fun i hi => ⟨xs,sq,by rw [fZ] at hi; omega⟩,fun i t e => ?_⟩
 rw [fX] at e
 cases q : ts[i]? with
 | none => rw [q] at e; cases e
 | some x =>
  rw [q] at e
  cases e
  obtain ⟨v,ev,rv⟩:=rs.get q
  refine ⟨⟨xs,v,sq,ev⟩,fun z H'' y => ?_⟩
  obtain ⟨p,x',rfl,hp,rfl,q1⟩:=y
  have:=(q1 xs sq).symm.trans ev
  cases this
  refine ⟨ar hp,sh.new hp,?_⟩
  rw [show (0 : Int) + (i : Int) = (i : Int) from by omega]
  exact SimH.newTup (H3:=H3') hp (.cons .ofInt (.cons rv .nil))
theorem nI {te : TE3} (hg : Gl X "enumerate") (hm : X.mg "enumerate" = none) (he : PE3 X e te) (hs : starEach [e] X.env = (false,eval e X.env) :: starEach [] X.env:=by rfl) (hpl : (backTo pos (starEach [] X.env)).any (·.1) = false:=by rfl) :
  PI3 X (.Tuple elts x1 tpos) (.Call (.Name "enumerate" p) [e] [] pos) (kP te):=by
 refine PI.imp (nG hg hm he hs hpl) ?_
 rintro σ H R ⟨σ3,H3,R3,ss,sh,h,k⟩
 refine ⟨σ3,H3,_,ss,sh,h,fun v H' t H3' le sh' r q => ?_⟩
 cases t with
 | ref a =>
  have q' : qR (H3' a) a H3' R3:=q
  cases eo : H3' a with
  | none => rw [eo] at q'; exact q'.elim
  | some o =>
   rw [eo] at q'
   cases o with
   | lst ts =>
    obtain ⟨xs,hH,rs⟩:=sh' a _ eo
    exact ⟨a,r.ref,⟨xs,hH⟩,k _ _ (bh a ts) H' H3' le sh' jS q'⟩
   | rol ts => exact q'.elim
   | dct ts => exact q'.elim
   | dcp ts => exact q'.elim
   | exc _ _ => exact q'.elim
   | xdt _ => exact q'.elim
 | _ => exact q.elim
end
theorem nJ {X : Cx} : cC X (binaryOp .LShift) (rI3 jp fun i j => .int (i * 2 ^ j.toNat)):=m3 tZ fun _ _ _ => .ofInt
section
variable {X : Cx} {e st : Expr} {p2 pos : Pos}
end
noncomputable def zZ : T -> Option Key
 | .int i => some (.inl i)
 | .str x => some (.inr x)
 | _ => none
noncomputable def dj : List T -> Option (List Key)
 | [] => some []
 | t :: r => match zZ t,dj r with
  | some k,some ks => some (k :: ks)
  | _,_ => none
theorem dE {K : PySem.W.Frag} {H : Hp} : ∀ {ts : List T} {xs : List V} {ks : List Key},dj ts = some ks -> Reps K H ts xs -> xs = ks.map kV
 | [],xs,ks,e,r => by cases e; exact r.inv0
 | t :: ts,xs,ks,e,r => by
  obtain ⟨v,rest,rfl,rv,rr⟩:=r.inv
  unfold dj at e
  split at e
  ·
   rename_i k kr e1 e2
   cases e
   rw [dE e2 rr]
   cases t with
   | int i => cases e1; rw [rv.int]; rfl
   | str x => cases e1; rw [rv.str]; rfl
   | _ => cases e1
  ·
   cases e
noncomputable def bc (k : List Key) : List (List Key × T) -> Option T
 | [] => none
 | (k',v) :: r => if k' = k then some v else bc k r
noncomputable def c6 (k : List Key) (v : T) (kvs : List (List Key × T)) : List (List Key × T) :=
 if (kvs.any fun kv => decide (kv.1 = k)) = true then kvs.map (fun kv => if kv.1 = k then (kv.1,v) else kv) else kvs ++ [(k,v)]
theorem f6 {K : PySem.W.Frag} {H : Hp} {k : List Key} : ∀ {kvs : List (List Key × T)} {vs : List (List Key × V)} {t : T},RepP K H kvs vs -> bc k kvs = some t -> ∃ v,cV vs k = some v /\ Rep K H t v
 | [],_,_,_,e => by cases e
 | (k',t') :: r,_,t,.cons (b:=(kk,v')) ⟨e1,rv⟩ rr,e => by
  simp only at e1 rv
  subst e1
  unfold bc at e
  by_cases hk : kk = k
  ·
   rw [if_pos hk] at e
   cases e
   exact ⟨v',by rw [cn (by exact hk)],rv⟩
  ·
   rw [if_neg hk] at e
   obtain ⟨v,ev,q⟩:=f6 rr e
   exact ⟨v,by rw [cq (by exact hk)]; exact ev,q⟩
theorem nK {K : PySem.W.Frag} {H : Hp} {k : List Key} {t : T} {v : V} (rv : Rep K H t v) {kvs : List (List Key × T)} {vs : List (List Key × V)} (r : RepP K H kvs vs) : RepP K H (c6 k t kvs) (putK vs k v):=by
 have e : ∀ {kvs : List (List Key × T)} {vs : List (List Key × V)},RepP K H kvs vs -> (kvs.any fun kv => decide (kv.1 = k)) = (vs.any fun kv => decide (kv.1 = k)) /\ RepP K H (kvs.map (fun kv => if kv.1 = k then (kv.1,t) else kv)) (vs.map (fun kv => if kv.1 = k then (kv.1,v) else kv)):=by
  intro kvs
  induction kvs with
  | nil => intro vs r; cases r; exact ⟨rfl,.nil⟩
  | cons p l ih =>
   intro vs r
   cases r with
   | cons q rr =>
    rename_i b l2
    obtain ⟨e1,e2⟩:=ih rr
    obtain ⟨q1,q2⟩:=q
    obtain ⟨bk,bv⟩:=b
    simp only at q1 q2
    subst q1
    by_cases hk : p.1 = k
    ·
     refine ⟨by simp [hk],?_⟩
     simp only [List.map_cons,hk,if_true]
     exact .cons ⟨rfl,rv⟩ e2
    ·
     refine ⟨by simp only [List.any_cons,hk,decide_false,Bool.false_or]; exact e1,?_⟩
     simp only [List.map_cons,hk,if_false]
     exact .cons ⟨rfl,q2⟩ e2
 obtain ⟨e1,e2⟩:=e r
 unfold c6 putK
 rw [e1]
 split
 ·
  exact e2
 ·
  have app : ∀ {a : List (List Key × T)} {b : List (List Key × V)},RepP K H a b -> RepP K H (a ++ [(k,t)]) (b ++ [(k,v)]):=fun h => Paired.snoc h ⟨rfl,rv⟩
  exact app r
theorem SimH.wrP {K : PySem.W.Frag} {H : Hp} {H3 : Hp3} {a : Addr} {kv : List (List Key × V)} {kvs : List (List Key × T)} {kv' : List (List Key × V)} (s : SimH K H3 H) (hH : H a = some (.dT kv)) (r : RepP K H kvs kv') : SimH K (up3 H3 a (.dcp kvs)) (upd H a (.dT kv')):=fun b o e => by
 have le : TupLe K H (upd H a (.dT kv')):=bB (by rw [hH]; exact trivial)
 by_cases hb : b = a
 ·
  subst hb
  rw [ai] at e; cases e
  exact ⟨kv',aC,r.mono le⟩
 ·
  rw [aj hb] at e
  exact (s b o e).stay le fun u q => by rw [aq hb]; exact q
def qS (o : Option O3) (ts : List T) (H : Hp3) (Q : VK3) : Prop:=match o with
 | some (.dcp kvs) => oq (dj ts) fun ks => oq (bc ks kvs) fun t => Q t H
 | _ => False
def dgP (x : T) (ts : List T) (H : Hp3) (Q : VK3) : Prop:=match x with
 | .ref a => qS (H a) ts H Q
 | _ => False
def kQ (td : TE3) (ta : TA3) : TE3:=fun σ H Q => td σ H fun x H1 => ta σ H1 fun ts H2 => ts.length <= sizeLine /\ dgP x ts H2 Q
def qT (o : Option O3) (a : Addr) (ts : List T) (v : T) (H : Hp3) (Q : Hp3 -> Prop) : Prop:=match o with
 | some (.dcp kvs) => oq (dj ts) fun ks => kvs.length < sizeLine /\ Q (up3 H a (.dcp (c6 ks v kvs)))
 | _ => False
def dpP (x : T) (ts : List T) (v : T) (H : Hp3) (Q : Hp3 -> Prop) : Prop:=match x with
 | .ref a => qT (H a) a ts v H Q
 | _ => False
def kR (td : TE3) (ta : TA3) (tv : TE3) : TS3:=fun D σ H => tv σ H fun v H1 => td σ H1 fun x H2 => ta σ H2 fun ts H3 => ts.length <= sizeLine /\ dpP x ts v H3 fun H4 => D.nx σ H4
section
variable {H : Hp3} {Q : VK3} {σ : St3}
theorem yy (a : Addr) (ts : List T) : dgP (.ref a) ts H Q = qS (H a) ts H Q:=rfl
theorem vi (kvs : List (List Key × T)) (x y : Str) : qS (some (.dcp kvs)) [.str x,.str y] H Q = oq (bc [Sum.inr x,Sum.inr y] kvs) fun t => Q t H:=rfl
theorem yz (a : Addr) (ts : List T) (v : T) (Q : Hp3 -> Prop) : dpP (.ref a) ts v H Q = qT (H a) a ts v H Q:=rfl
theorem vj (kvs : List (List Key × T)) (a : Addr) (x y : Str) (v : T) (Q : Hp3 -> Prop) : qT (some (.dcp kvs)) a [.str x,.str y] v H Q = (kvs.length < sizeLine /\ Q (up3 H a (.dcp (c6 [Sum.inr x,Sum.inr y] v kvs)))):=rfl
end
section
variable {X : Cx} {o i k value : Expr} {es : List Expr} {td ti tk tv : TE3} {ta : TA3} {pos pos' p2 : Pos} {x1 : Nat}
theorem bY (hu : X.A.units + 1 < cLine) (ho : PE3 X o td) (ha : PA3 X es ta) (hs : qj (.Tuple es x1 p2):=by exact fun _ _ => rfl) : PE3 X (.Subscript o (.Tuple es x1 p2) pos) (kQ td ta):=by
 refine PE.imp (kz hu ho (js ha) hs) ?_
 rintro σ H Q ⟨σ3,H3,Q3,ss,sh,h,k⟩
 refine ⟨σ3,H3,_,ss,sh,h,fun x H1 tx H31 le1 sh1 rx q1 => ⟨σ3,H31,_,ss.mono le1,sh1,q1,fun vs H2 ts H32 le2 sh2 rs q2 => ⟨by rw [<- rs.length]; exact q2.1,fun p hp => ?_⟩⟩⟩
 replace q2:=q2.2
 cases tx with
 | ref a =>
  have h' : qS (H32 a) ts H32 Q3:=q2
  cases e : H32 a with
  | none => rw [e] at h'; exact h'.elim
  | some ob =>
   rw [e] at h'
   cases ob with
   | dcp kvs =>
    obtain ⟨ws,hH,r⟩:=sh2 a _ e
    have h2 : oq (dj ts) (fun ks => oq (bc ks kvs) fun t => Q3 t H32):=h'
    cases ek : dj ts with
    | none => rw [ek] at h2; exact h2.elim
    | some ks =>
     rw [ek] at h2
     have h3 : oq (bc ks kvs) (fun t => Q3 t H32):=h2
     cases el : bc ks kvs with
     | none => rw [el] at h3; exact h3.elim
     | some t =>
      rw [el] at h3
      obtain ⟨v,ev,rv⟩:=f6 r el
      have hv:=dE ek rs
      refine ⟨a,v,(rx.mono le2).ref,?_,k.at (le1.trans le2) _ _ _ _ (ar hp) (sh2.new hp) (rv.mono (ar hp)) h3⟩
      rw [<- ev]
      exact DGet.t (by rw [aq (aN hH hp)]; exact hH) (by rw [aC,hv])
   | _ => exact h'.elim
 | _ => exact q2.elim
theorem dk (hu : X.A.units + 1 < cLine) (ho : PE3 X o td) (ha : PA3 X es ta) (hv : PE3 X value tv) (hs : swapsWith value (some (.Subscript o (.Tuple es x1 p2) pos')) pos.line X.env = pure false:=by rfl) :
  PS3 X (.Assign [.Subscript o (.Tuple es x1 p2) pos'] value pos) (kR td ta tv):=by
 refine PS.imp (kA hu ho (js ha) hv hs) ?_
 rintro D σ H ⟨σ3,H3,D3,ss,sh,h,k1,_⟩
 refine ⟨σ3,H3,_,ss,sh,h,fun v H1 tv H31 le1 sh1 rv q1 => ⟨σ3,H31,_,ss.mono le1,sh1,q1,fun x H2 tx H32 le2 sh2 rx q2 => ⟨σ3,H32,_,ss.mono (le1.trans le2),sh2,q2,fun vs H4 ts H34 le4 sh4 rs q4 => ⟨by rw [<- rs.length]; exact q4.1,fun p hp => ?_⟩⟩⟩⟩
 replace q4:=q4.2
 cases tx with
 | ref a =>
  have h' : qT (H34 a) a ts tv H34 (fun H4 => D3.nx σ3 H4):=q4
  cases e : H34 a with
  | none => rw [e] at h'; exact h'.elim
  | some ob =>
   rw [e] at h'
   cases ob with
   | dcp kvs =>
    obtain ⟨ws,hH,r⟩:=sh4 a _ e
    have h2 : oq (dj ts) (fun ks => kvs.length < sizeLine /\ D3.nx σ3 (up3 H34 a (.dcp (c6 ks tv kvs)))):=h'
    cases ek : dj ts with
    | none => rw [ek] at h2; exact h2.elim
    | some ks =>
     rw [ek] at h2
     have hvv:=dE ek rs
     have le5 : TupLe X.K H4 (upd H4 p (.tup vs)):=ar hp
     have hH' : upd H4 p (.tup vs) a = some (.dT ws):=by rw [aq (aN hH hp)]; exact hH
     have le6 : TupLe X.K (upd H4 p (.tup vs)) (upd (upd H4 p (.tup vs)) a (.dT (putK ws ks v))):=bB (by rw [hH']; exact trivial)
     have all : TupLe X.K H (upd (upd H4 p (.tup vs)) a (.dT (putK ws ks v))):=le1.trans (le2.trans (le4.trans (le5.trans le6)))
     refine ⟨a,_,(rx.mono le4).ref,?_,k1 _ _ _ _ all (ss.mono all) ((sh4.new hp).wrP hH' (nK (rv.mono (le2.trans (le4.trans le5))) (r.mono le5))) h2.2⟩
     exact DPut.t hH' (by rw [aC,hvv]) (by rw [<- Paired.length r]; exact h2.1)
   | _ => exact h'.elim
 | _ => exact q4.elim
def nL : TE3:=fun _ H Q => ∀ p,H p = none -> Q (.ref p) (up3 H p (.dct []))
def kS : TE3:=fun _ H Q => ∀ p,H p = none -> Q (.ref p) (up3 H p (.dcp []))
theorem SimH.newD {K : PySem.W.Frag} {H : Hp} {H3 : Hp3} {p : Addr} (s : SimH K H3 H) (hp : H p = none) : SimH K (up3 H3 p (.dct [])) (upd H p (.dK [])):=fun a o e => by
 by_cases ha : a = p
 ·
  subst ha
  rw [ai] at e; cases e
  exact ⟨[],aC,.nil⟩
 ·
  rw [aj ha] at e
  exact s.new hp a o e
theorem SimH.newP {K : PySem.W.Frag} {H : Hp} {H3 : Hp3} {p : Addr} (s : SimH K H3 H) (hp : H p = none) : SimH K (up3 H3 p (.dcp [])) (upd H p (.dT [])):=fun a o e => by
 by_cases ha : a = p
 ·
  subst ha
  rw [ai] at e; cases e
  exact ⟨[],aC,.nil⟩
 ·
  rw [aj ha] at e
  exact s.new hp a o e
theorem kT : PE3 X (.Dict [] [] pos) nL:=by
 refine PE.imp mF ?_
 rintro σ H Q ⟨σ3,H3,Q3,ss,sh,h,k⟩ p hp
 exact k _ _ _ _ (ar hp) (sh.newD hp) .ofRef (h p (sh.fresh hp))
theorem nM : PE3 X (.Dict [] [] pos) kS:=by
 refine PE.imp mG ?_
 rintro σ H Q ⟨σ3,H3,Q3,ss,sh,h,k⟩ p hp
 exact k _ _ _ _ (ar hp) (sh.newP hp) .ofRef (h p (sh.fresh hp))
def d1q (y : T) (p : Addr) (v : T) (H : Hp3) (Q : VK3) : Prop:=match y with
 | .str k => H p = some (.dct []) /\ Q (.ref p) (up3 H p (.dct [(k,v)]))
 | _ => False
def nO (tk tv : TE3) : TE3:=fun σ H Q => ∀ p,H p = none -> tk σ (up3 H p (.dct [])) fun y H1 => tv σ H1 fun v H2 => d1q y p v H2 Q
theorem yA (x : Str) (p : Addr) (v : T) {H : Hp3} {Q : VK3} : d1q (.str x) p v H Q = (H p = some (.dct []) /\ Q (.ref p) (up3 H p (.dct [(x,v)]))):=rfl
theorem nP {v : Expr} (hk : PE3 X k tk) (hv : PE3 X v tv) : PE3 X (.Dict [some k] [v] pos) (nO tk tv):=by
 refine PE.imp (qo (mH hk hv qm) rfl rfl (by simp) (by show 1 <= 15; decide)) ?_
 rintro σ H Q ⟨σ3,H3,Q3,ss,sh,h,k⟩ p hp
 have le0 : TupLe X.K H (upd H p (.dK [])):=ar hp
 refine ⟨σ3,up3 H3 p (.dct []),_,ss.mono le0,sh.newD hp,h p (sh.fresh hp),fun y H1 ty H31 le1 sh1 ry q1 => ?_⟩
 refine ⟨σ3,H31,_,ss.mono (le0.trans le1),sh1,q1,fun z H2 tz H32 le2 sh2 rz q2 => ?_⟩
 cases ty with
 | str key =>
  have h' : H32 p = some (.dct []) /\ Q3 (.ref p) (up3 H32 p (.dct [(key,tz)])):=q2
  obtain ⟨ws,hH,r⟩:=sh2 p _ h'.1
  cases r
  refine ⟨hH,[(Sum.inr key,z)],by rw [(ry.mono le2).str]; rfl,by show 1 <= 15; decide,?_⟩
  have e : dB [] [((Sum.inr key : Key),z)] = [((Sum.inr key : Key),z)]:=rfl
  rw [e]
  exact k _ _ _ _ (le0.trans (le1.trans (le2.trans (bB (by rw [hH]; exact trivial))))) (sh2.wrD hH (.cons ⟨rfl,rz⟩ .nil)) .ofRef h'.2
 | _ => exact q2.elim
def diH (neg : Bool) (y : T) (o : Option O3) (H : Hp3) (Q : VK3) : Prop:=match y,o with
 | .str k,some (.dct kvs) => Q (.bl (if neg then !(av k kvs).isSome else (av k kvs).isSome)) H
 | _,_ => False
def diq (neg : Bool) (y x : T) (H : Hp3) (Q : VK3) : Prop:=match x with
 | .ref a => diH neg y (H a) H Q
 | _ => False
def nQ (neg : Bool) (ti to : TE3) : TE3:=fun σ H Q => ti σ H fun y H1 => to σ H1 fun x H2 => diq neg y x H2 Q
theorem yB (neg : Bool) (y : T) (a : Addr) {H : Hp3} {Q : VK3} : diq neg y (.ref a) H Q = diH neg y (H a) H Q:=rfl
theorem yC (neg : Bool) (k : Str) (kvs : List (Str × T)) {H : Hp3} {Q : VK3} : diH neg (.str k) (some (.dct kvs)) H Q = Q (.bl (if neg then !(av k kvs).isSome else (av k kvs).isSome)) H:=rfl
theorem f7 {K : PySem.W.Frag} {H : Hp} {k : Str} : ∀ {kvs : List (Str × T)} {vs : List (Key × V)},RepD K H kvs vs -> (cV vs (Sum.inr k : Key)).isSome = (av k kvs).isSome
 | [],_,.nil => rfl
 | (k',t') :: r,_,.cons (b:=(kk,v')) ⟨e1,rv⟩ rr => by
  simp only at e1 rv
  subst e1
  unfold av
  by_cases hk : k' = k
  ·
   rw [if_pos hk,cn (by rw [hk])]; rfl
  ·
   rw [if_neg hk,cq (by intro z; exact hk (Sum.inr.inj z))]
   exact f7 rr
theorem kU {neg : Bool} {H : Hp} {H3 : Hp3} {x y : V} {tx ty : T} {Q3 : VK3} (sh : SimH X.K H3 H) (rx : Rep X.K H tx x) (ry : Rep X.K H ty y) (q : diq neg ty tx H3 Q3) :
  ∃ a ov b,x = .ref a /\ DGet H a y ov /\ (if neg then !ov.isSome else ov.isSome) = b /\ Q3 (.bl b) H3:=by
 cases tx with
 | ref a =>
  have h' : diH neg ty (H3 a) H3 Q3:=q
  cases ty with
  | str k =>
   cases e : H3 a with
   | none => rw [e] at h'; exact h'.elim
   | some ob =>
    rw [e] at h'
    cases ob with
    | dct kvs =>
     obtain ⟨ws,hH,r⟩:=sh a _ e
     refine ⟨a,cV ws (Sum.inr k : Key),_,rx.ref,by rw [ry.str]; exact DGet.k (k:=Sum.inr k) hH,rfl,?_⟩
     rw [f7 r]
     exact h'
    | _ => exact h'.elim
  | _ => exact h'.elim
 | _ => exact q.elim
theorem gZ (hu : X.A.units + 1 < cLine) (hi : PE3 X i ti) (ho : PE3 X o td) (hm : behindInMarks .In o = false:=by rfl) : PT3 X (.Compare i [.In] [o] pos) (cD (nQ false ti td)):=by
 refine PT.imp (mj (ub hu hi ho) hm) ?_
 rintro σ H Q ⟨σ3,H3,Q3,ss,sh,h,k⟩
 refine ⟨σ3,H3,_,ss,sh,h,fun y H1 ty H31 le1 sh1 ry q1 => ⟨σ3,H31,_,ss.mono le1,sh1,q1,fun x H2 tx H32 le2 sh2 rx q2 => ?_⟩⟩
 obtain ⟨a,ov,b,e,g,eb,q⟩:=kU sh2 rx (ry.mono le2) q2
 exact ⟨a,ov,e,g,b,by rw [show ov.isSome = b from eb],k _ _ _ (le1.trans le2) sh2 q⟩
theorem lO (hu : X.A.units + 1 < cLine) (hi : PE3 X i ti) (ho : PE3 X o td) (hm : behindInMarks .NotIn o = false:=by rfl) : PT3 X (.Compare i [.NotIn] [o] pos) (cD (nQ true ti td)):=by
 refine PT.imp (mj (lH hu hi ho) hm) ?_
 rintro σ H Q ⟨σ3,H3,Q3,ss,sh,h,k⟩
 refine ⟨σ3,H3,_,ss,sh,h,fun y H1 ty H31 le1 sh1 ry q1 => ⟨σ3,H31,_,ss.mono le1,sh1,q1,fun x H2 tx H32 le2 sh2 rx q2 => ?_⟩⟩
 obtain ⟨a,ov,b,e,g,eb,q⟩:=kU sh2 rx (ry.mono le2) q2
 exact ⟨a,ov,e,g,b,by rw [show (!ov.isSome) = b from eb],k _ _ _ (le1.trans le2) sh2 q⟩
end
def lP (x : T) (H : Hp3) (R : List T -> (Hp3 -> Prop) -> Hp3 -> Prop) : Prop:=match x with
 | .tup ts => R ts bg H
 | .ref a => liO (H a) a H R
 | _ => False
theorem vk (ts : List T) {H : Hp3} {R : List T -> (Hp3 -> Prop) -> Hp3 -> Prop} : lP (.tup ts) H R = R ts bg H:=rfl
theorem vm (a : Addr) {H : Hp3} {R : List T -> (Hp3 -> Prop) -> Hp3 -> Prop} : lP (.ref a) H R = liO (H a) a H R:=rfl
def nR (i : Nat) : TI3:=fun σ H R => vq (σ[i]?) fun x => lP x H R
theorem qU (i : Nat) {σ : St3} {H : Hp3} {R : List T -> (Hp3 -> Prop) -> Hp3 -> Prop} : nR i σ H R = vq (σ[i]?) fun x => lP x H R:=rfl
theorem qV {X : Cx} {tg : Expr} (i : Nat) {x : Str} {pos : Pos} (hN : X.N[i]? = some x:=by rfl) (hv : Vis X.env.scope x:=by first | exact Or.inl rfl | exact Or.inr (Or.inl rfl) | exact Or.inr (Or.inr rfl)) (hd : (x == ("__debug__" : Str)) = false:=by decide)
  (hcd : (x == ("__classdict__" : Str)) = false:=by decide) : PI3 X tg (.Name x pos) (nR i):=by
 intro pins s σ H R I q
 obtain ⟨σ3,H3,R3,ss,sh,h,k⟩:=q
 have h' : vq (σ3[i]?) fun x => lP x H3 R3:=h
 cases e : σ3[i]? with
 | none => rw [e] at h'; exact h'.elim
 | some o =>
  cases o with
  | none => rw [e] at h'; exact h'.elim
  | some t =>
   rw [e] at h'
   cases t with
   | tup ts => exact bn (v3 i hN hv hd hcd) pins s σ H R I ⟨σ3,H3,R3,ss,sh,by show aJ i σ3 H3 _; rw [eT,e]; exact h',k⟩
   | ref a => exact bo (v3 i hN hv hd hcd) pins s σ H R I ⟨σ3,H3,R3,ss,sh,by show aJ i σ3 H3 _; rw [eT,e]; exact h',k⟩
   | _ => exact h'.elim
theorem f9 (k j : List Key) (v : T) : ∀ kvs : List (List Key × T),bc j (c6 k v kvs) = if k = j then some v else bc j kvs:=by
 intro kvs
 have a1 : ∀ kvs : List (List Key × T),(kvs.any fun kv => decide (kv.1 = k)) = false -> bc j (kvs ++ [(k,v)]) = if k = j then some v else bc j kvs:=by
  intro kvs
  induction kvs with
  | nil => intro _; rfl
  | cons p r ih =>
   obtain ⟨pk,pv⟩:=p
   intro h
   simp only [List.any_cons,Bool.or_eq_false_iff,decide_eq_false_iff_not] at h
   simp only [List.cons_append,bc,ih h.2]
   by_cases e : pk = j
   ·
    have : ¬ k = j:=fun z => h.1 (e.trans z.symm)
    simp only [e,this,if_true,if_false]
   ·
    simp only [e,if_false]
 have a2 : ∀ kvs : List (List Key × T),bc j (kvs.map (fun kv => if kv.1 = k then (kv.1,v) else kv)) = if k = j then (bc j kvs).map (fun _ => v) else bc j kvs:=by
  intro kvs
  induction kvs with
  | nil => simp only [List.map_nil,bc,Option.map_none,ite_self]
  | cons p r ih =>
   obtain ⟨pk,pv⟩:=p
   by_cases e : pk = k
   ·
    subst e
    simp only [List.map_cons,if_true,bc,ih]
    by_cases e2 : pk = j
    ·
     simp only [e2,if_true,Option.map_some]
    ·
     simp only [e2,if_false]
   ·
    simp only [List.map_cons,e,if_false,bc,ih]
    by_cases e2 : pk = j
    ·
     have : ¬ k = j:=fun z => e (e2.trans z.symm)
     simp only [e2,this,if_true,if_false]
    ·
     simp only [e2,if_false]
 have a3 : ∀ kvs : List (List Key × T),(kvs.any fun kv => decide (kv.1 = k)) = true -> ∃ w,bc k kvs = some w:=by
  intro kvs
  induction kvs with
  | nil => intro h; cases h
  | cons p r ih =>
   obtain ⟨pk,pv⟩:=p
   intro h
   by_cases e : pk = k
   ·
    exact ⟨pv,by simp only [bc,e,if_true]⟩
   ·
    simp only [List.any_cons,e,decide_false,Bool.false_or] at h
    obtain ⟨w,hw⟩:=ih h
    exact ⟨w,by simp only [bc,e,if_false]; exact hw⟩
 unfold c6
 split
 ·
  rename_i h
  rw [a2]
  by_cases e : k = j
  ·
   subst e
   obtain ⟨w,hw⟩:=a3 kvs h
   simp only [if_true,hw,Option.map_some]
  ·
   simp only [e,if_false]
 ·
  rename_i h
  exact a1 kvs ((Bool.not_eq_true _).mp h)
theorem nS (k : List Key) (v : T) (kvs : List (List Key × T)) : (c6 k v kvs).length <= kvs.length + 1:=by
 unfold c6
 split
 ·
  rw [List.length_map]; omega
 ·
  rw [List.length_append,List.length_singleton]; omega
theorem lQ (k : List Key) (v : T) (kvs : List (List Key × T)) {w : T} (h : bc k kvs = some w) : (c6 k v kvs).length = kvs.length:=by
 have a3 : ∀ kvs : List (List Key × T),bc k kvs = some w -> (kvs.any fun kv => decide (kv.1 = k)) = true:=by
  intro kvs
  induction kvs with
  | nil => intro h; cases h
  | cons p r ih =>
   obtain ⟨pk,pv⟩:=p
   intro h
   by_cases e : pk = k
   ·
    simp only [List.any_cons,e,decide_true,Bool.true_or]
   ·
    simp only [bc,e,if_false] at h
    simp only [List.any_cons,ih h,Bool.or_true]
 unfold c6
 rw [a3 kvs h,if_pos rfl,List.length_map]
theorem aS {α : Type} (enc : α -> T) (xs : List α) {g : TG3} {tb : TS3} {D : Ends3} {still : Hp3 -> Prop} {σ : St3} {H : Hp3} (I : List α -> St3 -> Hp3 -> Prop) (h0 : I [] σ H) (hn : ∀ σ H,I xs σ H -> still H /\ D.nx σ H)
  (hs : ∀ A x B σ H (N : St3 -> Hp3 -> Prop),xs = A ++ x :: B -> I A σ H -> (∀ σ' H',I (A ++ [x]) σ' H' -> N σ' H') -> still H /\ g (enc x) σ H fun σ2 H2 => tb { D with nx:=N,ct:=N,bk:=D.nx } σ2 H2) : iter3 g tb D still (xs.map enc) σ H:=by
 have : ∀ (B A : List α) (σ : St3) (H : Hp3),xs = A ++ B -> I A σ H -> iter3 g tb D still (B.map enc) σ H:=by
  intro B
  induction B with
  | nil => intro A σ H e h; rw [List.append_nil] at e; subst e; exact hn σ H h
  | cons x B ih =>
   intro A σ H e h
   exact hs A x B σ H (iter3 g tb D still (B.map enc)) e h fun σ' H' h' => ih (A ++ [x]) σ' H' (by rw [e]; simp) h'
 exact this xs [] σ H rfl h0
theorem gb {α : Type} (enc : α -> T) (xs : List α) {g : TG3} {tt : TT3} {te : TE3} {still : Hp3 -> Prop} {fin : List T -> Hp3 -> Prop} {σ : St3} {H : Hp3} (I : List α -> List T -> St3 -> Hp3 -> Prop) (h0 : I [] [] σ H) (hn : ∀ ys σ H,I xs ys σ H -> still H /\ ys.length <= sizeLine /\ fin ys H)
  (hs : ∀ A x B ys σ H (N : List T -> St3 -> Hp3 -> Prop),xs = A ++ x :: B -> I A ys σ H -> (∀ ys' σ' H',I (A ++ [x]) ys' σ' H' -> N ys' σ' H') ->
   still H /\ g (enc x) σ H fun σ2 H2 => tt σ2 H2 fun b H3 => if b = true then te σ2 H3 fun y H4 => ys.length < sizeLine /\ N (ys ++ [y]) σ2 H4 else N ys σ2 H3) : cIter3 g tt te still fin (xs.map enc) [] σ H:=by
 have : ∀ (B A : List α) (ys : List T) (σ : St3) (H : Hp3),xs = A ++ B -> I A ys σ H -> cIter3 g tt te still fin (B.map enc) ys σ H:=by
  intro B
  induction B with
  | nil => intro A ys σ H e h; rw [List.append_nil] at e; subst e; exact hn ys σ H h
  | cons x B ih =>
   intro A ys σ H e h
   exact hs A x B ys σ H (cIter3 g tt te still fin (B.map enc)) e h fun ys' σ' H' h' => ih (A ++ [x]) ys' σ' H' (by rw [e]; simp) h'
 exact this xs [] [] σ H rfl h0
section
variable {X : Cx}
theorem lR {P : Program} {w : World} {kvs : List (Key × V)} {vs : List (Key × Value)} (r : KV kvs vs) : ∀ (us : List Value),us.length = vs.length -> (∀ (j : Nat) (v : Value),us[j]? = some v -> ∃ k x,vs[j]? = some (k,x) /\ (a4 P w).is k v = true) -> Vals (kvs.map fun q => kV q.1) us:=by
 induction r with
 | nil => intro us h _; rw [List.eq_nil_of_length_eq_zero h]; exact .nil
 | cons h1 h2 ih =>
  intro us hl hus
  cases us with
  | nil => cases hl
  | cons u us =>
   refine .cons ?_ (ih us (Nat.succ.inj hl) fun j v e => hus (j + 1) v e)
   obtain ⟨k,x,e,hk⟩:=hus 0 u rfl
   cases e
   obtain ⟨hq,_⟩:=h1
   dsimp only at hq ⊢
   rw [hq]
   rcases aV hk with ⟨i,t,e1,e2⟩ | ⟨y,t,e1,e2⟩
   ·
    rw [e1,e2]; exact ⟨t,rfl⟩
   ·
    rw [e1,e2]; exact ⟨t,rfl⟩
theorem jT {k : Nat} (hr : Room k X.A) : CallR X (.type "list") (fun xs H Q => ∃ a kvs,xs = [V.ref a] /\ H a = some (.dK kvs) /\ ∀ l,H l = none -> Q (.ref l) (upd H l (.lst (kvs.map fun q => kV q.1)))):=by
 intro pins s σ H xs us Q I r h
 obtain ⟨a,kvs,rfl,ha,q⟩:=h
 obtain ⟨u,rfl,ru⟩:=vals1 r
 cases ru
 obtain ⟨z,hd,vs,rel,dd⟩:=mC I.hok ha
 obtain ⟨o,es,ep,h1,h2,h3,h4,h5,h6⟩:=dd
 have hl:=rel.length
 refine PySem.W.kdl_call (PySem.W.kdl_dict (knd:=a4 X.prog X.w) (kvs:=vs) (ep:=ep) hd) ?_ ⟨o,es,h1,h2,h3,h4,h5,h6⟩ (by omega) fun h' tk acc c kp e hacc => ?_
 ·
  exact hr.hd
 ·
  have r2:=lR (P:=X.prog) (w:=X.w) rel acc.toList (by rw [Array.length_toList]; exact hacc.1) fun j v e => hacc.2 j v (by rw [<- Array.getElem?_toList]; exact e)
  exact ⟨.ref s.heap.objs.size,_,I.laid (t':=tk) kp (Nat.le_refl _) (show ObjOk X.prog X.w _ h' _ (.lst _) from ⟨by rw [List.length_map]; exact z,acc.toList,c,r2,by rw [Array.toArray_toList]; exact e⟩),rfl,q _ (I.hok.fresh (Nat.le_refl _))⟩
def nU : List T -> Hp3 -> VK3 -> Prop:=fun ts H Q => match ts with
 | [.ref a] => match H a with
  | some (.dct kvs) => Q (.int kvs.length) H
  | _ => False
 | _ => False
theorem qW : bI X (.builtin "len") nU:=by
 refine CallR.imp lK ?_
 rintro xs H Q ⟨ts,H3,Q3,r,sh,h,k⟩
 match ts,h,r with
 | [.ref a],h,r =>
  obtain ⟨v,rfl,rv⟩:=r.one'
  have h' : (match H3 a with
   | some (.dct kvs) => Q3 (.int kvs.length) H3
   | _ => False):=h
  split at h'
  ·
   rename_i kvs e
   obtain ⟨vs,e2,rd⟩:=sh a _ e
   exact ⟨a,vs,by rw [rv.ref],e2,by rw [<- Paired.length rd]; exact k _ _ _ _ .refl sh .ofInt h'⟩
  ·
   exact h'.elim
def kW : List T -> Hp3 -> VK3 -> Prop:=fun ts H Q => match ts with
 | [.ref a] => match H a with
  | some (.dct kvs) => ∀ p,H p = none -> Q (.ref p) (up3 H p (.lst (kvs.map fun q => .str q.1)))
  | _ => False
 | _ => False
theorem lS {K : PySem.W.Frag} {H : Hp} {kvs : List (Str × T)} {vs : List (Key × V)} (r : RepD K H kvs vs) : Reps K H (kvs.map fun q => T.str q.1) (vs.map fun q => kV q.1):=by
 induction r with
 | nil => exact .nil
 | cons h _ ih =>
  refine .cons ?_ ih
  dsimp only
  rw [h.1]
  exact .ofStr
theorem nV {k : Nat} (hr : Room k X.A) : bI X (.type "list") kW:=by
 refine CallR.imp (jT hr) ?_
 rintro xs H Q ⟨ts,H3,Q3,r,sh,h,k⟩
 match ts,h,r with
 | [.ref a],h,r =>
  obtain ⟨v,rfl,rv⟩:=r.one'
  have h' : (match H3 a with
   | some (.dct kvs) => ∀ p,H3 p = none -> Q3 (.ref p) (up3 H3 p (.lst (kvs.map fun q => .str q.1)))
   | _ => False):=h
  split at h'
  ·
   rename_i kvs e
   obtain ⟨vs,e2,rd⟩:=sh a _ e
   exact ⟨a,vs,by rw [rv.ref],e2,fun l hl => k _ _ _ _ (ar hl) (sh.newLst hl (lS rd)) .ofRef (h' l (sh.fresh hl))⟩
  ·
   exact h'.elim
def lnD (o : Option O3) (H : Hp3) (Q : VK3) : Prop:=match o with
 | some (.dct kvs) => Q (.int kvs.length) H
 | _ => False
def lsD (o : Option O3) (H : Hp3) (Q : VK3) : Prop:=match o with
 | some (.dct kvs) => ∀ p,H p = none -> Q (.ref p) (up3 H p (.lst (kvs.map fun q => .str q.1)))
 | _ => False
theorem vn (a : Addr) (H : Hp3) (Q : VK3) : nU [.ref a] H Q = lnD (H a) H Q:=rfl
theorem yD (kvs : List (Str × T)) (H : Hp3) (Q : VK3) : lnD (some (.dct kvs)) H Q = Q (.int kvs.length) H:=rfl
theorem qX (a : Addr) (H : Hp3) (Q : VK3) : kW [.ref a] H Q = lsD (H a) H Q:=rfl
theorem yE (kvs : List (Str × T)) (H : Hp3) (Q : VK3) : lsD (some (.dct kvs)) H Q = (∀ p,H p = none -> Q (.ref p) (up3 H p (.lst (kvs.map fun q => .str q.1)))):=rfl
end
section
variable {X : Cx} {pins : List (Addr × Obj)} {σ : L2.St} {H : Hp} {s : Shared}
theorem g7 {c : Nat} : ∀ {xs : List Nat},(∀ x ∈ xs,x <= c) -> xs.sum <= xs.length * c
 | [],_ => by simp
 | x :: xs,h => by
  have a:=h x List.mem_cons_self
  have b:=g7 (xs:=xs) fun y hy => h y (List.mem_cons_of_mem _ hy)
  simp only [List.sum_cons,List.length_cons,Nat.succ_mul]
  omega
end
section
variable {X : Cx}
end
section
variable {prog : Program} {w : World} {A : Around} {E : Value -> Shared -> Prop} {s : Shared}
end
section
variable {X : Cx} {tg e : Expr} {p p1 p2 pos pos' : Pos}
variable {o : Expr} {to : TE3} {name : Str} {apos cpos : Pos} {m : T -> List T -> Hp3 -> VK3 -> Prop} {Ty id : String}
end
section
variable {X : Cx}
def vo (o : Option O3) (a : Addr) (i : Int) (t : T) (H : Hp3) (Q : VK3) : Prop:=match o with
 | some (.lst xs) => (0 <= i /\ i <= xs.length /\ xs.length < sizeLine) /\ Q .non (up3 H a (.lst (xs.take i.toNat ++ t :: xs.drop i.toNat)))
 | _ => False
def yF : T -> List T -> Hp3 -> VK3 -> Prop:=fun x ts H Q => match x,ts with
 | .ref a,[.int i,t] => vo (H a) a i t H Q
 | _,_ => False
theorem yG (a : Addr) (i : Int) (t : T) (H : Hp3) (Q : VK3) : yF (.ref a) [.int i,t] H Q = vo (H a) a i t H Q:=rfl
theorem vp (xs : List T) (a : Addr) (i : Int) (t : T) (H : Hp3) (Q : VK3) : vo (some (.lst xs)) a i t H Q = ((0 <= i /\ i <= xs.length /\ xs.length < sizeLine) /\ Q .non (up3 H a (.lst (xs.take i.toNat ++ t :: xs.drop i.toNat)))):=rfl
def mxH (o : Option O3) (H : Hp3) (Q : VK3) : Prop:=match o with
 | some (.lst xs) => oq (ints3 xs) fun ns => ns ≠ [] /\ ∀ M,M ∈ ns -> (∀ a ∈ ns,a <= M) -> Q (.int M) H
 | _ => False
def vt : List T -> Hp3 -> VK3 -> Prop:=fun ts H Q => match ts with
 | [.ref a] => mxH (H a) H Q
 | _ => False
theorem vv (a : Addr) (H : Hp3) (Q : VK3) : vt [.ref a] H Q = mxH (H a) H Q:=rfl
theorem yH (xs : List T) (H : Hp3) (Q : VK3) : mxH (some (.lst xs)) H Q = oq (ints3 xs) fun ns => ns ≠ [] /\ ∀ M,M ∈ ns -> (∀ a ∈ ns,a <= M) -> Q (.int M) H:=rfl
noncomputable def isS (z : Str) : Value -> Bool
 | .str x _ => x == z
 | _ => false
theorem nW {us : List Value} {ns : List Str} (h : StrsAre us ns) : ∀ y ∈ us,∃ x t,y = Value.str x t:=by
 induction h with
 | nil => exact fun _ h => nomatch h
 | cons r t q ih =>
  intro y hy
  rcases List.mem_cons.mp hy with rfl | hy
  ·
   exact ⟨_,_,rfl⟩
  ·
   exact ih y hy
def yI : T -> List T -> Hp3 -> VK3 -> Prop:=fun x ts H Q => match x,ts with
 | .tup xs,[.str z] => oq (aQ xs) fun ns => Q (.int (ns.countP (· == z))) H
 | _,_ => False
theorem yJ (Ty : String) (ts : List T) (H : Hp3) : ty3 Ty (.tup ts) H = (Ty = "tuple"):=rfl
theorem yK (xs : List T) (z : Str) (H : Hp3) (Q : VK3) : yI (.tup xs) [.str z] H Q = oq (aQ xs) fun ns => Q (.int (ns.countP (· == z))) H:=rfl
def vw : R3:=fun x y H Q => match x,y with
 | .tup xs,.int k => (xs ≠ [] /\ 2 <= k /\ k < 2 ^ 63 /\ xs.length * k.toNat <= sizeLine) /\ Q (.tup (List.replicate k.toNat xs).flatten) H
 | _,_ => False
theorem vz (xs : List T) (k : Int) (H : Hp3) (Q : VK3) : vw (.tup xs) (.int k) H Q = ((xs ≠ [] /\ 2 <= k /\ k < 2 ^ 63 /\ xs.length * k.toNat <= sizeLine) /\ Q (.tup (List.replicate k.toNat xs).flatten) H):=rfl
end
section
variable {X : Cx}
theorem kX {us : List Value} {ns : List Str} (h : StrsAre us ns) : ∀ (z : Str) (m : Nat) (hm : m < us.length),isS z us[m] = decide (ns[m]? = some z):=by
 induction h with
 | nil => intro z m hm; exact absurd hm (Nat.not_lt_zero _)
 | cons r t q ih =>
  intro z m hm
  cases m with
  | zero =>
   show (r == z) = decide (some r = some z)
   by_cases e : r = z
   ·
    subst e; simp
   ·
    rw [decide_eq_false (fun h => e (Option.some.inj h))]; exact beq_eq_false_iff_ne.mpr e
  | succ m => exact ih z m (Nat.lt_of_succ_lt_succ hm)
theorem nX {us : List Value} {ns : List Str} (h : StrsAre us ns) : us.length = ns.length:=by
 induction h with
 | nil => rfl
 | cons r t q ih => rw [List.length_cons,List.length_cons,ih]
def ixL (o : Option O3) (z : Str) (H : Hp3) (Q : VK3) : Prop:=match o with
 | some (.lst xs) => oq (aQ xs) fun ns => ∃ j : Nat,ns[j]? = some z /\ (∀ m,m < j -> ns[m]? ≠ some z) /\ Q (.int j) H
 | _ => False
def nZ : T -> List T -> Hp3 -> VK3 -> Prop:=fun x ts H Q => ∃ a z,x = .ref a /\ ts = [.str z] /\ ixL (H a) z H Q
theorem vA (a : Addr) (z : Str) (H : Hp3) (Q : VK3) : nZ (.ref a) [.str z] H Q = ixL (H a) z H Q:=propext ⟨fun ⟨_,_,e1,e2,h⟩ => by cases e1; cases e2; exact h,fun h => ⟨_,_,rfl,rfl,h⟩⟩
theorem vB (xs : List T) (z : Str) (H : Hp3) (Q : VK3) : ixL (some (.lst xs)) z H Q = oq (aQ xs) fun ns => ∃ j : Nat,ns[j]? = some z /\ (∀ m,m < j -> ns[m]? ≠ some z) /\ Q (.int j) H:=rfl
theorem qY : jy X "list.index" nZ:=by
 intro pins s σ H x xs v us Q I rx0 rs0 hh
 obtain ⟨tx,ts,H3,Q3,rx,rs,sh,⟨a,z,rfl,rfl,h⟩,k⟩:=hh
 obtain ⟨w,rfl,rw'⟩:=rs.one'
 obtain ⟨u,rfl,ru⟩:=vals1 rs0
 rw [rw'.str] at ru
 obtain ⟨tk,rfl⟩:=ru
 rw [rx.ref] at rx0
 cases rx0
 have h' : (match H3 a with
  | some (.lst xs) => oq (aQ xs) fun ns => ∃ j : Nat,ns[j]? = some z /\ (∀ m,m < j -> ns[m]? ≠ some z) /\ Q3 (.int j) H3
  | _ => False):=h
 split at h'
 ·
  rename_i ws e1
  cases e2 : aQ ws with
  | none => rw [e2] at h'; exact h'.elim
  | some ns =>
   rw [e2,b5] at h'
   obtain ⟨j,hj,hno,q⟩:=h'
   obtain ⟨ys,e3,ry⟩:=sh a _ e1
   obtain ⟨hz,its,n,rvs,hl,ho⟩:=I.lstM e3
   have hs:=cF e2 ry rvs
   have hln:=nX hs
   have hjl : j < its.length:=by rw [hln]; exact (List.getElem?_eq_some_iff.mp hj).1
   have hsz : sizeLine = 16777216:=rfl
   refine call_meets F.slot_list_index ⟨_,ho,rfl⟩ F.entry_list_index (F.args_list_index_2 _ _) (SeqAt.list_indexAt a its.toArray n none #[] (.str z tk) (isS z) j (by simpa using hjl) (by omega) ?_ ?_) ⟨ho,fun y hy => ?_,?_⟩
   ·
    have:=kX hs z j hjl
    rw [decide_eq_true hj] at this
    simpa using this
   ·
    intro m hm hmj
    have hm' : m < its.length:=by simpa using hm
    have:=kX hs z m hm'
    rw [decide_eq_false (hno m hmj)] at this
    simpa using this
   ·
    obtain ⟨x,t,rfl⟩:=nW hs y (by simpa using hy)
    exact SeqAt.EqAt.str_str x t z tk
   ·
    exact ⟨.int j,H,I.tok _,⟨_,rfl⟩,k _ _ _ _ .refl sh .ofInt q⟩
 ·
  exact h'.elim
noncomputable def isB (b : Bool) : Value -> Bool
 | .bool x => x == b
 | _ => false
def ctB (o : Option O3) (b : Bool) (H : Hp3) (Q : VK3) : Prop:=match o with
 | some (.lst xs) => oq (aK xs) fun bs => Q (.int (bs.countP (· == b))) H
 | _ => False
def oa : T -> List T -> Hp3 -> VK3 -> Prop:=fun x ts H Q => ∃ a b,x = .ref a /\ ts = [.bl b] /\ ctB (H a) b H Q
theorem vC (a : Addr) (b : Bool) (H : Hp3) (Q : VK3) : oa (.ref a) [.bl b] H Q = ctB (H a) b H Q:=propext ⟨fun ⟨_,_,e1,e2,h⟩ => by cases e1; cases e2; exact h,fun h => ⟨_,_,rfl,rfl,h⟩⟩
theorem yL (xs : List T) (b : Bool) (H : Hp3) (Q : VK3) : ctB (some (.lst xs)) b H Q = oq (aK xs) fun bs => Q (.int (bs.countP (· == b))) H:=rfl
theorem qZ : jy X "list.count" oa:=by
 intro pins s σ H x xs v us Q I rx0 rs0 hh
 obtain ⟨tx,ts,H3,Q3,rx,rs,sh,⟨a,b,rfl,rfl,h⟩,k⟩:=hh
 obtain ⟨w,rfl,rw'⟩:=rs.one'
 obtain ⟨u,rfl,ru⟩:=vals1 rs0
 rw [rw'.bl] at ru
 cases ru
 rw [rx.ref] at rx0
 cases rx0
 have h' : (match H3 a with
  | some (.lst xs) => oq (aK xs) fun bs => Q3 (.int (bs.countP (· == b))) H3
  | _ => False):=h
 split at h'
 ·
  rename_i ws e1
  cases e2 : aK ws with
  | none => rw [e2] at h'; exact h'.elim
  | some bs =>
   rw [e2,b5] at h'
   obtain ⟨ys,e3,ry⟩:=sh a _ e1
   obtain ⟨hz,its,n,rvs,hl,ho⟩:=I.lstM e3
   have hs:=b9 e2 ry rvs
   subst hs
   refine call_meets F.slot_list_count ⟨_,ho,rfl⟩ F.entry_list_count (F.args_list_count_2 _ _) (SeqAt.list_countAt a (bs.map Value.bool).toArray n none #[] (.bool b) (isB b)) ⟨ho,fun y hy => ?_,?_⟩
   ·
    obtain ⟨c,_,rfl⟩:=List.mem_map.mp (show y ∈ bs.map Value.bool by simpa using hy)
    exact SeqAt.EqAt.bool_bool c b
   ·
    refine ⟨.int _,H,I.tok _,⟨_,rfl⟩,?_⟩
    rw [show (bs.map Value.bool).toArray.toList = bs.map Value.bool from rfl,List.countP_map]
    exact k _ _ _ _ .refl sh .ofInt h'
 ·
  exact h'.elim
end
section
variable {X : Cx} {elts : List Expr} {x1 : Nat} {tpos pos p : Pos} {e : Expr}
def vD (x : T) (H : Hp3) (R : List T -> (Hp3 -> Prop) -> Hp3 -> Prop) : Prop:=match x with
 | .tup ts => R (bT 0 ts) bg H
 | _ => False
def q8 (te : TE3) : TI3:=fun σ H R => te σ H fun x H1 => vD x H1 R
theorem og (te : TE3) {σ : St3} {H : Hp3} {R : List T -> (Hp3 -> Prop) -> Hp3 -> Prop} : q8 te σ H R = te σ H fun x H1 => vD x H1 R:=rfl
theorem vE (ts : List T) {H : Hp3} {R : List T -> (Hp3 -> Prop) -> Hp3 -> Prop} : vD (.tup ts) H R = R (bT 0 ts) bg H:=rfl
end
section
variable {X : Cx}
def anH (o : Option O3) (H : Hp3) (Q : VK3) : Prop:=match o with
 | some (.lst xs) => oq (aK xs) fun bs => Q (.bl (bs.any id)) H
 | some (.rol xs) => oq (aK xs) fun bs => Q (.bl (bs.any id)) H
 | _ => False
def sM : List T -> Hp3 -> VK3 -> Prop:=fun ts H Q => match ts with
 | [.ref a] => anH (H a) H Q
 | _ => False
theorem yM (a : Addr) {H : Hp3} {Q : VK3} : sM [.ref a] H Q = anH (H a) H Q:=rfl
theorem yN (xs : List T) {H : Hp3} {Q : VK3} : anH (some (.lst xs)) H Q = oq (aK xs) fun bs => Q (.bl (bs.any id)) H:=rfl
theorem any_range (bs : List Bool) : (List.range bs.length).any (fun i => bs.getD i true) = bs.any id:=by
 rw [Bool.eq_iff_iff,List.any_eq_true,List.any_eq_true]
 constructor
 ·
  rintro ⟨i,hi,h⟩
  have hi':=List.mem_range.mp hi
  refine ⟨bs[i],List.getElem_mem hi',?_⟩
  simpa [List.getD,hi'] using h
 ·
  rintro ⟨b,hb,h⟩
  obtain ⟨i,hi,rfl⟩:=List.mem_iff_getElem.mp hb
  refine ⟨i,List.mem_range.mpr hi,?_⟩
  simpa [List.getD,hi] using h
theorem jU (hc : X.calm = true) : bI X (.builtin "any") sM:=by
 intro pins s σ H xs us Q I rv h
 obtain ⟨ts,H3,Q3,r,sh,h,k⟩:=h
 match ts,h,r with
 | [.ref a],h,r =>
  obtain ⟨v,rfl,rv'⟩:=r.one'
  obtain ⟨u,rfl,ru⟩:=vals1 rv
  rw [rv'.ref] at ru
  cases ru
  have main : ∀ {ls : List T} {ys : List V},SqL X.K H a ys -> Reps X.K H ls ys -> oq (aK ls) (fun bs => Q3 (.bl (bs.any id)) H3) -> wpAny (model X.prog X.w) X.A (call (.builtin "any") [.ref a]) (EP X pins σ Q) X.xe s:=by
   intro ls ys sq rs q
   cases e : aK ls with
   | none => rw [e] at q; exact q.elim
   | some bs =>
    rw [e] at q
    obtain ⟨its,rvs,hl,_⟩:=I.list sq
    have hi:=b9 e rs rvs
    subst hi
    have hlI : a ≠ s.heap.objs.size:=fun z => by
     obtain ⟨o,n,eo,_⟩:=hl
     have:=Heap.lt_size eo
     rw [z] at this
     exact Nat.lt_irrefl _ this
    refine call_any_walk (wpAny_pyIter_list hl.isList ?_)
    refine ⟨s.heap.objs.size,_,_,_,_,_,fun i => bs.getD i true,rfl,Walks.list (A:=X.A.in1) (I.ok.hd hc) s.heap.objs.size a hlI (bs.map Value.bool).toArray,⟨⟨_,Heap.get?_push_size _ rfl,rfl,rfl⟩,hl.isList.push _⟩,fun i v s' Q' E' hv hq => ?_,fun h' tk hk => ?_⟩
    ·
     have hv' : (bs.map Value.bool)[i]? = some v:=by simpa using hv
     rw [List.getElem?_map] at hv'
     cases eb : bs[i]? with
     | none => rw [eb] at hv'; cases hv'
     | some b =>
      rw [eb] at hv'
      cases hv'
      have : bs.getD i true = b:=by simp [List.getD,eb]
      dsimp only at hq
      rw [this] at hq
      exact wpAny_truthy_bool hq
    ·
     have hn : (bs.map Value.bool).toArray.size = bs.length:=by simp
     rw [hn,any_range]
     refine ⟨.bl (bs.any id),H,I.kept fun b o e => hk b o (fun z => ?_) (Heap.get?_push_of_some _ e),rfl,k _ _ _ _ .refl sh .ofBl q⟩
     have:=Heap.lt_size e
     rw [List.mem_singleton.mp z] at this
     exact Nat.lt_irrefl _ this
  have h' : anH (H3 a) H3 Q3:=h
  cases eo : H3 a with
  | none => rw [eo] at h'; exact h'.elim
  | some o =>
   rw [eo] at h'
   cases o with
   | lst ls =>
    obtain ⟨ys,sq,rs⟩:=sh.sqL (.inl eo)
    exact main sq rs h'
   | rol ls =>
    obtain ⟨ys,sq,rs⟩:=sh.sqL (.inr eo)
    exact main sq rs h'
   | _ => exact h'.elim
def vF : List T -> Hp3 -> VK3 -> Prop:=fun ts H Q => match ts with
 | [.int i,.int j] => Q (.int (if j > i then j else i)) H
 | _ => False
def vG : List T -> Hp3 -> VK3 -> Prop:=fun ts H Q => match ts with
 | [.int i,.int j] => Q (.int (if j < i then j else i)) H
 | _ => False
theorem vH (i j : Int) {H : Hp3} {Q : VK3} : vF [.int i,.int j] H Q = Q (.int (if j > i then j else i)) H:=rfl
theorem vI (i j : Int) {H : Hp3} {Q : VK3} : vG [.int i,.int j] H Q = Q (.int (if j < i then j else i)) H:=rfl
end
open L2 HT
section
variable {prog : Program} {w : World} {A : Around} {E : Value -> Shared -> Prop} {s : Shared}
end
section
variable {X : Cx}
end
section
variable {prog : Program} {w : World} {A : Around} {E : Value -> Shared -> Prop} {s : Shared}
end
section
variable {X : Cx} {e st : Expr} {p2 pos : Pos}
end
end L3
namespace L2
open PySem
section
variable {prog : Program} {w : World} {A : Around} {E : Value -> Shared -> Prop} {h : Heap} {g : Array GenState} {d : Drawn} {t : Nat} {os : OsState}
variable {nm q : Str} {C N : Addr} {bs bm bmB : List Value} {hdct : Bool} {sn : List Str} {sub : List Value} {ab : Bool} {col : Option Bool} {dd : Option Addr} {k0 k1 k2 k3 k5 : Option Value} {B Bn newId nid initId inN : String} {bmN : List Value}
noncomputable abbrev lT (h : Heap) (C : Addr) (us : List Value) : Heap:=(h.push { cls:=.type "tuple",data:=.seq us.toArray }).push { cls:=.ref C,data:=.fields #[.ref h.objs.size,.none,.none,.none,.bool false,.none] }
theorem jV (Fn : ExcBaseFacts Bn newId inN bmN) (hBn : bmB.contains (.type Bn) = true) (F : ExcBaseFacts B nid initId bmB) (T : OwnTail h bmB bm) {mN : Str -> Option Value} {us : List Value} {fI : Addr} {oI : Obj} {Q : Fin -> Shared -> Prop}
  (hC : h.get? C = some (excClassObj nm q C N bs bm hdct sn sub ab col dd k0 k1 k2 k3 k5 newId)) (hn : h.Ns N mN) (hi : mN "__init__" = some (.ref fI)) (hf : h.get? fI = some oI) (hc : oI.cls = .type "function") (hz : us.length <= sizeLine)
  (hq : wpAny (model prog w) A (call (.ref fI) (.ref (h.objs.size + 1) :: us)) (fun r s' => r = .none /\ Q (.done (.ret (.ref (h.objs.size + 1)))) s') E ⟨lT h C us,g,d,t,os⟩) :
  wpAny (model prog w) A (Builtin.«type.__call__» ⟨.ref C :: us,[]⟩) Q E ⟨h,g,d,t,os⟩:=by
 have up : ∀ b o,h.get? b = some o -> (lT h C us).get? b = some o:=fun b o e => Heap.get?_push_of_some _ (Heap.get?_push_of_some _ e)
 have he : (lT h C us).get? (h.objs.size + 1) = some { cls:=.ref C,data:=.fields #[.ref h.objs.size,.none,.none,.none,.bool false,.none] }:=by
  have:=Heap.get?_push_size (h.push { cls:=.type "tuple",data:=.seq us.toArray }) (o:={ cls:=.ref C,data:=.fields #[.ref h.objs.size,.none,.none,.none,.bool false,.none] }) rfl
  rw [Heap.size_push] at this
  exact this
 have hcC : (Value.ref C :: bm).contains (.ref C) = true:=by simp
 repeat (first | (with_reducible refine wpAny_loadPart_at hC ?_) | (with_reducible refine wpAny_madeBy_exc hC ?_) | wp_step)
 refine codeAny_call_builtin_code (Code.quiet_builtin _ Fn.quiet) (wpAny_check_new_subU Fn hBn T hC (codeAny_exc_new_subU Fn hBn F T hC ?_ hz))
 show wpAny _ _ _ _ _ _
 unfold isInstance
 repeat (first | (with_reducible refine wpAny_loadPart_at he ?_) | (with_reducible refine wpAny_isSubtype_exc (up _ _ hC) ?_; rw [hcC]) | wp_step)
 show wpAny _ _ (typeLookup (.ref C) _) _ _ _
 refine wpAny_typeLookup_tail (up _ _ hC) (hn.keeps up) (T.keeps up) F.mroIs F.init.lookup ?_
 rw [hi]
 refine wpAny_holding (wpAny_bind ?_)
 unfold bindSpecial
 refine wpAny_bind (wpAny_typeOf (T:="function") ⟨_,up _ _ hf,hc⟩ ?_)
 rw [if_pos (by decide)]
 refine wpAny_pure (wpAny_bind (wpAny_mono hq (fun r s' hr => ?_) fun _ _ x => x))
 obtain ⟨rfl,hQ⟩:=hr
 wp_walk
 exact hQ
theorem oh (Fn : ExcBaseFacts Bn newId inN bmN) (hBn : bmB.contains (.type Bn) = true) (F : ExcBaseFacts B nid initId bmB) (T : OwnTail h bmB bm) {mN : Str -> Option Value} {us : List Value} {fI : Addr} {oI : Obj} {Q : Value -> Shared -> Prop}
  (hC : h.get? C = some (excClassObj nm q C N bs bm hdct sn sub ab col dd k0 k1 k2 k3 k5 newId)) (hn : h.Ns N mN) (hi : mN "__init__" = some (.ref fI)) (hf : h.get? fI = some oI) (hc : oI.cls = .type "function") (hz : us.length <= sizeLine)
  (hq : wpAny (model prog w) (A.under (.builtin "type.__call__" ⟨.ref C :: us,[]⟩)) (call (.ref fI) (.ref (h.objs.size + 1) :: us)) (fun r s' => r = .none /\ Q (.ref (h.objs.size + 1)) s') E ⟨lT h C us,g,d,t,os⟩) :
  wpAny (model prog w) A (call (.ref C) us) Q E ⟨h,g,d,t,os⟩:=by
 have f1:=tc_lookup
 have f2:=tc_bind (.ref C)
 have hT : (⟨h,g,d,t,os⟩ : Shared).TypeIs (.ref C) "type":=⟨_,hC,rfl⟩
 refine wpAny_call (codeAny_of_tree ?_)
 show wpAny _ _ (callAny (.ref C) _) _ _ _
 repeat (any_goals (first | assumption | (with_reducible refine wpAny_loadPart_at hC ?_) | wp_step))
 refine ⟨rfl,codeAny_call_builtin_at (Code.quiet_builtin _ (by decide +kernel)) entry_typeCall (wpAny_check_type_call_sub hC (jV Fn hBn F T hC hn hi hf hc hz hq))⟩
end
theorem i5 (h : Heap) (a : Addr) (f : Obj -> Obj) : (h.update a f).objs.size = h.objs.size:=Heap.size_after_update ..
noncomputable abbrev fra (l : List Env) : List Addr:=l.filterMap (·.frame)
def Ntd (h : Heap) (S : Addr -> Prop) (e : Addr) (cls : Value) (dct : Option Addr) (fl : Value) : Prop :=
 ∃ vs sl T oT ts,h.get? e = some ⟨cls,dct,.fields vs,sl⟩ /\ vs[1]? = some (.ref T) /\ ¬ S T /\ T ≠ e /\ h.get? T = some oT /\ oT.data = .fields ts /\ ts[3]? = some fl
def Rsd (h : Heap) (e : Addr) (cls : Value) (dct : Option Addr) : Prop:=∃ vs sl,h.get? e = some ⟨cls,dct,.fields vs,sl⟩ /\ vs[1]? = some .none
structure Kpx (fs : List Addr) (e : Addr) (S : Addr -> Prop) (h h' : Heap) : Prop where
 sz : h.objs.size <= h'.objs.size
 ex : ∃ xs : List Addr,(∀ b ∈ xs,¬ S b) /\ ∀ b o,h.get? b = some o -> b ∉ fs -> b ≠ e -> b ∉ xs -> h'.get? b = some o
 slot : ∀ b o,h.get? b = some o -> b ∈ fs -> ∃ sl,h'.get? b = some { o with slots:=sl }
 up : ∀ b o,h.get? b = some o -> (∀ vs,o.data ≠ .fields vs) -> ∃ sl,h'.get? b = some { o with slots:=sl }
theorem Kpx.keep {fs : List Addr} {e : Addr} {S : Addr -> Prop} {h h' : Heap} (x : Kpx fs e S h h') (b : Addr) (o : Obj) (hb : h.get? b = some o) (hS : S b) (nf : b ∉ fs) (ne : b ≠ e) : h'.get? b = some o :=
 let ⟨_,a,k⟩:=x.ex; k b o hb nf ne fun m => a b m hS
theorem Kpx.trans {fs : List Addr} {e : Addr} {S : Addr -> Prop} {h h1 h2 : Heap} (x : Kpx fs e S h h1) (y : Kpx fs e S h1 h2) : Kpx fs e S h h2:=by
 obtain ⟨xs,a,k⟩:=x.ex
 obtain ⟨ys,a',k'⟩:=y.ex
 exact ⟨Nat.le_trans x.sz y.sz,⟨xs ++ ys,fun b m => (List.mem_append.mp m).elim (a b) (a' b),fun b o hb nf nb nx => k' b o (k b o hb nf nb fun m => nx (List.mem_append_left _ m)) nf nb fun m => nx (List.mem_append_right _ m)⟩,
  fun b o hb mf => let ⟨_,e1⟩:=x.slot b o hb mf; let ⟨sl,e2⟩:=y.slot b _ e1 mf; ⟨sl,e2⟩,
  fun b o hb hn => let ⟨_,e1⟩:=x.up b o hb hn; let ⟨sl,e2⟩:=y.up b _ e1 hn; ⟨sl,e2⟩⟩
theorem Kpx.fr {fs : List Addr} {e : Addr} {S : Addr -> Prop} {h h' base : Heap} {l : List Env} (x : Kpx fs e S h h') (hl : h.FunFrames base l) : h'.FunFrames base l:=hl.of_keeps fun b o hb hn => let ⟨_,q⟩:=x.up b o hb hn; ⟨_,q,rfl⟩
section
variable {M : Model} {A : Around} {E : Value -> Shared -> Prop} {s : Shared} {base : Heap} {S : Addr -> Prop} {env : Env} {outer : List Env} {L e : Addr} {cls : Value} {dct : Option Addr}
theorem kY {vs : Array Value} {sl : Array (Option Value)} {head : Value} {hadNext : Bool} {Q : Unit -> Shared -> Prop}
  (hfr : A.frames = some (env :: outer)) (hl : s.heap.FunFrames base (env :: outer)) (hf : env.frame = some L) (he : s.heap.get? e = some ⟨cls,dct,.fields vs,sl⟩) (hz : 1 < vs.size) (h00 : ∀ b,S b -> b < s.heap.objs.size)
  (h : ∀ h' fl,fl = rawInt L -> Ntd h' S e cls dct fl -> Kpx (fra (env :: outer)) e S s.heap h' -> Q () { s with heap:=h' }) :
  wpAny M A (do let a <- frameOf env; let pl <- entryPlaceOf L hadNext; let b <- EntryCells.newEntry head a .none (rawInt L) .none pl; setField (.ref e) 1 b) Q E s:=by
 have ne : e ∉ fra (env :: outer):=fun m => by
  obtain ⟨_,o,ho,hd⟩:=hl.mem m
  rw [he] at ho
  cases ho
  exact hd vs rfl
 refine wpAny_bind (wpAny_frameOf_fun hfr hl hf fun h1 q => ?_)
 refine wpAny_bind (wpAny_entryPlaceOf fun pl hpl => ?_)
 unfold EntryCells.newEntry newFields
 refine wpAny_bind (wpAny_newObj_type ?_ (hpl.sizeOk5 _ _ _ _ _))
 generalize hts : ([head,.ref L,.none,rawInt L,.none] ++ (if pl.isEmpty then List.replicate 6 Value.none else pl)).toArray = ts
 have e1 : h1.get? e = some ⟨cls,dct,.fields vs,sl⟩:=(q.2.1 e ne).trans he
 have tz : h1.objs.size ≠ e:=Nat.ne_of_gt (Heap.lt_size e1)
 refine wpAny_setField (Heap.get?_push_of_some _ e1) rfl hz (h _ _ rfl ?_ ⟨by rw [i5,Heap.size_push,q.1]; exact Nat.le_succ _,⟨[],(fun _ m => nomatch m),fun b o hb nf nb _ => ?_⟩,fun b o hb mf => ?_,fun b o hb hnf => ?_⟩)
 ·
  refine ⟨vs.setIfInBounds 1 (.ref h1.objs.size),sl,h1.objs.size,_,ts,Heap.get?_update_self _ (Heap.get?_push_of_some _ e1) rfl,by simp [hz],?_,tz,(Heap.get?_update_other _ _ (Ne.symm tz)).trans (Heap.get?_push_size h1 rfl),rfl,?_⟩
  ·
   intro g
   have:=h00 _ g
   rw [q.1] at this
   exact absurd this (Nat.lt_irrefl _)
  ·
   rw [<- hts]
   first | (simp; done) | (rcases hpl with rfl | ⟨_,_,_,_,_,_,_,rfl⟩ <;> simp)
 ·
  exact (Heap.get?_update_other _ _ (Ne.symm nb)).trans (Heap.get?_push_of_some _ ((q.2.1 b nf).trans hb))
 ·
  obtain ⟨sl',hs⟩:=q.2.2 b o hb
  have nb : b ≠ e:=fun z => ne (z ▸ mf)
  exact ⟨sl',(Heap.get?_update_other _ _ (Ne.symm nb)).trans (Heap.get?_push_of_some _ hs)⟩
 ·
  obtain ⟨sl',hs⟩:=q.2.2 b o hb
  have nb : b ≠ e:=fun z => by subst z; rw [he] at hb; cases hb; exact hnf vs rfl
  exact ⟨sl',(Heap.get?_update_other _ _ (Ne.symm nb)).trans (Heap.get?_push_of_some _ hs)⟩
theorem yO {fl x : Value} {T : Addr} {oT : Obj} {ts vs : Array Value} {sl : Array (Option Value)} {fs : List Addr} {Q : Unit -> Shared -> Prop} (he : s.heap.get? e = some ⟨cls,dct,.fields vs,sl⟩) (h1 : vs[1]? = some (.ref T)) (hT0 : ¬ S T) (hTe : T ≠ e) (hT : s.heap.get? T = some oT) (hd : oT.data = .fields ts) (h3 : ts[3]? = some fl)
  (hfs : ∀ b ∈ fs,∃ o,s.heap.get? b = some o /\ ∀ vs,o.data ≠ .fields vs)
  (h : ∀ h',h'.get? e = some ⟨cls,dct,.fields vs,sl⟩ -> Ntd h' S e cls dct x -> Kpx fs e S s.heap h' -> Q () { s with heap:=h' }) : wpAny M A (setField (.ref T) 3 x) Q E s:=by
 have ot : ∀ b,b ≠ T -> (s.heap.update T (Obj.mapFields (·.setIfInBounds 3 x))).get? b = s.heap.get? b:=fun b hb => Heap.get?_update_other _ _ (Ne.symm hb)
 have z3:=(Array.getElem?_eq_some_iff.mp h3).1
 have d2:=Obj.data_mapFields hd (·.setIfInBounds 3 x)
 have nT : ∀ b o,s.heap.get? b = some o -> (∀ vs,o.data ≠ .fields vs) -> b ≠ T:=fun b o hb hn z => by
  subst z
  rw [hT] at hb
  cases hb
  exact hn ts hd
 refine wpAny_setField hT hd z3 (h _ ((ot e (Ne.symm hTe)).trans he) ⟨vs,sl,T,_,_,(ot e (Ne.symm hTe)).trans he,h1,hT0,hTe,Heap.get?_update_self _ hT (Obj.isFreed_of_fields d2),d2,by simp [z3]⟩ ⟨by rw [i5]; exact Nat.le_refl _,⟨[T],fun b m => by rw [List.mem_singleton.mp m]; exact hT0,fun b o hb _ _ nx => (ot b fun z => nx (List.mem_singleton.mpr z)).trans hb⟩,fun b o hb mf => ⟨o.slots,(ot b ?_).trans hb⟩,fun b o hb hn => ⟨o.slots,(ot b (nT b o hb hn)).trans hb⟩⟩)
 obtain ⟨o',ho',hn⟩:=hfs b mf
 exact nT b o' ho' hn
theorem oi {fl : Value} {fs : List Addr} {Q : Unit -> Shared -> Prop} (hN : Ntd s.heap S e cls dct fl) (hfs : ∀ b ∈ fs,∃ o,s.heap.get? b = some o /\ ∀ vs,o.data ≠ .fields vs)
  (h : ∀ h',Ntd h' S e cls dct .none -> Kpx fs e S s.heap h' -> Q () { s with heap:=h' }) : wpAny M A (setFlight (.ref e) none) Q E s:=by
 obtain ⟨vs,sl,T,oT,ts,he,h1,hT0,hTe,hT,hd,h3⟩:=hN
 unfold setFlight
 refine wpAny_bind (wpAny_field he rfl h1 ?_)
 rw [if_pos (show (Value.ref T != Value.none) = true from by simp)]
 exact yO he h1 hT0 hTe hT hd h3 hfs fun h' _ hN' hk => h h' hN' hk
theorem note {Q : Unit -> Shared -> Prop} (hfr : A.frames = some (env :: outer)) (hl : s.heap.FunFrames base (env :: outer)) (hf : env.frame = some L) (hN : Rsd s.heap e cls dct \/ Ntd s.heap S e cls dct .none \/ Ntd s.heap S e cls dct (rawInt L)) (h00 : ∀ b,S b -> b < s.heap.objs.size)
  (h : ∀ h',Ntd h' S e cls dct (rawInt L) -> Kpx (fra (env :: outer)) e S s.heap h' -> Q () { s with heap:=h' }) : wpAny M A (noteFrame (.ref e) env) Q E s:=by
 have hfs : ∀ b ∈ fra (env :: outer),∃ o,s.heap.get? b = some o /\ ∀ vs,o.data ≠ .fields vs:=fun b mb => (hl.mem mb).2
 unfold noteFrame
 simp only [hf]
 rcases hN with ⟨vs,sl,he,h1⟩ | ⟨vs,sl,T,oT,ts,he,h1,hT0,hTe,hT,hd,h3⟩ | ⟨vs,sl,T,oT,ts,he,h1,hT0,hTe,hT,hd,h3⟩
 ·
  refine wpAny_bind (wpAny_field he rfl h1 ?_)
  rw [if_neg (by decide)]
  exact kY hfr hl hf he (Array.getElem?_eq_some_iff.mp h1).1 h00 fun h' fl e1 hn hk => h h' (e1 ▸ hn) hk
 ·
  refine wpAny_bind (wpAny_field he rfl h1 ?_)
  rw [if_pos (show (Value.ref T != Value.none) = true from by simp)]
  refine wpAny_bind (wpAny_field hT hd h3 ?_)
  rw [if_neg (show ¬ ((Value.none == rawInt L) = true) from by simp [rawInt])]
  refine wpAny_bind (yO (x:=.none) he h1 hT0 hTe hT hd h3 hfs fun h2 he2 _ hk => ?_)
  refine kY hfr (hk.fr hl) hf he2 (Array.getElem?_eq_some_iff.mp h1).1 (fun b hb => Nat.lt_of_lt_of_le (h00 b hb) hk.sz) fun h' fl e1 hn hk2 => h h' (e1 ▸ hn) (hk.trans hk2)
 ·
  refine wpAny_bind (wpAny_field he rfl h1 ?_)
  rw [if_pos (show (Value.ref T != Value.none) = true from by simp)]
  refine wpAny_bind (wpAny_field hT hd h3 ?_)
  rw [if_pos (show (rawInt L == rawInt L) = true from by first | (simp; done) | exact beq_self_eq_true _)]
  exact wpAny_pure (h _ ⟨vs,sl,T,oT,ts,he,h1,hT0,hTe,hT,hd,h3⟩ ⟨Nat.le_refl _,⟨[],(fun _ m => nomatch m),fun _ _ q _ _ _ => q⟩,fun _ o q _ => ⟨o.slots,q⟩,fun _ o q _ => ⟨o.slots,q⟩⟩)
theorem vJ {Q : Unit -> Shared -> Prop} (hfr : A.frames = some (env :: outer)) (hl : s.heap.FunFrames base (env :: outer)) (hf : env.frame = some L) (hN : Rsd s.heap e cls dct \/ Ntd s.heap S e cls dct .none \/ Ntd s.heap S e cls dct (rawInt L)) (h00 : ∀ b,S b -> b < s.heap.objs.size)
  (h : ∀ h',Ntd h' S e cls dct .none -> Kpx (fra (env :: outer)) e S s.heap h' -> Q () { s with heap:=h' }) : wpAny M A (leaving env (.ref e)) Q E s:=by
 unfold leaving
 refine wpAny_bind (note hfr hl hf hN h00 fun h1 hn hk => ?_)
 refine oi hn (fun b mb => ?_) fun h2 hn2 hk2 => h h2 hn2 (hk.trans hk2)
 exact ((hk.fr hl).mem mb).2
end
abbrev Std (s : Shared) (H : Hp) : Addr -> Prop:=fun b => b < s.heap.objs.size \/ ∃ u,H b = some u
def CX1 (P : Program) (w : World) : CXT:=fun outer H s E e s' => ∃ (ea C dx : Addr) (H' : Hp),e = .ref ea /\ s'.os = s.os /\ AllBare s'.gens /\ Un (frs outer) [] H H' s.heap s'.heap /\ HOk P w H' s'.heap /\ s.heap.objs.size <= ea /\ H' ea = none /\
 Ntd s'.heap (Std s H') ea (.ref C) (some dx) .none /\ E (.ref C) (some dx) H'
def SX (X : Cx) (pins : List (Addr × Obj)) (H : Hp) : Addr -> Prop:=fun b => Std X.s₀ H b \/ (∃ p ∈ X.pn ++ pins,p.1 = b) \/ (∃ x,X.env.cells.lookup x = some b) \/ b = X.env.locals
structure Fly (X : Cx) (pins : List (Addr × Obj)) (σ : St) (H : Hp) (s : Shared) (ea C dx : Addr) : Prop where
 inv : Inv X pins σ H s
 new : X.s₀.heap.objs.size <= ea /\ ea ≠ X.env.locals /\ (∀ x c,X.env.cells.lookup x = some c -> c ≠ ea) /\ ∀ p ∈ X.pn ++ pins,p.1 ≠ ea
 free : H ea = none
 fly : Rsd s.heap ea (.ref C) (some dx) \/ Ntd s.heap (SX X pins H) ea (.ref C) (some dx) .none
theorem Ntd.mono {h : Heap} {S S' : Addr -> Prop} {e : Addr} {cls : Value} {dct : Option Addr} {fl : Value} (x : Ntd h S e cls dct fl) (k : ∀ b,S' b -> S b) : Ntd h S' e cls dct fl:=by
 obtain ⟨vs,sl,T,oT,ts,h1,h2,h3,r⟩:=x
 exact ⟨vs,sl,T,oT,ts,h1,h2,fun z => h3 (k _ z),r⟩
section
variable {X : Cx} {pins : List (Addr × Obj)} {σ : St} {H H' : Hp} {s s' : Shared} {ea C dx : Addr} {E : XK}
theorem ObjOk.there {P : Program} {w : World} {h : Heap} {a : Addr} {o : HO} (x : ObjOk P w H h a o) : ∃ u,h.get? a = some u:=by
 cases o with
 | lst xs => obtain ⟨_,_,_,_,e⟩:=x; exact ⟨_,e⟩
 | tup xs => obtain ⟨_,_,_,_,e,_⟩:=x; exact ⟨_,e⟩
 | dK kvs => obtain ⟨_,_,_,_,_,_,_,e,_⟩:=x; exact ⟨_,e⟩
 | dT kvs => obtain ⟨_,_,_,_,_,_,_,e,_⟩:=x; exact ⟨_,e⟩
 | set S n => obtain ⟨_,_,_,_,e,_⟩:=x; exact ⟨_,e⟩
 | ins C dx fs => obtain ⟨_,_,_,e,_⟩:=x; exact ⟨_,e⟩
 | own _ => exact x
 | xd fs => obtain ⟨_,⟨_,_,_,e,_⟩,_⟩:=x; exact ⟨_,e⟩
 | met f x' => exact ⟨_,x⟩
 | rng lo hi => obtain ⟨_,_,_,e⟩:=x; exact ⟨_,e⟩
 | frz o u => exact ⟨_,x.1⟩
 | tbl ps => exact ⟨_,x⟩
 | ext φ => exact x.2.1
theorem Inv.cellAt (I : Inv X pins σ H s) {x : Str} {c : Addr} (h : X.env.cells.lookup x = some c) : ∃ u,s.heap.get? c = some u:=by
 obtain ⟨v,o,e,_⟩:=I.cell x c h
 exact ⟨o,e⟩
theorem Inv.sx (I : Inv X pins σ H s) {b : Addr} (h : SX X pins H b) : b < s.heap.objs.size:=by
 rcases h with (h | ⟨u,hu⟩) | ⟨p,hp,rfl⟩ | ⟨x,hx⟩ | rfl
 ·
  exact Nat.lt_of_lt_of_le h I.sz
 ·
  exact (I.hok b u hu).lt
 ·
  exact Heap.lt_size (I.pin p hp).1
 ·
  obtain ⟨u,hu⟩:=I.cellAt hx
  exact Heap.lt_size hu
 ·
  exact I.lt
theorem Inv.newer (I : Inv X pins σ H s) {a : Addr} (h : s.heap.objs.size <= a) : X.s₀.heap.objs.size <= a /\ a ≠ X.env.locals /\ (∀ x c,X.env.cells.lookup x = some c -> c ≠ a) /\ ∀ p ∈ X.pn ++ pins,p.1 ≠ a:=by
 have nl : ∀ b,b < s.heap.objs.size -> b ≠ a:=fun b hb z => by rw [z] at hb; exact absurd hb (Nat.not_lt_of_le h)
 exact ⟨Nat.le_trans I.sz h,Ne.symm (nl _ I.lt),fun x c hc => nl c (let ⟨_,hu⟩:=I.cellAt hc; Heap.lt_size hu),fun p hp => nl _ (Heap.lt_size (I.pin p hp).1)⟩
theorem vK (I : Inv X pins σ H s) {e : Value} (h : CX1 X.prog X.w X.stack H s E e s') : ∃ ea C dx H',e = .ref ea /\ Fly X pins σ H' s' ea C dx /\ E (.ref C) (some dx) H':=by
 obtain ⟨ea,C,dx,H',rfl,os,bare,un,hok,new,free,ntd,he⟩:=h
 refine ⟨ea,C,dx,H',rfl,⟨I.call' os un hok bare (fun b z => absurd z (by simp)),I.newer new,free,.inr (ntd.mono fun b hb => ?_)⟩,he⟩
 rcases hb with (hb | hb) | ⟨p,hp,rfl⟩ | ⟨x,hx⟩ | rfl
 ·
  exact .inl (Nat.lt_of_lt_of_le hb I.sz)
 ·
  exact .inr hb
 ·
  exact .inl (Heap.lt_size (I.pin p hp).1)
 ·
  obtain ⟨u,hu⟩:=I.cellAt hx
  exact .inl (Heap.lt_size hu)
 ·
  exact .inl I.lt
theorem Kpx.hok {fs : List Addr} {S : Addr -> Prop} {h h' : Heap} {P : Program} {w : World} (k : Kpx fs ea S h h') (hS : ∀ b u,H b = some u -> S b) (hf : ∀ b ∈ fs,H b = none) (he : H ea = none) (x : HOk P w H h) : HOk P w H h':=fun b u e => by
 refine (x b u e).stay (fun c v hc q => ?_) (fun _ q => q) fun _ _ q => q
 have hc' : ∃ u,H c = some u:=by
  rcases hc with z | z
  ·
   exact ⟨u,z ▸ e⟩
  ·
   exact ⟨_,z⟩
 obtain ⟨u',hu'⟩:=hc'
 exact k.keep c v q (hS c u' hu') (fun z => by rw [hf c z] at hu'; cases hu') fun z => by rw [z,he] at hu'; cases hu'
theorem q9 {E' : Value -> Shared -> Prop} (F : Fly X pins σ H s ea C dx) (hx : X.ex = []) (hs : X.stack = X.env :: X.outer) (hf : X.env.frame = some X.env.locals) (he : E (.ref C) (some dx) H) :
  wpAny (model X.prog X.w) X.A (leaving X.env (.ref ea)) (fun _ s' => CX1 X.prog X.w X.outer X.H₀ X.s₀ E (.ref ea) s') E' s:=by
 obtain ⟨I,new,free,fly⟩:=F
 have hl:=I.stack
 have hfr:=I.ok.frames
 rw [hs] at hl hfr
 have fra_eq : fra (X.env :: X.outer) = X.env.locals :: frs X.outer:=by
  show List.filterMap _ (X.env :: X.outer) = _
  rw [List.filterMap_cons,hf]
  rfl
 refine vJ (base:=X.base) (S:=SX X pins H) hfr hl hf (by rcases fly with q | q; exact .inl q; exact .inr (.inl q)) (fun b hb => I.sx hb) fun h' ntd k => ?_
 have stf : ∀ b ∈ fra (X.env :: X.outer),H b = none:=fun b hb => I.stkFree b (by rw [hs]; exact hb)
 have lnew : ∀ b o,X.s₀.heap.get? b = some o -> b ≠ X.env.locals:=fun b o e z => by
  have h1:=Heap.lt_size e
  have h2:=I.ok.above
  rw [z] at h1
  exact absurd h1 (Nat.not_lt_of_le h2)
 have nea : ∀ b o,X.s₀.heap.get? b = some o -> b ≠ ea:=fun b o e z => by
  have h1:=Heap.lt_size e
  rw [z] at h1
  exact absurd h1 (Nat.not_lt_of_le new.1)
 have nex : ∀ b : Addr,b ∉ X.ex:=fun b => by rw [hx]; simp
 refine ⟨ea,C,dx,H,rfl,I.os,I.bare,⟨fun b o e n nf _ => ?_,fun b o e n mf _ => ?_,fun b o e n _ => I.base.free b o e n (nex b),fun b o e _ => ?_,I.base.tups,I.base.frzs,I.base.tbls⟩,k.hok (fun b u e => .inl (.inr ⟨u,e⟩)) stf free I.hok,new.1,free,ntd.mono (fun b hb => .inl hb),he⟩
 ·
  refine k.keep b o (I.base.keep b o e n nf (nex b)) (.inl (.inl (Heap.lt_size e))) ?_ (nea b o e)
  rw [fra_eq]
  exact fun z => (List.mem_cons.mp z).elim (lnew b o e) nf
 ·
  obtain ⟨sl,q⟩:=I.base.slot b o e n mf (nex b)
  obtain ⟨sl',q'⟩:=k.slot b _ q (by rw [fra_eq]; exact List.mem_cons_of_mem _ mf)
  exact ⟨sl',q'⟩
 ·
  obtain ⟨o',q⟩:=I.base.there b o e (nex b)
  by_cases m : b ∈ fra (X.env :: X.outer)
  ·
   obtain ⟨sl',q'⟩:=k.slot b _ q m
   exact ⟨_,q'⟩
  ·
   exact ⟨_,k.keep b o' q (.inl (.inl (Heap.lt_size e))) m (nea b o e)⟩
def lU (X : Cx) (E : St -> XK) : Prop:=∀ (pins : List (Addr × Obj)) (σ : St) (H : Hp) (s : Shared) (ea C dx : Addr),Fly X pins σ H s ea C dx -> E σ (.ref C) (some dx) H -> X.xe (.ref ea) s
end
theorem oj {P : Program} {w : World} {K : PySem.W.Frag} {mg : Str -> Option Value} {base : Heap} {N : List Str} {qual : Str} {scope : Scope} {f : Addr} {cd : Value} {A : Around} {outer : List Env} {s : Shared} {H : Hp} {E : XK} :
  lU (eE (CX1 P w) P w K mg base N qual scope f cd A outer s H E) (fun _ => E):=fun pins σ H' s' ea C dx F he => q9 (X:=eE (CX1 P w) P w K mg base N qual scope f cd A outer s H E) F rfl rfl rfl he
section
variable {X : Cx} {k : Nat} {f : Addr} {fd : FuncData} {ps : List Str} {sp : Sp} {E : St -> XK} {x : Str} {p pos : Pos} {e : Expr} {es : List Expr} {t : TA}
theorem ra {pins : List (Addr × Obj)} {σ : St} {H : Hp} {s : Shared} {Q : VK} {us : List Value} {vs : List V} (F : FnOk X.prog X.w X.K X.mg X.base (CX1 X.prog X.w) k f fd ps sp) (hr : Room k X.A) (hb : Binds X.K fd ps []) (hM : lU X E)
  (I : Inv X pins σ H s) (r : Vals vs us) (h : sp vs H Q (E σ)) : wpAny (model X.prog X.w) X.A (call (.ref f) us) (EP X pins σ Q) X.xe s:=by
 have hl : (us ++ []).length = ps.length:=by rw [List.append_nil,<- r.length]; exact F.len _ _ _ _ h
 have hb':=hb s us I.kIn hl
 rw [List.append_nil] at hb'
 refine wpAny_call (codeAny_mono (F.run X.A X.stack s H ⟨us,[]⟩ us vs Q (E σ) hr I.env0 hb' r h) fun r s' hq => ?_)
 cases r with
 | error e =>
  obtain ⟨ea,C,dx,H',rfl,Fl,he⟩:=vK I hq
  exact hM pins σ H' s' ea C dx Fl he
 | ok fl =>
  cases fl with
  | ret u => exact I.after hq
  | next => exact False.elim hq
  | brk => exact False.elim hq
  | cont => exact False.elim hq
end
open PySem.Builtin PySem.Builtin.ObjectAttr
section
variable {prog : Program} {w : World} {A : Around} {E : Value -> Shared -> Prop} {K : PySem.W.Frag} {s : Shared} {x C : Addr} {name : Str} {v : Value}
structure XSet (K : PySem.W.Frag) (C : Addr) (cd : ClassData) : Prop where
 cls : PySem.W.clsIn K C = some cd
 sa : PySem.W.findIn K (.ref C) "__setattr__" = some (some (.builtin "object.__setattr__"))
 ref : ∀ self : Value,refuseLoop self "__setattr__" cd.mro = pure ()
 obj : PySem.W.mroIn K C (.type "object") = some true
 dct : cd.hasDict = true
theorem gc {cd : ClassData} {ox : Obj} {od : Option Obj} {Q : Unit -> Shared -> Prop} (F : XSet K C cd) (X : K.In s.heap) (I : PySem.W.InstAt s.heap x ox C od) (hn : PySem.W.findIn K (.ref C) name = some none)
  (h : wpAny (model prog w) A.in1 (storeInOwnDict (.ref x) (.ref C) (.str name s.toks) name v false) (fun fin s' => fin = .done (.ret .none) /\ Q () s') E { s with toks:=s.toks + 1 }) :
  wpAny (model prog w) A (setAttr (.ref x) name v) Q E s:=by
 have SF:=PySem.F.store_object
 refine PySem.W.set_plain X I F.sa ?_
 have sub : PySem.W.Looks (model prog w) s.heap (isInstance (.ref x) (.type "object")) true:=I.type.andThen (PySem.W.looks_mroIn X F.obj)
 refine codeAny_call_builtin SF.slot.plain SF.entry (@PySem.W.check_slot (model prog w) _ _ { s with toks:=s.toks + 1 } "object.__setattr__" "object" "__setattr__" (.ref x) [.str name s.toks,v] [] _ SF.kind SF.split sub (SF.args (.ref x) (.str name s.toks) v) ?_)
 have hm : PySem.W.Looks (model prog w) s.heap (mroOf (.ref C)) cd.mro:=(PySem.W.looks_clsIn X F.cls).andThen .now
 rw [PySem.W.osa_eq,refuse_eq]
 refine wpAny_bind (wpAny_bind (PySem.W.Looks.here (s:={ s with toks:=s.toks + 1 }) I.type (wpAny_bind (PySem.W.Looks.here (s:={ s with toks:=s.toks + 1 }) hm ?_))))
 rw [F.ref]
 refine wpAny_pure (wpAny_bind (PySem.W.Looks.here (s:={ s with toks:=s.toks + 1 }) I.type (wpAny_bind (PySem.W.Looks.here (s:={ s with toks:=s.toks + 1 }) (PySem.W.looks_findIn X hn) ?_))))
 refine wpAny_bind (wpAny_pure ?_)
 refine wpAny_mono h (fun fin s' z => ?_) fun _ _ z => z
 obtain ⟨rfl,q⟩:=z
 exact q
theorem lV {cd : ClassData} {vs : Array Value} {sl : Array (Option Value)} {dx : Addr} {mA : Str -> Option Value} {ns : List Str} {Q : Unit -> Shared -> Prop} (F : XSet K C cd) (X : K.In s.heap) (hx : s.heap.get? x = some ⟨.ref C,some dx,.fields vs,sl⟩) (hd : s.heap.Ns1 dx mA) (hw : PySem.Within mA ns) (hz : ns.length < sizeLine) (hn : PySem.W.findIn K (.ref C) name = some none)
  (h : ∀ h',h'.Ns1 dx (fun y => if y = name then some v else mA y) -> Heap.SameBut dx s.heap h' -> Q () { s with heap:=h',toks:=s.toks + 2 }) :
  wpAny (model prog w) A (setAttr (.ref x) name v) Q E s:=by
 obtain ⟨od,ho,_⟩:=dy hd
 refine gc F X (od:=some od) ⟨hx,rfl,rfl,ho⟩ hn ?_
 refine wpAny_bind (wpAny_pure (wpAny_bind (wpAny_bind (wpAny_loadPart hx (wpAny_bind (PySem.W.Looks.here (s:={ s with toks:=s.toks + 1 }) (PySem.W.looks_clsIn X F.cls) ?_))))))
 rw [F.dct]
 refine wpAny_pure (a:=some dx) ?_
 refine wpAny_bind (wpAny_pure (wpAny_bind (wpAny_nsSet1 (s:={ s with toks:=s.toks + 1 }) hd fun h' hn2 hs2 => ?_)))
 obtain ⟨oD,esD,epD,hoD,hdD,hcD⟩:=hn2.count (PySem.Within.cons name v hw)
 refine wpAny_bind (wpAny_lookBehind hoD (by rw [hdD]; exact pastItsLine_dict (Nat.le_trans hcD (by rw [List.length_cons]; omega))) ?_)
 exact wpAny_pure ⟨rfl,h h' hn2 hs2⟩
theorem ol {cd : ClassData} {vs : Array Value} {sl : Array (Option Value)} {Q : Unit -> Shared -> Prop} (F : XSet K C cd) (X : K.In s.heap) (hx : s.heap.get? x = some ⟨.ref C,none,.fields vs,sl⟩) (hn : PySem.W.findIn K (.ref C) name = some none)
  (h : ∀ h',h'.get? x = some ⟨.ref C,some s.heap.objs.size,.fields vs,sl⟩ -> h'.Ns1 s.heap.objs.size (fun y => if y = name then some v else none) -> (∀ b o,b ≠ x -> s.heap.get? b = some o -> h'.get? b = some o) -> Q () { s with heap:=h',toks:=s.toks + 2 }) :
  wpAny (model prog w) A (setAttr (.ref x) name v) Q E s:=by
 refine gc F X (od:=none) ⟨hx,rfl,rfl,trivial⟩ hn ?_
 refine wpAny_bind (wpAny_pure (wpAny_bind (wpAny_bind (wpAny_loadPart hx (wpAny_bind (PySem.W.Looks.here (s:={ s with toks:=s.toks + 1 }) (PySem.W.looks_clsIn X F.cls) ?_))))))
 rw [F.dct]
 have xs : x ≠ s.heap.objs.size:=Nat.ne_of_lt (Heap.lt_size hx)
 have hx1 : (s.heap.push { cls:=.type "dict",data:=.dict #[] }).get? x = some ⟨.ref C,none,.fields vs,sl⟩:=Heap.get?_push_of_some _ hx
 show wpAny _ _ (alloc { cls:=.type "dict",data:=.dict #[] } >>= _) _ _ _
 refine wpAny_bind (wpAny_alloc (wpAny_bind (wpAny_update hx1 (wpAny_pure ?_))))
 have gx:=Heap.get?_update_self (fun o => { cls:=o.cls,dict:=some s.heap.objs.size,data:=o.data,slots:=o.slots }) hx1 rfl
 have gd:=(Heap.get?_update_other (s.heap.push { cls:=.type "dict",data:=.dict #[] }) (fun o => { cls:=o.cls,dict:=some s.heap.objs.size,data:=o.data,slots:=o.slots }) xs).trans (Heap.get?_push_size s.heap rfl)
 have go : ∀ b o,b ≠ x -> s.heap.get? b = some o -> ((s.heap.push { cls:=.type "dict",data:=.dict #[] }).update x fun o => { cls:=o.cls,dict:=some s.heap.objs.size,data:=o.data,slots:=o.slots }).get? b = some o:=fun b o nb e => (Heap.get?_update_other _ _ (Ne.symm nb)).trans (Heap.get?_push_of_some _ e)
 generalize (s.heap.push { cls:=.type "dict",data:=.dict #[] }).update x (fun o => { cls:=o.cls,dict:=some s.heap.objs.size,data:=o.data,slots:=o.slots }) = h2 at gx gd go
 have nd : h2.Ns s.heap.objs.size (fun _ => none):=⟨_,#[],_,gd,rfl,fun e he => absurd he (by simp),fun _ => rfl⟩
 refine wpAny_bind (wpAny_pure (wpAny_bind (wpAny_nsSet1 (Heap.Ns1.of_empty nd) fun h' hn2 hs2 => ?_)))
 obtain ⟨oD,esD,epD,hoD,hdD,hcD⟩:=hn2.count (PySem.Within.cons name v PySem.Within.nil)
 refine wpAny_bind (wpAny_lookBehind hoD (by rw [hdD]; exact pastItsLine_dict (Nat.le_trans hcD (by rw [List.length_cons,List.length_nil,sizeLine_eq]; omega))) ?_)
 exact wpAny_pure ⟨rfl,h h' ((hs2.2 x xs).trans gx) hn2 fun b o nb e => (hs2.2 b (Nat.ne_of_lt (Heap.lt_size e))).trans (go b o nb e)⟩
end
section
variable {X : Cx} {pins : List (Addr × Obj)} {σ : St} {H : Hp} {s : Shared} {e C dx : Addr} {f : Str} {fs : List (Str × V)} {y : V} {u : Value} {rd : Bool} {A : Around} {E : Value -> Shared -> Prop} {cd : ClassData} {h' : Heap}
theorem Inv.xlay {t' : Nat} {o1 o2 : HO} (I : Inv X pins σ H s) (hm : Mut (H e)) (hd : s.heap.get? dx = none) (hdH : H dx = none) (hne : dx ≠ e) (k : ∀ b o,b ≠ e -> s.heap.get? b = some o -> h'.get? b = some o) (he : ∃ o,h'.get? e = some o)
  (n1 : ObjOk X.prog X.w (upd (upd H dx o1) e o2) h' dx o1) (n2 : ObjOk X.prog X.w (upd (upd H dx o1) e o2) h' e o2) : Inv X pins σ (upd (upd H dx o1) e o2) { s with heap:=h',toks:=t' }:=by
 have hs : ∃ q,H e = some q:=by cases q : H e with
  | none => rw [q] at hm; exact hm.elim
  | some o => exact ⟨o,rfl⟩
 obtain ⟨q,hq⟩:=hs
 have ne : ∀ b,H b = none -> b ≠ e:=fun b z w => by subst w; rw [hq] at z; cases z
 have nd : ∀ b o,s.heap.get? b = some o -> b ≠ dx:=fun b o z w => by subst w; rw [hd] at z; cases z
 have nm : ∀ b o,H b = some o -> Mut (some o) = False -> b ≠ e /\ b ≠ dx:=fun b o z m => ⟨fun w => by subst w; rw [z] at hm; rw [m] at hm; exact hm,fun w => by subst w; rw [hdH] at z; cases z⟩
 have st : ∀ b o,H b = some o -> Mut (some o) = False -> upd (upd H dx o1) e o2 b = some o:=fun b o z m => by rw [aq (nm b o z m).1,aq (nm b o z m).2]; exact z
 refine I.un ⟨fun b o z n _ _ => k b o (ne b n) z,fun b o z n _ _ => ⟨o.slots,k b o (ne b n) z⟩,fun b o z n _ => by rw [aq (ne b n),aq (nd b o z)]; exact n,fun b o z _ => ?_,fun b xs z => st b _ z rfl,fun b o u z => st b _ z rfl,fun b ps z => ⟨#[],by rw [st b _ z rfl]; simp⟩⟩ fun b u z => ?_
 ·
  by_cases w : b = e
  ·
   subst w; exact he
  ·
   exact ⟨o,k b o w z⟩
 ·
  by_cases w : b = e
  ·
   subst w; rw [aC] at z; cases z; exact n2
  ·
   rw [aq w] at z
   by_cases w2 : b = dx
   ·
    subst w2; rw [aC] at z; cases z; exact n1
   ·
    rw [aq w2] at z
    refine (I.hok b u z).stay (fun c v hc r => k c v ?_ r) (fun c r => st c _ r rfl) fun c xs r => st c _ r rfl
    rcases hc with rfl | hc
    ·
     exact w
    ·
     exact (nm c _ hc rfl).1
theorem om {mA : Str -> Option Value} (r : ∀ g,RelO (fs.lookup g) (mA g)) (wi : PySem.Within mA (fs.map (·.1))) (ry : RelV y u) :
  (∀ g,RelO ((cU f y fs).lookup g) (if g = f then some u else mA g)) /\ PySem.Within (fun g => if g = f then some u else mA g) ((cU f y fs).map (·.1)):=by
 refine ⟨fun g => ?_,fun g hg => ?_⟩
 ·
  rw [dL]
  by_cases q : g = f
  ·
   rw [if_pos q,if_pos q]; exact ry
  ·
   rw [if_neg q,if_neg q]; exact r g
 ·
  by_cases q : g = f
  ·
   rw [q]; exact (dz f y fs).1
  ·
   refine (dz f y fs).2 g (wi g fun z => hg ?_)
   show (if g = f then some u else mA g) = none
   rw [if_neg q]; exact z
theorem yP {Q : Unit -> Shared -> Prop} (F : XSet X.K C cd) (I : Inv X pins σ H s) (he : H e = some (exO e C none rd)) (hn : PySem.W.findIn X.K (.ref C) f = some none) (ry : RelV y u)
  (h : ∀ dx s',H dx = none -> dx ≠ e -> Inv X pins σ (upd (upd H dx (dxO dx [(f,y)])) e (exO e C (some dx) rd)) s' -> Q () s') : wpAny (model X.prog X.w) A (setAttr (.ref e) f u) Q E s:=by
 obtain ⟨vs,sl,hx,hv⟩:=exO.of I.hok he
 have fr : H s.heap.objs.size = none:=I.hok.fresh (Nat.le_refl _)
 have ne : s.heap.objs.size ≠ e:=Nat.ne_of_gt (Heap.lt_size hx)
 refine ol F I.kIn hx hn fun h' gx hd k => h s.heap.objs.size _ fr ne ?_
 have dp : dxP s.heap.objs.size [(f,y)] h':=by
  have:=om (f:=f) (fs:=[]) (mA:=fun _ => none) (y:=y) (u:=u) (fun _ => trivial) PySem.Within.nil ry
  exact ⟨_,hd,this.1,this.2⟩
 exact I.xlay (by rw [he]; exact trivial) (Heap.get?_none_of_le (Nat.le_refl _)) fr ne k ⟨_,gx⟩ (dxO.ok dp) (exO.ok ⟨vs,sl,gx,hv⟩)
theorem yQ {Q : Unit -> Shared -> Prop} (F : XSet X.K C cd) (I : Inv X pins σ H s) (he : H e = some (exO e C (some dx) rd)) (hd : H dx = some (dxO dx fs)) (hl : fs.length < 1000) (hn : PySem.W.findIn X.K (.ref C) f = some none) (ry : RelV y u)
  (h : ∀ s',Inv X pins σ (upd H dx (dxO dx (cU f y fs))) s' -> Q () s') : wpAny (model X.prog X.w) A (setAttr (.ref e) f u) Q E s:=by
 obtain ⟨vs,sl,hx,hv⟩:=exO.of I.hok he
 obtain ⟨mA,hns,r,wi⟩:=dxO.of I.hok hd
 have hz : (fs.map (·.1)).length < sizeLine:=by rw [List.length_map,sizeLine_eq]; omega
 refine lV F I.kIn hx hns wi hz hn fun h' hn2 sb => h _ ?_
 have:=om (f:=f) r wi ry
 have dp : dxP dx (cU f y fs) h':=⟨_,hn2,this.1,this.2⟩
 exact I.write (x:=dx) (e:=dx) (by rw [hd]; exact trivial) (.inl rfl) (fun b q nb z => (sb.2 b nb).trans z) (let ⟨o,_,_,z,_⟩:=hn2; ⟨o,z⟩) (dxO.ok dp)
end
theorem jW {K : PySem.W.Frag} {h : Heap} {N : Addr} {mN : Str -> Option Value} {n : Str} {v : Value} (X : K.In h) (G : h.Ns N mN) (e : PySem.W.nsIn K N n = some (some v)) : mN n = some v:=by
 obtain ⟨o,es,ep,ho,hd,_,hf⟩:=G
 unfold PySem.W.nsIn at e
 split at e
 ·
  rename_i q
  have:=X _ _ q
  rw [ho] at this
  cases this
  cases hd
  split at e
  ·
   rename_i he
   rw [<- hf]
   unfold nsFind findBy
   rw [<- Array.find?_toList,he]
   simpa using e
  ·
   split at e <;> cases e
 ·
  cases e
noncomputable def ou (K : PySem.W.Frag) (C f : Addr) (bmB : List Value) (newId : String) : Bool:=match K.lookup C with
 | some ⟨.type "type",_,.cls cd,sl⟩ => (match cd.mro,sl.toList with
  | .ref C' :: bm,[_,_,_,_,some (.builtin n),_] => C' == C && (n == newId && (!cd.hasDel && (PySem.W.tailIn K bmB bm && (PySem.W.nsOkIn K cd.ns && PySem.W.nsIn K cd.ns "__init__" == some (some (.ref f))))))
  | _,_ => false)
 | _ => false
def yR (h : Heap) (C f : Addr) (bmB : List Value) (newId : String) : Prop :=
 ∃ (bm : List Value) (N : Addr) (nm q : Str) (bs : List Value) (hd : Bool) (sn : List Str) (sub : List Value) (ab : Bool) (col : Option Bool) (dd : Option Addr) (k0 k1 k2 k3 k5 : Option Value) (mN : Str -> Option Value),
  h.get? C = some (excClassObj nm q C N bs bm hd sn sub ab col dd k0 k1 k2 k3 k5 newId) /\ h.Ns N mN /\ mN "__init__" = some (.ref f) /\ OwnTail h bmB bm
theorem kZ {K : PySem.W.Frag} {h : Heap} {C f : Addr} {bmB : List Value} {newId : String} (X : K.In h) (q : ou K C f bmB newId = true) : yR h C f bmB newId:=by
 unfold ou at q
 split at q
 ·
  rename_i dd cd sl ho
  split at q
  ·
   rename_i C' bm k0 k1 k2 k3 n k5 hm hs
   simp only [Bool.and_eq_true,beq_iff_eq,Bool.not_eq_true'] at q
   obtain ⟨rfl,rfl,hdel,ht,hok,hi⟩:=q
   obtain ⟨nm,bs,mro,ns,qn,hd,sn,sub,ab,col,del⟩:=cd
   dsimp only at hm hdel hok hi
   subst hm hdel
   have hsl : sl = #[k0,k1,k2,k3,some (.builtin n),k5]:=by
    obtain ⟨l⟩:=sl
    simp only at hs
    rw [hs]
   subst hsl
   have G : h.Ns ns (h.nsMap ns):=.of_isNs (PySem.W.isNs_of_in X hok)
   exact ⟨bm,ns,nm,qn,bs,hd,sn,sub,ab,col,dd,k0,k1,k2,k3,k5,_,X _ _ ho,G,jW X G hi,PySem.W.tail_of_in X ht⟩
  ·
   cases q
 ·
  cases q
structure XMk (K : PySem.W.Frag) (C f : Addr) (bmB : List Value) (newId : String) : Prop where
 makes : ou K C f bmB newId = true
 fn : PySem.W.isFn K (.ref f) = true
 kp : PySem.W.keepIn K (.ref C) = true
section
variable {X : Cx} {CX : CXT} {k : Nat} {f C : Addr} {fd : FuncData} {ps : List Str} {sp : Sp} {ds : List Value} {E : XK} {bmB : List Value} {newId nid B Bn initId inN : String} {bmN : List Value}
theorem Inv.xmade {pins : List (Addr × Obj)} {σ : St} {H : Hp} {s : Shared} (I : Inv X pins σ H s) (us : List Value) : Inv X pins σ (upd H (s.heap.objs.size + 1) (exO (s.heap.objs.size + 1) C none true)) { s with heap:=lT s.heap C us }:=by
 have up : ∀ b o,s.heap.get? b = some o -> (lT s.heap C us).get? b = some o:=fun b o e => Heap.get?_push_of_some _ (Heap.get?_push_of_some _ e)
 refine I.laid (t':=s.toks) (a:=s.heap.objs.size + 1) up (Nat.le_succ _) (exO.ok ⟨#[.ref s.heap.objs.size,.none,.none,.none,.bool false,.none],#[],?_,fun _ => rfl⟩)
 have:=Heap.get?_push_size (s.heap.push { cls:=.type "tuple",data:=.seq us.toArray }) (o:={ cls:=.ref C,data:=.fields #[.ref s.heap.objs.size,.none,.none,.none,.bool false,.none] }) rfl
 rw [Heap.size_push] at this
 exact this
theorem lW {pins : List (Addr × Obj)} {σ : St} {H : Hp} {s : Shared} {Q : VK} {us : List Value} {vs : List V} (Fn : ExcBaseFacts Bn newId inN bmN) (hBn : bmB.contains (.type Bn) = true) (FB : ExcBaseFacts B nid initId bmB) (M : XMk X.K C f bmB newId)
  (F : FnOk X.prog X.w X.K X.mg X.base CX0 k f fd ps sp) (hr : Room (k + 1) X.A) (hb : Binds X.K fd ps []) (I : Inv X pins σ H s) (r : Vals vs us) (hz : us.length <= sizeLine)
  (h : ∀ x,H x = none -> s.heap.objs.size <= x -> sp (.ref x :: vs) (upd H x (exO x C none true)) (fun v H2 => v = .non /\ Q (.ref x) H2) E0) :
  wpAny (model X.prog X.w) X.A (call (.ref C) us) (EP X pins σ Q) X.xe s:=by
 have hq:=h (s.heap.objs.size + 1) (I.hok.fresh (Nat.le_succ _)) (Nat.le_succ _)
 have I2:=Inv.xmade (C:=C) I us
 have r2 : Vals (V.ref (s.heap.objs.size + 1) :: vs) (Value.ref (s.heap.objs.size + 1) :: us):=.cons rfl r
 have hl : (Value.ref (s.heap.objs.size + 1) :: us ++ []).length = ps.length:=by
  have e:=r2.length
  rw [F.len _ _ _ _ hq] at e
  rw [List.append_nil]
  exact e.symm
 obtain ⟨bm,N,nm,q,bs,hd,sn,sub,ab,col,dd,k0,k1,k2,k3,k5,mN,hC,hn,hi,T⟩:=kZ I.kIn M.makes
 have hfn : ∃ oI,X.K.lookup f = some oI /\ oI.cls = .type "function":=by
  have:=beq_iff_eq.mp M.fn
  exact Option.map_eq_some_iff.mp this
 obtain ⟨oI,lk,hcI⟩:=hfn
 have hf:=I.kIn _ _ lk
 have run:=F.run _ X.stack _ _ ⟨Value.ref (s.heap.objs.size + 1) :: us,[]⟩ (Value.ref (s.heap.objs.size + 1) :: us) _ _ E0 (hr.make C us []) (I2.env0.make C us []) (by have:=hb _ (Value.ref (s.heap.objs.size + 1) :: us) I2.kIn hl; rw [List.append_nil] at this; exact this) r2 hq
 obtain ⟨hp,g,d,t,os⟩:=s
 refine oh Fn hBn FB T hC hn hi hf hcI hz (wpAny_call (codeAny_mono run fun r s' hq' => ?_))
 cases r with
 | error e => exact hq'.elim
 | ok fl =>
  cases fl with
  | ret u =>
   obtain ⟨v,H',I3,rv,ev,q3⟩:=I2.after hq'
   subst ev
   exact ⟨rv,⟨V.ref (hp.objs.size + 1),H',I3,rfl,q3⟩⟩
  | next => exact False.elim hq'
  | brk => exact False.elim hq'
  | cont => exact False.elim hq'
end
section
variable {M : Model} {A : Around} {E : Value -> Shared -> Prop} {env : Env} {f C : Addr} {bmB : List Value} {newId : String} {d : Option Addr}
theorem lX {s : Shared} {x : Sem Value} {Q : Flow -> Shared -> Prop} (hb : bmB.contains (.type "BaseException") = true) (hh : A.handled = none)
  (h : wpAny M A x (fun v s₁ => ∃ e vs sl d,v = .ref e /\ yR s₁.heap C f bmB newId /\ s₁.heap.get? e = some ⟨.ref C,d,.fields vs,sl⟩ /\ vs[1]? = some .none /\ E (.ref e) s₁) E s) :
  wpAny M A (raiseStmt env (some x) none) Q E s:=by
 unfold raiseStmt
 refine wpAny_bind (wpAny_mono h (fun v s₁ h₁ => ?_) fun _ _ z => z)
 obtain ⟨e,vs,sl,d,rfl,⟨bm,N,nm,q,bs,hd,sn,sub,ab,col,dd,k0,k1,k2,k3,k5,mN,hC,hn,hi,T⟩,he,h1,hE⟩:=h₁
 have hcB : (Value.ref C :: bm).contains (.type "BaseException") = true:=by rw [List.contains_cons,T.hasType hb,Bool.or_true]
 obtain ⟨hp,g,dr,tk,os⟩:=s₁
 repeat (first | (with_reducible refine wpAny_loadPart_at he ?_) | (with_reducible refine wpAny_loadPart_at hC ?_) | (with_reducible refine wpAny_isSubtype_exc hC ?_; rw [hcB]) | (with_reducible refine wpAny_field he rfl h1 ?_) | wp_step)
 exact wpAny_raiseNew_none hh hE
end
noncomputable def rem (H : Hp) (e : Addr) : Hp:=fun b => if b = e then none else H b
theorem i6 {H : Hp} {e : Addr} : rem H e e = none:=by unfold rem; rw [if_pos rfl]
theorem cL {H : Hp} {e b : Addr} (h : b ≠ e) : rem H e b = H b:=by unfold rem; rw [if_neg h]
theorem dm {H : Hp} {e b : Addr} (h : H b = none) : rem H e b = none:=by
 unfold rem
 split
 ·
  rfl
 ·
  exact h
section
variable {X : Cx} {pins : List (Addr × Obj)} {σ : St} {H : Hp} {s : Shared} {e : Addr} {φ : Heap -> Prop}
theorem Inv.rem (I : Inv X pins σ H s) (he : H e = some (.ext φ)) : Inv X pins σ (rem H e) s:=by
 have ne : ∀ b o,H b = some o -> (∀ ψ,o ≠ .ext ψ) -> b ≠ e:=fun b o z n w => by subst w; rw [he] at z; cases z; exact n φ rfl
 obtain ⟨ok,os,bare,⟨u1,u2,u3,u4,u5,u6,u7⟩,loc,cell,free,freeC,pin,hok,len⟩:=I
 refine ⟨ok,os,bare,⟨u1,u2,fun b o z n m => dm (u3 b o z n m),u4,fun b xs z => ?_,fun b o u z => ?_,fun b ps z => ?_⟩,loc,cell,dm free,fun x c z => dm (freeC x c z),fun p hp => ⟨(pin p hp).1,dm (pin p hp).2.1,(pin p hp).2.2⟩,fun b u z => ?_,len⟩
 ·
  have:=u5 b xs z
  rw [cL (ne b _ this (fun _ => nofun))]; exact this
 ·
  have:=u6 b o u z
  rw [cL (ne b _ this (fun _ => nofun))]; exact this
 ·
  obtain ⟨m,q⟩:=u7 b ps z
  exact ⟨m,by rw [cL (ne b _ q (fun _ => nofun))]; exact q⟩
 ·
  by_cases w : b = e
  ·
   subst w; rw [i6] at z; cases z
  ·
   rw [cL w] at z
   exact (hok b u z).stay (fun _ _ _ r => r) (fun c r => by rw [cL (ne c _ r (fun _ => nofun))]; exact r) fun c xs r => by rw [cL (ne c _ r (fun _ => nofun))]; exact r
end
section
variable {X : Cx} {k : Nat} {f C : Addr} {fd : FuncData} {ps : List Str} {sp : Sp} {E : St -> XK} {bmB : List Value} {newId nid B Bn initId inN : String} {bmN : List Value} {x : Str} {np cpos pos : Pos} {e : Expr} {es : List Expr} {t : TA}
def vL (C : Addr) (sp : Sp) (E : St -> XK) (t : TA) : TS:=fun _ σ H => t σ H fun vs H1 => vs.length <= sizeLine /\ ∀ e,H1 e = none -> ∀ Q : VK,(∀ H2 dx,H2 e = some (exO e C (some dx) true) -> E σ (.ref C) (some dx) (rem H2 e) -> Q .non H2) -> sp (.ref e :: vs) (upd H1 e (exO e C none true)) Q E0
theorem ow (hc : X.calm = true) (Fn : ExcBaseFacts Bn newId inN bmN) (hBn : bmB.contains (.type Bn) = true) (FB : ExcBaseFacts B nid initId bmB) (M : XMk X.K C f bmB newId) (F : FnOk X.prog X.w X.K X.mg X.base CX0 k f fd ps sp) (hr : Room (k + 1) X.A) (hb : Binds X.K fd ps [])
  (hg : Gl X x) (hm : X.mg x = some (.ref C)) (hM : lU X E) (ha : PA X (e :: es) t) (hdb : (x == ("__debug__" : Str)) = false:=by decide) (he : starEach (e :: es) X.env = (false,eval e X.env) :: starEach es X.env:=by rfl) (hpl : (backTo cpos (starEach es X.env)).any (·.1) = false:=by rfl) :
  PS X (.Raise (some (.Call (.Name x np) (e :: es) [] cpos)) none pos) (vL C sp E t):=by
 intro pins s σ H D I h
 rw [arm_exec_Raise]
 refine wpAny_bind (wpAny_standAt (lX (C:=C) (f:=f) (newId:=newId) FB.hasBase (I.ok.hd hc) ?_))
 refine wpAny_bind ?_
 refine wpAny_Call_Name_kw (cR I hg hm ?_ hdb)
 refine PySem.W.callWith_K (h₀:=X.base) I.ok.mod.kin M.kp (thn (ha cpos pins s σ H _ I h) fun us s1 ⟨vs,H1,I1,r,hz,q⟩ => ⟨I1.kIn,?_⟩) he hpl
 refine thn (lW (Q:=fun v H2 => ∃ a dx,v = .ref a /\ s1.heap.objs.size <= a /\ H2 a = some (exO a C (some dx) true) /\ E σ (.ref C) (some dx) (rem H2 a)) Fn hBn FB M F hr hb I1 r (by show us.length <= _; rw [<- r.length]; exact hz) fun a ha0 hn0 => ?_) fun u s2 ⟨v,H2,I2,rv,a,dx,ev,hn,hex,hE⟩ => ?_
 ·
  exact q a ha0 _ fun H2 dx h1 h2 => ⟨rfl,a,dx,rfl,hn0,h1,h2⟩
 ·
  subst ev
  obtain rfl : u = Value.ref a:=rv
  obtain ⟨vs',sl,ho,h1⟩:=exO.of I2.hok hex
  refine wpAny_bind (wpAny_standAt (wpAny_pure ⟨a,vs',sl,some dx,rfl,kZ I2.kIn M.makes,ho,h1 rfl,hM pins σ (rem H2 a) s2 a C dx ⟨I2.rem hex,I1.newer hn,i6,.inl ⟨vs',sl,ho,h1 rfl⟩⟩ hE⟩))
end
section
variable {X : Cx} {pins : List (Addr × Obj)} {σ : St} {H : Hp} {s : Shared} {ea C dx : Addr} {h' : Heap}
theorem lY (hs : X.stack = X.env :: X.outer) (hf : X.env.frame = some X.env.locals) : fra X.stack = X.env.locals :: X.fs:=by
 rw [hs]
 show List.filterMap _ (X.env :: X.outer) = _
 rw [List.filterMap_cons,hf]
 rfl
theorem Inv.kpx (I : Inv X pins σ H s) (hs : X.stack = X.env :: X.outer) (hf : X.env.frame = some X.env.locals) (k : Kpx (fra X.stack) ea (SX X pins H) s.heap h') (free : H ea = none)
  (new : X.s₀.heap.objs.size <= ea /\ ea ≠ X.env.locals /\ (∀ x c,X.env.cells.lookup x = some c -> c ≠ ea) /\ ∀ p ∈ X.pn ++ pins,p.1 ≠ ea) : Inv X pins σ H { s with heap:=h' }:=by
 have hfs:=lY hs hf
 obtain ⟨xs,nx,kp⟩:=k.ex
 have nfr : ∀ b,b ≠ X.env.locals -> b ∉ X.fs -> b ∉ fra X.stack:=fun b n1 n2 z => by
  rw [hfs] at z
  exact (List.mem_cons.mp z).elim n1 n2
 have mfr : ∀ b,b ∈ X.fs -> b ∈ fra X.stack:=fun b z => by rw [hfs]; exact List.mem_cons_of_mem _ z
 have lfr : X.env.locals ∈ fra X.stack:=by rw [hfs]; exact List.mem_cons_self
 refine I.step (ch:=ea :: xs) (g':=s.gens) (d':=s.drawn) (t':=s.toks) (fun b hb => ?_) (fun b o n1 n2 nc e _ => kp b o e (nfr b n1 n2) (fun z => nc (z ▸ List.mem_cons_self)) fun z => nc (List.mem_cons_of_mem _ z))
  (fun b o _ mf _ e _ => k.slot b o e (mfr b mf)) (fun _ _ _ _ n => n) (fun b o nc e => ?_) (fun _ _ e => e) (fun _ _ _ e => e) (fun b ps e => ⟨#[],by rw [e]; simp⟩) (fun m hm => ?_)
  (k.hok (fun b u e => .inl (.inr ⟨u,e⟩)) (fun b hb => I.stkFree b hb) free I.hok) I.bare
 ·
  rcases List.mem_cons.mp hb with rfl | hb
  ·
   exact ⟨.inr new.1,new.2⟩
  ·
   have:=nx b hb
   refine ⟨.inr (Nat.le_of_not_lt fun z => this (.inl (.inl z))),fun z => this (.inr (.inr (.inr z))),fun x c hc z => this (.inr (.inr (.inl ⟨x,z ▸ hc⟩))),fun p hp z => this (.inr (.inl ⟨p,hp,z⟩))⟩
 ·
  by_cases mf : b ∈ fra X.stack
  ·
   obtain ⟨sl,q⟩:=k.slot b o e mf
   exact ⟨_,q⟩
  ·
   exact ⟨o,kp b o e mf (fun z => nc (z ▸ List.mem_cons_self)) fun z => nc (List.mem_cons_of_mem _ z)⟩
 ·
  obtain ⟨o,es,ep,ho,r⟩:=hm
  obtain ⟨sl,q⟩:=k.slot _ o ho lfr
  exact ⟨_,es,ep,q,r⟩
theorem Inv.track (I : Inv X pins σ H s) (free : H ea = none) (new : X.s₀.heap.objs.size <= ea /\ ea ≠ X.env.locals /\ (∀ x c,X.env.cells.lookup x = some c -> c ≠ ea) /\ ∀ p ∈ X.pn ++ pins,p.1 ≠ ea) {φ : Heap -> Prop} (ok : ObjOk X.prog X.w (upd H ea (.ext φ)) s.heap ea (.ext φ)) :
  Inv X pins σ (upd H ea (.ext φ)) s:=by
 have ne : ∀ b o,H b = some o -> b ≠ ea:=fun b o z w => by subst w; rw [free] at z; cases z
 obtain ⟨iok,os,bare,⟨u1,u2,u3,u4,u5,u6,u7⟩,loc,cell,fr,freeC,pin,hok,len⟩:=I
 refine ⟨iok,os,bare,⟨u1,u2,fun b o z n m => ?_,u4,fun b xs z => ?_,fun b o u z => ?_,fun b ps z => ?_⟩,loc,cell,by rw [aq (Ne.symm new.2.1)]; exact fr,fun x c z => by rw [aq (new.2.2.1 x c z)]; exact freeC x c z,fun p hp => ⟨(pin p hp).1,by rw [aq (new.2.2.2 p hp)]; exact (pin p hp).2.1,(pin p hp).2.2⟩,fun b u z => ?_,len⟩
 ·
  rw [aq fun w => by subst w; exact absurd (Heap.lt_size z) (Nat.not_lt_of_le new.1)]
  exact u3 b o z n m
 ·
  have:=u5 b xs z
  rw [aq (ne b _ this)]; exact this
 ·
  have:=u6 b o u z
  rw [aq (ne b _ this)]; exact this
 ·
  obtain ⟨m,q⟩:=u7 b ps z
  exact ⟨m,by rw [aq (ne b _ q)]; exact q⟩
 ·
  by_cases w : b = ea
  ·
   subst w; rw [aC] at z; cases z; exact ok
  ·
   rw [aq w] at z
   exact (hok b u z).stay (fun _ _ _ r => r) (fun c r => by rw [aq (ne c _ r)]; exact r) fun c xs r => by rw [aq (ne c _ r)]; exact r
end
def Cx.inH (X : Cx) (e : Addr) : Cx:={ X with A:=X.A.mark (some (.ref e)),calm:=false,xe:=fun _ _ => False }
section
variable {X : Cx} {pins : List (Addr × Obj)} {σ : St} {H : Hp} {s : Shared} {ea : Addr}
theorem Inv.inH (I : Inv X pins σ H s) : Inv (X.inH ea) pins σ H s:=by
 obtain ⟨ok,os,bare,base,loc,cell,fr,freeC,pin,hok,len⟩:=I
 exact ⟨⟨ok.mod,ok.kind,ok.glob,ok.blt,ok.above,ok.inj,ok.has,ok.cab,(fun z => nomatch z),ok.frames,ok.stk,ok.exf,ok.bs,ok.bsz,ok.noex,ok.exfs,ok.funs,ok.frf⟩,os,bare,base,loc,cell,fr,freeC,pin,hok,len⟩
theorem Inv.outH (I : Inv (X.inH ea) pins σ H s) (ok : X.Ok) : Inv X pins σ H s:=by
 obtain ⟨_,os,bare,base,loc,cell,fr,freeC,pin,hok,len⟩:=I
 exact ⟨ok,os,bare,base,loc,cell,fr,freeC,pin,hok,len⟩
end
section
variable {prog : Program} {w : World} {A : Around} {E : Value -> Shared -> Prop} {K : PySem.W.Frag} {s : Shared} {ea C R : Addr}
noncomputable def askIn (K : PySem.W.Frag) (R : Addr) : Bool:=match K.lookup R with
 | some ⟨.type t,_,.cls _,_⟩ => t == "type"
 | _ => false
theorem vM {K : PySem.W.Frag} {R : Addr} (h : askIn K R = true) : ∃ dd cd sl,K.lookup R = some ⟨.type "type",dd,.cls cd,sl⟩:=by
 unfold askIn at h
 split at h
 ·
  rename_i t dd cd sl q
  rw [beq_iff_eq.mp h] at q
  exact ⟨dd,cd,sl,q⟩
 ·
  cases h
structure XAsk (K : PySem.W.Frag) (R : Addr) : Prop where
 at_ : askIn K R = true
 base : PySem.W.mroIn K R (.type "BaseException") = some true
theorem lZ {oe : Obj} {b : Bool} {Q : Bool -> Shared -> Prop} (a : XAsk K R) (X : K.In s.heap) (he : s.heap.get? ea = some oe) (hc : oe.cls = .ref C) (hm : PySem.W.mroIn K C (.ref R) = some b) (h : Q b s) :
  wpAny (model prog w) A (excMatches (.ref ea) (.ref R)) Q E s:=by
 obtain ⟨hat,hb⟩:=a
 obtain ⟨dd,cd,sl,lk⟩:=vM hat
 have hR:=X _ _ lk
 have L1 : PySem.W.Looks (model prog w) s.heap (isSubtype (.ref R) (.type "BaseException")) true:=PySem.W.looks_mroIn X hb
 have L2 : PySem.W.Looks (model prog w) s.heap (isSubtype (.ref C) (.ref R)) b:=PySem.W.looks_mroIn X hm
 have f1 : isSubtype (.type "type") (.type "tuple") = pure false:=by rw [isSubtype_type]; kernel_rfl
 obtain ⟨hp,g,d,tk,os⟩:=s
 unfold excMatches
 repeat (first | (with_reducible refine wpAny_loadPart_at hR ?_) | (with_reducible refine wpAny_loadPart_at he ?_; rw [hc]) | (with_reducible refine PySem.W.Looks.here (s:=⟨hp,g,d,tk,os⟩) L1 ?_) | (with_reducible refine PySem.W.Looks.here (s:=⟨hp,g,d,tk,os⟩) L2 ?_) | wp_step)
 cases b <;> (wp_walk; exact h)
end
section
variable {X : Cx} {pins : List (Addr × Obj)} {σ : St} {H : Hp} {s : Shared} {ea C dx R : Addr} {M : Model} {A : Around} {E : Value -> Shared -> Prop}
theorem name_goes {i : Nat} {n : Str} {pos : Pos} {Q : Unit -> Shared -> Prop} (I : Inv X pins σ H s) (hN : X.N.Nodup) (hi : X.N[i]? = some n) (hl : X.env.scope.names.lookup n = some .local)
  (h : ∀ s',Inv X pins (σ.set i none) H s' -> Q () s') : wpAny M A (do bindName X.env n .none; unbindBehindTheSuite X.env n pos) Q E s:=by
 refine wpAny_bind (wpAny_bindName (cP (v:=.non) (u:=.none) I hN hi (.inl hl) rfl (fun s1 I1 _ => ?_) (.inr hl)))
 unfold unbindBehindTheSuite
 refine wpAny_onRaise ?_
 obtain ⟨m,hn,hlk⟩:=id I1.loc
 have hcls : (X.env.scope.kind == .class || (X.env.scope.kind == .module && X.env.locals != X.env.globals)) = false:=by rw [I1.ok.kind]; rfl
 have hiσ : i < σ.length:=by rw [I.len]; exact (List.getElem?_eq_some_iff.mp hi).1
 obtain ⟨u,ru,lk⟩:=hlk i n .non hi (by rw [List.getElem?_set_self hiσ]) (.inl hl)
 have hv : m n = some u:=by
  rcases lk with ⟨_,z⟩ | ⟨z,_⟩
  ·
   exact z
  ·
   have hk : X.env.kindOf n = some .local:=hl
   rcases z with z | z <;> rw [hk] at z <;> cases z
 have cne:=I1.cne
 obtain ⟨oL,_,_,hoL,_⟩:=id hn
 refine wpAny_unbindName_local hl hn hv hcls fun h' u' hn' hs => h _ ⟨I1.ok,I1.os,I1.bare,⟨fun b o e n hb hx => ?_,fun b o e n hb hx => ?_,I1.base.free,fun b o e hx => ?_,I1.base.tups,I1.base.frzs,I1.base.tbls⟩,⟨_,hn',fun j y v' e1 e2 e3 => ?_⟩,fun y c e => ?_,I1.free,I1.freeC,fun p hp => ?_,fun b ob e => ?_,by have:=I1.len; simp only [List.length_set] at this ⊢; exact this⟩
 ·
  exact (hs.2 b (Nat.ne_of_lt (Nat.lt_of_lt_of_le (Heap.lt_size e) I1.ok.above))).trans (I1.base.keep b o e n hb hx)
 ·
  obtain ⟨sl,q⟩:=I1.base.slot b o e n hb hx
  exact ⟨sl,(hs.2 b (Nat.ne_of_lt (Nat.lt_of_lt_of_le (Heap.lt_size e) I1.ok.above))).trans q⟩
 ·
  obtain ⟨o',q⟩:=I1.base.there b o e hx
  exact ⟨o',(hs.2 b (Nat.ne_of_lt (Nat.lt_of_lt_of_le (Heap.lt_size e) I1.ok.above))).trans q⟩
 ·
  by_cases hj : j = i
  ·
   subst hj
   rw [List.getElem?_set_self hiσ] at e2
   cases e2
  ·
   rw [List.getElem?_set_ne (Ne.symm hj)] at e2
   obtain ⟨w',r',q⟩:=hlk j y v' e1 (by rw [List.getElem?_set_ne (Ne.symm hj)]; exact e2) e3
   refine ⟨w',r',?_⟩
   rcases q with ⟨k,e⟩ | ⟨k,c,e,z⟩
   ·
    refine .inl ⟨k,?_⟩
    have : y ≠ n:=fun e => hj (eA hN e1 (e ▸ hi))
    simp [this,e]
   ·
    exact .inr ⟨k,c,e,z.sameBut hs (cne y c e)⟩
 ·
  obtain ⟨w',z⟩:=I1.cell y c e
  exact ⟨w',z.sameBut hs (cne y c e)⟩
 ·
  obtain ⟨e,n,ne,nf,d⟩:=I1.pin p hp
  exact ⟨(hs.2 p.1 ne).trans e,n,ne,nf,d⟩
 ·
  refine (I1.hok b ob e).stay (fun c w' hc q => (hs.2 c ?_).trans q) (fun _ q => q) fun _ _ q => q
  rintro rfl
  have fr:=I1.free
  rcases hc with z | hc
  ·
   rw [<- z,fr] at e; cases e
  ·
   rw [fr] at hc; cases hc
end
noncomputable def mrg (H0 H : Hp) : Hp:=fun b => match H b with
 | some (.tup xs) => some (.tup xs)
 | some (.frz o u) => some (.frz o u)
 | _ => H0 b
theorem dn {H0 H : Hp} {b : Addr} (h : H b = none) : mrg H0 H b = H0 b:=by unfold mrg; rw [h]
theorem g9 {H0 H : Hp} {b : Addr} {xs : List V} (h : H b = some (.tup xs)) : mrg H0 H b = some (.tup xs):=by unfold mrg; rw [h]
theorem hJ {H0 H : Hp} {b : Addr} {o : Obj} {u : HO} (h : H b = some (.frz o u)) : mrg H0 H b = some (.frz o u):=by unfold mrg; rw [h]
theorem hU (H0 H : Hp) (b : Addr) : (∃ xs,H b = some (.tup xs) /\ mrg H0 H b = some (.tup xs)) \/ (∃ o u,H b = some (.frz o u) /\ mrg H0 H b = some (.frz o u)) \/ mrg H0 H b = H0 b:=by
 cases q : H b with
 | none => exact .inr (.inr (dn q))
 | some o =>
  cases o with
  | tup xs => exact .inl ⟨xs,rfl,g9 q⟩
  | frz o u => exact .inr (.inl ⟨o,u,rfl,hJ q⟩)
  | _ => exact .inr (.inr (by unfold mrg; rw [q]))
noncomputable def Cx.atTry (X : Cx) (xe : Value -> Shared -> Prop) (pn : List (Addr × Obj)) (H0 : Hp) : Cx:={ X with xe:=xe,pn:=pn,H₀:=H0 }
section
variable {X : Cx} {pins pins' : List (Addr × Obj)} {σ : St} {H H1 : Hp} {s s1 : Shared} {xe : Value -> Shared -> Prop}
theorem Inv.atTry (I : Inv X pins σ H s) : Inv (X.atTry xe (X.pn ++ pins) (mrg X.H₀ H)) [] σ H s:=by
 have bs:=I.bs
 have fsn : ∀ b ∈ X.fs,H b = none:=fun b hb => by
  obtain ⟨_,o,ho,_⟩:=I.ok.funs.mem hb
  exact I.base.free b o ho (I.ok.frf b hb) fun z => I.ok.exfs b z hb
 obtain ⟨ok,os,bare,⟨u1,u2,u3,u4,u5,u6,u7⟩,loc,cell,fr,freeC,pin,hok,len⟩:=I
 have nn : ∀ b,mrg X.H₀ H b = none -> X.H₀ b = none:=fun b z => by
  rcases hU X.H₀ H b with ⟨xs,_,q⟩ | ⟨o,u,_,q⟩ | q
  ·
   rw [q] at z; cases z
  ·
   rw [q] at z; cases z
  ·
   rw [<- q]; exact z
 refine ⟨⟨ok.mod,ok.kind,ok.glob,ok.blt,ok.above,ok.inj,ok.has,ok.cab,ok.hd,ok.frames,ok.stk,ok.exf,fun b o e => ⟨(ok.bs b o e).1,(dn (bs b o e).2).trans (ok.bs b o e).2⟩,ok.bsz,ok.noex,ok.exfs,ok.funs,fun b hb => (dn (fsn b hb)).trans (ok.frf b hb)⟩,os,bare,
  ⟨fun b o e n => u1 b o e (nn b n),fun b o e n => u2 b o e (nn b n),fun b o e n => u3 b o e (nn b n),u4,fun b xs z => ?_,fun b o u z => ?_,fun b ps z => ?_⟩,loc,cell,fr,freeC,fun p hp => pin p (by simpa [Cx.atTry] using hp),hok,len⟩
 ·
  rcases hU X.H₀ H b with ⟨xs',h,q⟩ | ⟨o,u,h,q⟩ | q
  ·
   rw [show mrg X.H₀ H b = some (.tup xs) from z] at q; cases q; exact h
  ·
   rw [show mrg X.H₀ H b = some (.tup xs) from z] at q; cases q
  ·
   exact u5 b xs (q ▸ z)
 ·
  rcases hU X.H₀ H b with ⟨xs',h,q⟩ | ⟨o',u',h,q⟩ | q
  ·
   rw [show mrg X.H₀ H b = some (.frz o u) from z] at q; cases q
  ·
   rw [show mrg X.H₀ H b = some (.frz o u) from z] at q; cases q; exact h
  ·
   exact u6 b o u (q ▸ z)
 ·
  rcases hU X.H₀ H b with ⟨xs',h,q⟩ | ⟨o',u',h,q⟩ | q
  ·
   rw [show mrg X.H₀ H b = some (.tbl ps) from z] at q; cases q
  ·
   rw [show mrg X.H₀ H b = some (.tbl ps) from z] at q; cases q
  ·
   exact u7 b ps (q ▸ z)
theorem Inv.offTry (I : Inv X pins σ H s) {σ1 : St} (J : Inv (X.atTry xe (X.pn ++ pins) (mrg X.H₀ H)) pins' σ1 H1 s1) : Inv X pins σ1 H1 s1:=by
 have hn : ∀ b o,X.s₀.heap.get? b = some o -> X.H₀ b = none -> b ∉ X.ex -> mrg X.H₀ H b = none:=fun b o e n x => (dn (I.base.free b o e n x)).trans n
 obtain ⟨_,os,bare,⟨u1,u2,u3,u4,u5,u6,u7⟩,loc,cell,fr,freeC,pin,hok,len⟩:=J
 refine ⟨I.ok,os,bare,⟨fun b o e n f x => u1 b o e (hn b o e n x) f x,fun b o e n f x => u2 b o e (hn b o e n x) f x,fun b o e n x => u3 b o e (hn b o e n x) x,u4,fun b xs z => u5 b xs (g9 (I.base.tups b xs z)),fun b o u z => u6 b o u (hJ (I.base.frzs b o u z)),fun b ps z => u7 b ps ?_⟩,loc,cell,fr,freeC,fun p hp => pin p (List.mem_append_left _ hp),hok,len⟩
 obtain ⟨m,q⟩:=I.base.tbls b ps z
 show mrg X.H₀ H b = _
 unfold mrg
 rw [q]
 exact z
theorem vN {K : PySem.W.Frag} {H0 : Hp} {a : Addr} {xs : List V} (h : SqT K H a xs) : SqT K (mrg H0 H) a xs:=by
 rcases h with (h | ⟨o,h⟩) | h
 ·
  exact .inl (.inl (g9 h))
 ·
  exact .inl (.inr ⟨o,hJ h⟩)
 ·
  exact .inr h
theorem Inv.sqt {K : PySem.W.Frag} (I : Inv X pins σ H s) {a : Addr} {xs : List V} (h : SqT K X.H₀ a xs) : SqT K H a xs:=by
 rcases h with (h | ⟨o,h⟩) | h
 ·
  exact .inl (.inl (I.base.tups a xs h))
 ·
  exact .inl (.inr ⟨o,I.base.frzs a o _ h⟩)
 ·
  exact .inr h
end
section
variable {X : Cx} {pins pins' : List (Addr × Obj)} {σ : St} {H : Hp} {s : Shared} {xe : Value -> Shared -> Prop}
theorem SP.offTry (I : Inv X pins σ H s) {D : Ends} {f : Flow} {s' : Shared} (h : SP (X.atTry xe (X.pn ++ pins) (mrg X.H₀ H)) pins' D f s') : SP X pins D f s':=by
 cases f with
 | next => obtain ⟨σ',H',J,q⟩:=h; exact ⟨σ',H',I.offTry J,q⟩
 | brk => obtain ⟨σ',H',J,q⟩:=h; exact ⟨σ',H',I.offTry J,q⟩
 | cont => obtain ⟨σ',H',J,q⟩:=h; exact ⟨σ',H',I.offTry J,q⟩
 | ret u => obtain ⟨v,σ',H',J,r,q⟩:=h; exact ⟨v,σ',H',I.offTry J,r,q⟩
end
noncomputable def Ends.gone (D : Ends) (i : Nat) : Ends:=⟨fun σ H => D.nx (σ.set i none) H,D.rt,fun σ H => D.bk (σ.set i none) H,fun σ H => D.ct (σ.set i none) H⟩
def yS (K : PySem.W.Frag) (Ho : Hp) (R : Addr) (i : Nat) (th : TS) (D : Ends) : St -> XK:=fun σ cls dxo H => ∃ C dx,cls = .ref C /\ dxo = some dx /\ PySem.W.mroIn K C (.ref R) = some true /\
 ((∀ a xs,SqT K Ho a xs -> SqT K H a xs) -> ∀ ea,H ea = none -> th (D.gone i) (σ.set i (some (.ref ea))) (upd H ea (exO ea C (some dx) false)))
def z0 (K : PySem.W.Frag) (R : Addr) (i : Nat) (tb : (St -> XK) -> TS) (th : TS) : TS:=fun D σ H => tb (yS K H R i th D) D σ H
section
variable {X : Cx} {R : Addr} {x n : Str} {np hpos pos : Pos} {body suite : List Stmt} {b₀ : Stmt} {tb : (St -> XK) -> TS} {th : TS} {i : Nat}
theorem vO (hs : X.stack = X.env :: X.outer) (hf : X.env.frame = some X.env.locals) (a : XAsk X.K R) (hg : Gl X x) (hm : X.mg x = some (.ref R)) (hN : X.N.Nodup) (hi : X.N[i]? = some n) (hl : X.env.scope.names.lookup n = some .local)
  (hbody : ∀ (xe : Value -> Shared -> Prop) (pn : List (Addr × Obj)) (H0 : Hp) (Es : St -> XK),lU (X.atTry xe pn H0) Es -> PSs (X.atTry xe pn H0) body (tb Es)) (hsuite : ∀ ea,PSs (X.inH ea) (b₀ :: suite) th) (hdb : (x == ("__debug__" : Str)) = false:=by decide) :
  PS X (.Try body [.ExceptHandler (some (.Name x np)) (some n) (b₀ :: suite) hpos] [] [] pos) (z0 X.K R i tb th):=by
 intro pins s σ H D I h
 refine wpAny_Try_except ?_
 refine wpAny_mono (hbody _ (X.pn ++ pins) (mrg X.H₀ H) (yS X.K H R i th D) ?_ [] s σ H D I.atTry h) (fun f s1 q => ?_) (fun _ _ z => z)
 ·
  intro pins' σ' H' s' ea C dx Fl he
  obtain ⟨C',dx',e1,e2,hmro,hth⟩:=he
  cases e1
  cases e2
  have I0 : Inv X pins σ' H' s':=I.offTry Fl.inv
  replace hth:=hth fun a xs z => Inv.sqt Fl.inv (vN z)
  have free:=Fl.free
  have new : X.s₀.heap.objs.size <= ea /\ ea ≠ X.env.locals /\ (∀ x c,X.env.cells.lookup x = some c -> c ≠ ea) /\ ∀ p ∈ X.pn ++ pins,p.1 ≠ ea:=⟨Fl.new.1,Fl.new.2.1,Fl.new.2.2.1,fun p hp => Fl.new.2.2.2 p (List.mem_append_left _ hp)⟩
  have fly : Rsd s'.heap ea (.ref C) (some dx) \/ Ntd s'.heap (SX X pins H') ea (.ref C) (some dx) .none \/ Ntd s'.heap (SX X pins H') ea (.ref C) (some dx) (rawInt X.env.locals):=by
   rcases Fl.fly with q | q
   ·
    exact .inl q
   ·
    refine .inr (.inl (q.mono fun b hb => ?_))
    rcases hb with hb | ⟨p,hp,e⟩ | hb
    ·
     exact .inl hb
    ·
     exact .inr (.inl ⟨p,List.mem_append_left _ hp,e⟩)
    ·
     exact .inr (.inr hb)
  have hfr:=I0.ok.frames
  have hl0:=I0.stack
  have hfs : ∀ {h'' : Heap},h''.FunFrames X.base X.stack -> ∀ b ∈ fra X.stack,∃ o,h''.get? b = some o /\ ∀ vs,o.data ≠ .fields vs:=fun z b mb => (z.mem mb).2
  show wpAny (model X.prog X.w) X.A (noteFrame (.ref ea) X.env) _ _ s'
  refine note (L:=X.env.locals) (base:=X.base) (outer:=X.outer) (by rw [<- hs]; exact hfr) (by rw [<- hs]; exact hl0) hf fly (fun b hb => I0.sx hb) fun h1 n1 k1 => ?_
  rw [<- hs] at k1
  have I1:=I0.kpx hs hf k1 free new
  refine oi (fs:=fra X.stack) n1 (hfs I1.stack) fun h2 n2 k2 => ?_
  have I2:=I1.kpx hs hf k2 free new
  refine wpAny_handleBy_cons (codeAny_handlers_test (cR (X:=X.inH ea) I2.inH hg hm ?_ hdb)) (by intro q; cases q)
  obtain ⟨vs,sl,T,oT,ts,ho,_⟩:=id n2
  refine lZ a I2.kIn ho rfl hmro ?_
  show codeAny _ _ _ _ _
  refine codeAny_handlers_suite_as ?_
  refine oi (fs:=fra X.stack) n2 (hfs I2.stack) fun h3 n3 k3 => ?_
  have I3:=I2.kpx hs hf k3 free new
  obtain ⟨vs,sl,T,oT,ts,ho,_⟩:=id n3
  have I4:=I3.track (φ:=exP ea C (some dx) false) free new (exO.ok ⟨vs,sl,ho,(fun z => nomatch z)⟩)
  refine cP (v:=.ref ea) (u:=.ref ea) I4 hN hi (.inl hl) rfl (fun s4 I5 _ => ?_) (.inr hl)
  refine wpAny_mono (hsuite ea pins s4 _ _ (D.gone i) I5.inH (hth ea free)) (fun f s5 q => ?_) fun _ _ z => z.elim
  cases f with
  | next => obtain ⟨σ5,H5,I6,q⟩:=q; exact name_goes (I6.outH I0.ok) hN hi hl fun s6 I7 => ⟨_,H5,I7,q⟩
  | brk => obtain ⟨σ5,H5,I6,q⟩:=q; exact name_goes (I6.outH I0.ok) hN hi hl fun s6 I7 => ⟨_,H5,I7,q⟩
  | cont => obtain ⟨σ5,H5,I6,q⟩:=q; exact name_goes (I6.outH I0.ok) hN hi hl fun s6 I7 => ⟨_,H5,I7,q⟩
  | ret u => obtain ⟨v,σ5,H5,I6,r,q⟩:=q; exact name_goes (I6.outH I0.ok) hN hi hl fun s6 I7 => ⟨v,_,H5,I7,r,q⟩
 ·
  cases f with
  | next => exact wpAny_execs_nil (SP.offTry I q)
  | brk => exact (SP.offTry I q)
  | cont => exact (SP.offTry I q)
  | ret u => exact (SP.offTry I q)
end
structure XGet (K : PySem.W.Frag) (C : Addr) : Prop where
 ga : PySem.W.findIn K (.ref C) "__getattribute__" = some (some (.builtin "BaseException.__getattribute__"))
 gt : PySem.W.findIn K (.ref C) "__getattr__" = some none
 be : PySem.W.mroIn K C (.type "BaseException") = some true
 hd : PySem.W.hasDictIn K C = true
section
variable {prog : Program} {w : World} {A : Around} {E : Value -> Shared -> Prop} {K : PySem.W.Frag} {s : Shared} {x C : Addr} {ox : Obj} {od : Obj} {name : Str} {v : Value} {expr : Bool}
theorem z4 {Q : Value -> Shared -> Prop} (F : XGet K C) (X : K.In s.heap) (I : PySem.W.InstAt s.heap x ox C (some od)) (hn : PySem.W.findIn K (.ref C) name = some none) (hv : PySem.W.lookIn name od = some (some v)) (hh : PySem.W.handedIn v = true)
  (h : Q v { s with toks:=s.toks + 1 }) : wpAny (model prog w) A (getAttr (.ref x) name expr) Q E s:=by
 replace h : ∀ t',t' = s.toks + 1 -> Q v { s with toks:=t' }:=fun t' e => e ▸ h
 have hf:=PySem.W.findObj_own (attr:=none) F.hd hn rfl hv
 obtain ⟨hp,g,d,t,os⟩:=s
 have L0:=I.type (M:=model prog w)
 have L1:=PySem.W.looks_findIn (M:=model prog w) X F.ga
 have L2:=PySem.W.looks_findIn (M:=model prog w) X F.gt
 have L3:=PySem.W.looks_find (M:=model prog w) X I hf
 have L4 : PySem.W.Looks (model prog w) hp (isInstance (.ref x) (.type "BaseException")) true:=I.type.andThen (PySem.W.looks_mroIn X F.be)
 have f3:=PySem.F.attr_ValueError.ga.bind (.ref x)
 have hx0 : (expr && onTheHeap (Value.builtin "BaseException.__getattribute__")) = false:=by cases expr <;> rfl
 have hx2 : (Value.builtin "BaseException.__getattribute__" == Value.builtin "object.__getattribute__") = false:=by decide +kernel
 have hx1 : (onTheHeap (Value.ref C) && Value.builtin "BaseException.__getattribute__" == Value.builtin "object.__getattribute__") = false:=by rw [hx2]; rfl
 unfold getAttr getAttrBy
 refine wpAny_bind (wpAny_mkText (wpAny_holding (wpAny_bind (L0.at (wpAny_bind (L1.at ?_))))))
 show wpAny (model prog w) A (getAttrByItsOwn (.ref x) (.str name t) (.ref C) (.builtin "BaseException.__getattribute__") true expr) Q E ⟨hp,g,d,t + 1,os⟩
 unfold getAttrByItsOwn
 repeat (any_goals (first | assumption | (with_reducible refine PySem.W.Looks.at L0 ?_) | (with_reducible refine PySem.W.Looks.at L2 ?_) | wp_step))
 show codeAny (model prog w) A (.call (.builtin "BaseException.__getattribute__") ⟨[.ref x,.str name t],[]⟩) _ _
 have hk : builtinKind "BaseException.__getattribute__" = some .slot:=by decide +kernel
 have hsp : splitId "BaseException.__getattribute__" = some ("BaseException","__getattribute__"):=by decide +kernel
 refine codeAny_call_builtin PySem.F.attr_ValueError.ga.plain PySem.F.entry_bexc_ga (@PySem.W.check_slot (model prog w) _ _ ⟨hp,g,d,t + 1,os⟩ "BaseException.__getattribute__" "BaseException" "__getattribute__" (.ref x) [.str name t] [] _ hk hsp L4 (PySem.F.args_bexc_ga (.ref x) (.str name t)) ?_)
 refine wpAny_bind (wpAny_pure (wpAny_bind (wpAny_pure (wpAny_bind (L0.at (wpAny_bind (L3.at ?_)))))))
 refine wpAny_pure ?_
 show wpAny _ _ (handedOut v) _ _ _
 rw [PySem.W.handedOut_of hh]
 exact wpAny_pure (h _ rfl)
end
section
variable {X : Cx} {e : Expr} {f : Str} {pos : Pos} {ta : TE}
def tXF (K : PySem.W.Frag) (ta : TE) (f : Str) : TE:=fun σ H Q => ta σ H fun x H1 => ∃ a C dx rd fs v,x = .ref a /\ H1 a = some (exO a C (some dx) rd) /\ H1 dx = some (dxO dx fs) /\ XGet K C /\ PySem.W.findIn K (.ref C) f = some none /\ fs.lookup f = some v /\ Q v H1
theorem yT (he : PE X e ta) (hb : attributeBase e f X.env (eval e X.env) = eval e X.env) : PE X (.Attribute e f pos) (tXF X.K ta f):=by
 intro pins s σ H Q I h
 refine qb hb (thn (he pins s σ H _ I h) fun u s1 ⟨x,H1,I1,rx,a,C,dx,rd,fs,v,ex,ea,ed,G,hn,l,q⟩ => ?_)
 subst ex
 obtain rfl : u = Value.ref a:=rx
 obtain ⟨vs,sl,ho,_⟩:=exO.of I1.hok ea
 obtain ⟨mA,hns,r,_⟩:=dxO.of I1.hok ed
 obtain ⟨od,hd,lk⟩:=dy hns
 obtain ⟨u,hu,ru⟩:=RelO.some_of (v:=v) (o:=mA f) (by rw [<- l]; exact r f)
 refine z4 G I1.kIn (ox:=⟨.ref C,some dx,.fields vs,sl⟩) ⟨ho,rfl,rfl,hd⟩ hn (by rw [lk,hu]) (lB ru) ⟨v,H1,I1.tok _,ru,q⟩
end
structure XIs (K : PySem.W.Frag) (C : Addr) : Prop extends XGet K C where
 kl : PySem.W.findIn K (.ref C) "__class__" = some (some (.builtin "object.__class__"))
 kg : PySem.W.specialIn K (.builtin "object.__class__") "__get__" = some (some (.builtin "getset_descriptor.__get__"))
 kt : PySem.W.takesIn K (.builtin "object.__class__") = some true
 ko : PySem.W.mroIn K C (.type "object") = some true
section
variable {prog : Program} {w : World} {A : Around} {E : Value -> Shared -> Prop} {K : PySem.W.Frag} {s : Shared} {x C : Addr} {ox : Obj} {od : Obj}
theorem vP {Q : Option Value -> Shared -> Prop} (F : XIs K C) (X : K.In s.heap) (I : PySem.W.InstAt s.heap x ox C (some od)) (h : Q (some (.ref C)) { s with toks:=s.toks + 1 }) :
  wpAny (model prog w) A (getAttr? (.ref x) "__class__") Q E s:=by
 replace h : ∀ t',t' = s.toks + 1 -> Q (some (.ref C)) { s with toks:=t' }:=fun t' e => e ▸ h
 have hf : PySem.W.findObj K C (some od) "__class__" = some (.bind (.builtin "getset_descriptor.__get__") (.builtin "object.__class__")):=PySem.W.findObj_data (by obtain ⟨cd,hc,_⟩:=PySem.W.any_some F.hd; rw [hc]; rfl) F.kl F.kg F.kt
 obtain ⟨hp,g,d,t,os⟩:=s
 have L0:=I.type (M:=model prog w)
 have L1:=PySem.W.looks_findIn (M:=model prog w) X F.ga
 have L2:=PySem.W.looks_findIn (M:=model prog w) X F.gt
 have L3:=PySem.W.looks_find (M:=model prog w) X I hf
 have L4 : PySem.W.Looks (model prog w) hp (isInstance (.ref x) (.type "BaseException")) true:=I.type.andThen (PySem.W.looks_mroIn X F.be)
 have f3:=PySem.F.attr_ValueError.ga.bind (.ref x)
 unfold getAttr? getAttrBy? getAttrBy
 refine wpAny_bind (wpAny_mkText (wpAny_bind (wpAny_attempt (wpAny_holding (wpAny_bind (L0.at (wpAny_bind (L1.at ?_))))))))
 show wpAny (model prog w) A (getAttrByItsOwn (.ref x) (.str "__class__" t) (.ref C) (.builtin "BaseException.__getattribute__") false false) _ _ ⟨hp,g,d,t + 1,os⟩
 unfold getAttrByItsOwn
 repeat (any_goals (first | assumption | (with_reducible refine PySem.W.Looks.at L0 ?_) | (with_reducible refine PySem.W.Looks.at L2 ?_) | wp_step))
 show codeAny (model prog w) A (.call (.builtin "BaseException.__getattribute__") ⟨[.ref x,.str "__class__" t],[]⟩) _ _
 have hk : builtinKind "BaseException.__getattribute__" = some .slot:=by decide +kernel
 have hsp : splitId "BaseException.__getattribute__" = some ("BaseException","__getattribute__"):=by decide +kernel
 refine codeAny_call_builtin PySem.F.attr_ValueError.ga.plain PySem.F.entry_bexc_ga (@PySem.W.check_slot (model prog w) _ _ ⟨hp,g,d,t + 1,os⟩ "BaseException.__getattribute__" "BaseException" "__getattribute__" (.ref x) [.str "__class__" t] [] _ hk hsp L4 (PySem.F.args_bexc_ga (.ref x) (.str "__class__" t)) ?_)
 refine wpAny_bind (wpAny_pure (wpAny_bind (wpAny_pure (wpAny_bind (L0.at (wpAny_bind (L3.at ?_)))))))
 show wpAny _ _ (holding [Value.builtin "object.__class__"] (call (.builtin "getset_descriptor.__get__") [.builtin "object.__class__",.ref x,.ref C]) >>= ret) _ _ _
 refine wpAny_bind (wpAny_holding (wpAny_call (PySem.W.class_get (s:=⟨hp,g,d,t + 1,os⟩) (ox:=ox) (od:=some od) X I F.ko (wpAny_pure ?_))))
 exact wpAny_pure (wpAny_pure (h _ rfl))
theorem oy (F : XIs K C) : PySem.W.KitX K (.ref x) (.ref C) (fun h => PySem.W.InstAt h x ox C (some od)) where
 ty:=fun _ _ _ I => I.type
 it:=fun _ _ X _ => by
  obtain ⟨cd,hc,_⟩:=PySem.W.any_some F.hd
  unfold PySem.W.clsIn at hc
  split at hc
  ·
   rename_i ho
   intro A' Q' E' s' k q
   unfold isType loadHead
   exact wpAny_bind (wpAny_loadPart (k _ _ (X _ _ ho)) (wpAny_pure q))
  ·
   cases hc
 ne:=fun h tp dd its n sl X htp => by
  obtain ⟨cd,hc,_⟩:=PySem.W.any_some F.hd
  refine Bool.eq_false_iff.mpr fun q => ?_
  have e : C = tp:=Value.ref.inj (beq_iff_eq.mp q)
  subst e
  unfold PySem.W.clsIn at hc
  split at hc
  ·
   rename_i ho
   have z:=(X _ _ ho).symm.trans htp
   cases z
  ·
   cases hc
 ca:=fun X I k => vP F X I k
end
section
variable {X : Cx} {k : Nat} {f : Addr} {fd : FuncData} {ps : List Str} {sp : Sp} {E : St -> XK} {x : Str} {p pos : Pos} {e : Expr} {es : List Expr} {t : TA}
def vQ (sp : Sp) (E : St -> XK) (t : TA) : TE:=fun σ H Q => t σ H fun vs H1 => sp vs H1 Q (E σ)
theorem oA (F : FnOk X.prog X.w X.K X.mg X.base (CX1 X.prog X.w) k f fd ps sp) (hr : Room k X.A) (hg : Gl X x) (hm : X.mg x = some (.ref f)) (hk : PySem.W.keepIn X.K (.ref f) = true) (hb : Binds X.K fd ps []) (hM : lU X E)
  (ha : PA X (e :: es) t) (hdb : (x == ("__debug__" : Str)) = false:=by decide) (he : starEach (e :: es) X.env = (false,eval e X.env) :: starEach es X.env:=by rfl) (hpl : (backTo pos (starEach es X.env)).any (·.1) = false:=by rfl) :
  PE X (.Call (.Name x p) (e :: es) [] pos) (vQ sp E t):=by
 intro pins s σ H Q I h
 refine wpAny_Call_Name_kw (cR I hg hm ?_ hdb)
 refine PySem.W.callWith_K (h₀:=X.base) I.ok.mod.kin hk (thn (ha pos pins s σ H _ I h) fun us s1 ⟨vs,H1,I1,r,q⟩ => ⟨I1.kIn,?_⟩) he hpl
 exact ra F hr hb hM I1 r q
end
end L2
namespace L3
open L2
abbrev YK3:=Addr -> List (Str × T) -> Hp3 -> Prop
def z5 (E : YK3) : YK3:=fun C fs H => ∃ H',Sub3 H' H /\ E C fs H'
def yU (K : PySem.W.Frag) (E3 : St3 -> YK3) : L2.St -> XK:=fun σ cls dxo H => ∃ C dx vs fs σ3 H3,cls = .ref C /\ dxo = some dx /\ SimS K H σ3 σ /\ SimH K H3 H /\ H dx = some (dxO dx vs) /\ RepF K H fs vs /\ H3 dx = none /\ E3 σ3 C fs H3
def KX3 (K : PySem.W.Frag) (H : Hp) (E3 : YK3) (E : XK) : Prop:=∀ C dx vs fs H' H3',TupLe K H H' -> SimH K H3' H' -> H' dx = some (dxO dx vs) -> RepF K H' fs vs -> H3' dx = none -> E3 C fs H3' -> E (.ref C) (some dx) H'
abbrev dZ:=List T -> Hp3 -> VK3 -> YK3 -> Prop
def vR (K : PySem.W.Frag) (sp : dZ) : Sp:=fun vs H Q E => ∃ ts H3 Q3 E3,Reps K H ts vs /\ SimH K H3 H /\ sp ts H3 Q3 E3 /\ KV3 K H Q3 Q /\ KX3 K H E3 E
def oB (P : Program) (w : World) (K : PySem.W.Frag) (mg : Str -> Option Value) (base : Heap) (k : Nat) (f : Addr) (fd : FuncData) (ps : List Str) (sp : dZ) : Prop:=FnOk P w K mg base (CX1 P w) k f fd ps (vR K sp)
def eV (X : Cx) (E3 : St3 -> YK3) : Prop:=lU X (yU X.K E3)
section
variable {X : Cx} {k : Nat} {f : Addr} {fd : FuncData} {ps : List Str} {sp : dZ} {E : St3 -> YK3} {x : Str} {p pos : Pos} {e : Expr} {es : List Expr} {t : TA3}
def hZ (sp : dZ) (E : St3 -> YK3) (t : TA3) : TE3:=fun σ H Q => t σ H fun vs H1 => sp vs H1 Q (E σ)
theorem oC (F : oB X.prog X.w X.K X.mg X.base k f fd ps sp) (hr : Room k X.A) (hg : Gl X x) (hm : X.mg x = some (.ref f)) (hk : PySem.W.keepIn X.K (.ref f) = true) (hb : Binds X.K fd ps []) (hM : eV X E)
  (ha : PA3 X (e :: es) t) (hdb : (x == ("__debug__" : Str)) = false:=by decide) (he : starEach (e :: es) X.env = (false,eval e X.env) :: starEach es X.env:=by rfl) (hpl : (backTo pos (starEach es X.env)).any (·.1) = false:=by rfl) :
  PE3 X (.Call (.Name x p) (e :: es) [] pos) (hZ sp E t):=by
 refine PE.imp (oA F hr hg hm hk hb hM ha hdb he hpl) ?_
 rintro σ H Q ⟨σ3,H3,Q3,ss,sh,h,k⟩
 refine ⟨σ3,H3,_,ss,sh,h,fun vs H' ts H3' le sh' r q => ?_⟩
 exact ⟨ts,H3',Q3,E σ3,r,sh',q,k.at le,fun C dx ws fs H2 H32 le2 sh2 hd rf hn q2 => ⟨C,dx,ws,fs,σ3,H32,rfl,rfl,ss.mono (le.trans le2),sh2,hd,rf,hn,q2⟩⟩
end
theorem Inv.tupLe {X : Cx} {pins : List (Addr × Obj)} {σ : L2.St} {H : Hp} {s : Shared} (I : Inv X pins σ H s) : TupLe X.K X.H₀ H:=by
 intro a xs h
 rcases h with (h | ⟨o,h⟩) | h
 ·
  exact .inl (.inl (I.base.tups a xs h))
 ·
  exact .inl (.inr ⟨o,I.base.frzs a o _ h⟩)
 ·
  exact .inr h
section
variable {k : Nat} {f : Addr} {fd : FuncData} {ps : List Str} {sp : dZ} {x : Str}
theorem fnX {P : Program} {w : World} {K : PySem.W.Frag} {mg : Str -> Option Value} {base : Heap} {qual : Str} {st : Stmt} {N : List Str} (F : Fun K x qual st f fd) (S : FnScope N ps (ah st)) (len : ∀ ts H Q E,sp ts H Q E -> ts.length = ps.length)
  (hbody : ∀ (cdv : Value) (A : Around) (outer : List Env) (s : Shared) (H : Hp) (E : XK) (ts : List T) (H3 : Hp3) (Q : VK3) (E3 : YK3),Room k (A.deeper (envOfC qual (ah st) s.heap.objs.size f cdv)) -> sp ts H3 Q E3 ->
   eV (eE (CX1 P w) P w K mg base N qual (ah st) f cdv A outer s H E) (fun _ => z5 E3) ->
   ∃ t,db (eE (CX1 P w) P w K mg base N qual (ah st) f cdv A outer s H E) (aT st) t /\ t { nx:=fun _ H' => Fin3 Q .non H',rt:=Fin3 Q } (ay N ts) H3) : oB P w K mg base (k + 1) f fd ps sp:=by
 obtain ⟨oc,od,kV,doc,pm,an,cdv,ct,osl,rfl,lk,hcd⟩:=F.ex
 refine sk lk hcd S (fun vs H Q E ⟨ts,H3,Q3,E3,r,sh,q,k,kx⟩ => by rw [<- r.length]; exact len _ _ _ _ q) fun A outer s H vs Q E hr ⟨ts,H3,Q3,E3,r,sh,q,k,kx⟩ => ?_
 obtain ⟨t,ht,hq⟩:=hbody cdv A outer s H E ts H3 Q3 E3 hr q (by
  rintro pins σ H' s' ea C dx Fl ⟨C',dx',vs',fs,σ3,H3',e1,e2,ss,sh',hd,rf,hn,H4,sb,q⟩
  cases e1
  cases e2
  exact oj pins σ H' s' ea C dx Fl (kx C dx vs' fs H' H4 (Inv.tupLe Fl.inv) (sh'.sub sb) hd rf (by cases z : H4 dx with | none => rfl | some o => rw [sb dx o z] at hn; cases hn) q))
 exact ⟨_,ht,ay N ts,H3,_,fP r,sh,hq,fun σ' H' σ3' H3' le ss' sh' ⟨H4,sb,q⟩ => k _ _ _ _ le (sh'.sub sb) .ofNon q,fun v H' t H3' le sh' rv ⟨H4,sb,q⟩ => k _ _ _ _ le (sh'.sub sb) rv q,fun _ _ _ _ _ _ _ z => z,fun _ _ _ _ _ _ _ z => z⟩
end
noncomputable def Ends3.gone (D : Ends3) (i : Nat) : Ends3:=⟨fun σ H => D.nx (σ.set i none) H,D.rt,fun σ H => D.bk (σ.set i none) H,fun σ H => D.ct (σ.set i none) H⟩
def sN (K : PySem.W.Frag) (R : Addr) (i : Nat) (th : TS3) (D : Ends3) : St3 -> YK3:=fun σ C fs H => PySem.W.mroIn K C (.ref R) = some true /\ ∀ ea dx,H ea = none -> H dx = none -> ea ≠ dx -> th (D.gone i) (σ.set i (some (.ref ea))) (up3 (up3 H dx (.xdt fs)) ea (.exc C dx))
def oE (K : PySem.W.Frag) (R : Addr) (i : Nat) (tb : (St3 -> YK3) -> TS3) (th : TS3) : TS3:=fun D σ H => tb (sN K R i th D) D σ H
theorem SimS.gone {K : PySem.W.Frag} {H : Hp} {σ3 : St3} {σ : L2.St} (s : SimS K H σ3 σ) (i : Nat) : SimS K H (σ3.set i none) (σ.set i none):=by
 refine ⟨by simp [s.len],fun j t e => ?_⟩
 by_cases hj : i = j
 ·
  subst hj
  by_cases hl : i < σ3.length
  ·
   rw [List.getElem?_set_self hl] at e; cases e
  ·
   rw [List.getElem?_eq_none (by simpa using hl)] at e; cases e
 ·
  rw [List.getElem?_set_ne hj] at e ⊢
  exact s.at' j t e
section
variable {X : Cx} {R : Addr} {x n : Str} {np hpos pos : Pos} {body suite : List Stmt} {b₀ : Stmt} {tb : (St3 -> YK3) -> TS3} {th : TS3} {i : Nat}
theorem vS (hs : X.stack = X.env :: X.outer) (hf : X.env.frame = some X.env.locals) (a : XAsk X.K R) (hg : Gl X x) (hm : X.mg x = some (.ref R)) (hN : X.N.Nodup) (hi : X.N[i]? = some n) (hl : X.env.scope.names.lookup n = some .local)
  (hbody : ∀ (xe : Value -> Shared -> Prop) (pn : List (Addr × Obj)) (H0 : Hp) (E3 : St3 -> YK3),eV (X.atTry xe pn H0) E3 -> db (X.atTry xe pn H0) body (tb E3)) (hsuite : ∀ ea,db (X.inH ea) (b₀ :: suite) th) (hdb : (x == ("__debug__" : Str)) = false:=by decide) :
  PS3 X (.Try body [.ExceptHandler (some (.Name x np)) (some n) (b₀ :: suite) hpos] [] [] pos) (oE X.K R i tb th):=by
 refine PS.imp (vO (R:=R) (i:=i) (th:=qx X.K th) (tb:=fun Es D σ H => ∃ E3 : St3 -> YK3,(∀ σ cls dxo H,yU X.K E3 σ cls dxo H -> Es σ cls dxo H) /\ qx X.K (tb E3) D σ H) hs hf a hg hm hN hi hl (fun xe pn H0 Es hM => ?_) hsuite hdb) ?_
 ·
  rintro pins s σ H D I ⟨E3,imp,h⟩
  exact hbody xe pn H0 E3 (fun pins σ H s ea C dx Fl he => hM pins σ H s ea C dx Fl (imp _ _ _ _ he)) pins s σ H D I h
 ·
  rintro D σ H ⟨σ3,H3,D3,ss,sh,h,k1,k2,k3,k4⟩
  refine ⟨sN X.K R i th D3,?_,σ3,H3,D3,ss,sh,h,k1,k2,k3,k4⟩
  rintro σ' cls dxo H' ⟨C,dx,vs,fs,σ3',H3',rfl,rfl,ss',sh',hd,rf,hn,hmro,hh⟩
  refine ⟨C,dx,rfl,rfl,hmro,fun le0 ea free => ?_⟩
  have ne : ea ≠ dx:=fun z => by subst z; rw [free] at hd; cases hd
  have le : TupLe X.K H' (upd H' ea (exO ea C (some dx) false)):=ar free
  have le1 : TupLe X.K H (upd H' ea (exO ea C (some dx) false)):=TupLe.trans (fun a xs z => le0 a xs z) le
  refine ⟨σ3'.set i (some (.ref ea)),_,D3.gone i,(ss'.mono le).set .ofRef,fun b o e => ?_,hh ea dx (sh'.fresh free) hn ne,fun σ1 H1 σ31 H31 l a b c => k1 _ _ _ _ (le1.trans l) (a.gone i) b c,k2.at le1,fun σ1 H1 σ31 H31 l a b c => k3 _ _ _ _ (le1.trans l) (a.gone i) b c,fun σ1 H1 σ31 H31 l a b c => k4 _ _ _ _ (le1.trans l) (a.gone i) b c⟩
  by_cases w : b = ea
  ·
   subst w
   rw [ai] at e
   cases e
   exact aC
  ·
   rw [aj w] at e
   by_cases w2 : b = dx
   ·
    subst w2
    rw [ai] at e
    cases e
    exact ⟨vs,(aq w).trans hd,rf.mono le⟩
   ·
    rw [aj w2] at e
    exact (sh' b o e).stay le fun u z => (aq w).trans z
end
end L3
namespace L2
section
variable {X : Cx} {o value : Expr} {f : Str} {pos pos' : Pos} {ta tv : TE}
def sX1 (K : PySem.W.Frag) (ta tv : TE) (f : Str) : TS:=fun D σ H => tv σ H fun y H1 => ta σ H1 fun x H2 => ∃ e C cd rd,x = .ref e /\ H2 e = some (exO e C none rd) /\ XSet K C cd /\ PySem.W.findIn K (.ref C) f = some none /\
 ∀ dx,H2 dx = none -> dx ≠ e -> D.nx σ (upd (upd H2 dx (dxO dx [(f,y)])) e (exO e C (some dx) rd))
def sX2 (K : PySem.W.Frag) (ta tv : TE) (f : Str) : TS:=fun D σ H => tv σ H fun y H1 => ta σ H1 fun x H2 => ∃ e C cd rd dx fs,x = .ref e /\ H2 e = some (exO e C (some dx) rd) /\ H2 dx = some (dxO dx fs) /\ fs.length < 1000 /\ XSet K C cd /\ PySem.W.findIn K (.ref C) f = some none /\
 D.nx σ (upd H2 dx (dxO dx (cU f y fs)))
theorem oF (ha : PE X o ta) (hv : PE X value tv) (hs : swapsWith value (some (.Attribute o f pos')) pos.line X.env = pure false) : PS X (.Assign [.Attribute o f pos'] value pos) (sX1 X.K ta tv f):=by
 intro pins s σ H D I h
 refine plainObj_wpAny_Assign_Attribute (thn (hv pins s σ H _ I h) fun u s1 ⟨y,H1,I1,ry,q⟩ => thn (ha pins s1 σ H1 _ I1 q) fun ov s2 ⟨x,H2,I2,rx,e,C,cd,rd,ex,ea,F,n,q2⟩ => ?_) hs
 subst ex
 obtain rfl : ov = Value.ref e:=rx
 exact yP F I2 ea n ry fun dx s3 h1 h2 I3 => ⟨σ,_,I3,q2 dx h1 h2⟩
theorem yV (ha : PE X o ta) (hv : PE X value tv) (hs : swapsWith value (some (.Attribute o f pos')) pos.line X.env = pure false) : PS X (.Assign [.Attribute o f pos'] value pos) (sX2 X.K ta tv f):=by
 intro pins s σ H D I h
 refine plainObj_wpAny_Assign_Attribute (thn (hv pins s σ H _ I h) fun u s1 ⟨y,H1,I1,ry,q⟩ => thn (ha pins s1 σ H1 _ I1 q) fun ov s2 ⟨x,H2,I2,rx,e,C,cd,rd,dx,fs,ex,ea,ed,hl,F,n,q2⟩ => ?_) hs
 subst ex
 obtain rfl : ov = Value.ref e:=rx
 exact yQ F I2 ea ed hl n ry fun s3 I3 => ⟨σ,_,I3,q2⟩
end
def eW (K : PySem.W.Frag) (ns : List Str) : Sp:=fun vs H Q _ => ∃ e ys C cd,vs = .ref e :: ys /\ ys.length = ns.length /\ H e = some (exO e C none true) /\ XSet K C cd /\ (∀ n ∈ ns,PySem.W.findIn K (.ref C) n = some none) /\
 ∀ dx,H dx = none -> dx ≠ e -> Q .non (upd (upd H dx (dxO dx (ns.zip ys))) e (exO e C (some dx) true))
theorem oG {H : Hp} {a b : Addr} {o u : HO} (h : a ≠ b) : upd (upd H a o) b u = upd (upd H b u) a o:=by
 funext c
 unfold upd
 by_cases h1 : c = a
 ·
  by_cases h2 : c = b
  ·
   exact absurd (h1.symm.trans h2) h
  ·
   simp [h1,h]
 ·
  simp [h1]
end L2
namespace L3
open L2
theorem i7 {K : PySem.W.Frag} {H : Hp} : ∀ {ns : List Str} {ts : List T} {vs : List V},Reps K H ts vs -> RepF K H (ns.zip ts) (ns.zip vs)
 | [],_,_,_ => .nil
 | _ :: _,[],_,r => by rw [r.inv0]; exact .nil
 | n :: ns,t :: ts,_,r => by
  obtain ⟨v,ur,rfl,rv,rr⟩:=r.inv
  exact .cons ⟨rfl,rv⟩ (i7 rr)
section
variable {X : Cx} {k : Nat} {f C : Addr} {fd : FuncData} {ps ns : List Str} {E : St3 -> YK3} {bmB : List Value} {newId nid B Bn initId inN : String} {bmN : List Value} {x : Str} {np cpos pos : Pos} {e : Expr} {es : List Expr} {t : TA3} {cd : ClassData}
def ia (C : Addr) (ns : List Str) (E : St3 -> YK3) (t : TA3) : TS3:=fun _ σ H => t σ H fun vs H1 => vs.length = ns.length /\ E σ C (ns.zip vs) H1
theorem oH (hc : X.calm = true) (Fn : ExcBaseFacts Bn newId inN bmN) (hBn : bmB.contains (.type Bn) = true) (FB : ExcBaseFacts B nid initId bmB) (M : XMk X.K C f bmB newId) (S : XSet X.K C cd) (hns : ∀ n ∈ ns,PySem.W.findIn X.K (.ref C) n = some none) (hn8 : ns.length <= 100)
  (F : FnOk X.prog X.w X.K X.mg X.base CX0 k f fd ps (eW X.K ns)) (hr : Room (k + 1) X.A) (hb : Binds X.K fd ps []) (hg : Gl X x) (hm : X.mg x = some (.ref C)) (hM : eV X E) (ha : PA3 X (e :: es) t)
  (hdb : (x == ("__debug__" : Str)) = false:=by decide) (he : starEach (e :: es) X.env = (false,eval e X.env) :: starEach es X.env:=by rfl) (hpl : (backTo cpos (starEach es X.env)).any (·.1) = false:=by rfl) :
  PS3 X (.Raise (some (.Call (.Name x np) (e :: es) [] cpos)) none pos) (ia C ns E t):=by
 refine PS.imp (ow hc Fn hBn FB M F hr hb hg hm hM ha hdb he hpl) ?_
 rintro D σ H ⟨σ3,H3,D3,ss,sh,h,_⟩
 refine ⟨σ3,H3,_,ss,sh,h,fun vs H' ts H3' le sh' r ⟨hl,q⟩ => ?_⟩
 have hlen:=r.length
 refine ⟨by have : sizeLine = 16777216:=rfl; omega,fun a ha0 Q hQ => ⟨a,vs,C,cd,rfl,by omega,aC,S,hns,fun dx hdx hne => hQ _ dx aC ?_⟩⟩
 have hdx' : H' dx = none:=by rw [aq hne] at hdx; exact hdx
 have at' : ∀ b,b ≠ a -> b ≠ dx -> rem (upd (upd (upd H' a (exO a C none true)) dx (dxO dx (ns.zip vs))) a (exO a C (some dx) true)) a b = H' b:=fun b n1 n2 => by rw [cL n1,aq n1,aq n2,aq n1]
 have nn : ∀ b u,H' b = some u -> b ≠ a /\ b ≠ dx:=fun b u z => ⟨fun w => (by subst w; rw [ha0] at z; cases z),fun w => (by subst w; rw [hdx'] at z; cases z)⟩
 have le2 : TupLe X.K H' (rem (upd (upd (upd H' a (exO a C none true)) dx (dxO dx (ns.zip vs))) a (exO a C (some dx) true)) a):=fun b xs z => by
  rcases z with (z | ⟨o,z⟩) | z
  ·
   exact .inl (.inl ((at' b (nn b _ z).1 (nn b _ z).2).trans z))
  ·
   exact .inl (.inr ⟨o,(at' b (nn b _ z).1 (nn b _ z).2).trans z⟩)
  ·
   exact .inr z
 refine ⟨C,dx,ns.zip vs,ns.zip ts,σ3,H3',rfl,rfl,ss.mono (le.trans le2),fun b o z => (sh' b o z).stay le2 fun u w => (at' b (nn b _ w).1 (nn b _ w).2).trans w,?_,(i7 r).mono le2,sh'.fresh hdx',q⟩
 rw [cL hne,aq hne,aC]
end
section
variable {X : Cx} {C : Addr} {x f : Str} {p pos : Pos} {e : Expr} {te : TE3}
def sO (C : Addr) : TE3:=fun _ H Q => Q (.ref C) H
theorem cj (hg : Gl X x) (hm : X.mg x = some (.ref C)) (hdb : (x == ("__debug__" : Str)) = false:=by decide) : PE3 X (.Name x p) (sO C):=by
 rintro pins s σ H Q I ⟨σ3,H3,Q3,ss,sh,h,k⟩
 exact cR I hg hm ⟨.ref C,H,I,rfl,k _ _ _ _ .refl sh .ofRef h⟩ hdb
def vT (K : PySem.W.Frag) (te : TE3) (f : Str) : TE3:=fun σ H Q => te σ H fun x H1 => ∃ a C dx fs t,x = .ref a /\ H1 a = some (.exc C dx) /\ H1 dx = some (.xdt fs) /\ XGet K C /\ PySem.W.findIn K (.ref C) f = some none /\ fs.lookup f = some t /\ Q t H1
theorem gh {K : PySem.W.Frag} {H : Hp} {f : Str} {t : T} : ∀ {fs : List (Str × T)} {vs : List (Str × V)},RepF K H fs vs -> fs.lookup f = some t -> ∃ v,vs.lookup f = some v /\ Rep K H t v
 | [],_,.nil,h => nomatch h
 | (g,u) :: fs,(g',u') :: vs,.cons ⟨e,r⟩ rr,h => by
  cases e
  rw [List.lookup_cons] at h ⊢
  cases q : (f == g) with
  | true =>
   rw [q] at h
   cases h
   exact ⟨u',rfl,r⟩
  | false =>
   rw [q] at h
   exact gh rr h
theorem yW (he : PE3 X e te) (hb : attributeBase e f X.env (eval e X.env) = eval e X.env:=by rfl) : PE3 X (.Attribute e f pos) (vT X.K te f):=by
 refine PE.imp (yT he hb) ?_
 rintro σ H Q ⟨σ3,H3,Q3,ss,sh,h,k⟩
 refine ⟨σ3,H3,_,ss,sh,h,fun v H' t H3' le sh' r q => ?_⟩
 obtain ⟨a,C,dx,fs,t',rfl,h1,h2,G,hn,l,q⟩:=q
 have e1 : H' a = some (exO a C (some dx) false):=sh' a _ h1
 obtain ⟨vs,e2,rf⟩:=sh' dx _ h2
 obtain ⟨v',hv,rv⟩:=gh rf l
 exact ⟨a,C,dx,false,vs,v',r.ref,e1,e2,G,hn,hv,k _ _ _ _ le sh' rv q⟩
end
noncomputable def vU : T -> Option Value
 | .ref a => some (.ref a)
 | .ty n => some (.type n)
 | _ => none
noncomputable def k7 : List T -> Option (List Value)
 | [] => some []
 | t :: r => match vU t,k7 r with
  | some v,some vs => some (v :: vs)
  | _,_ => none
def TyX (K : PySem.W.Frag) (H : Hp3) (x : T) (t : Value) : Prop:=(x = .non /\ t = .type "NoneType") \/ ∃ a C dx fs,x = .ref a /\ H a = some (.exc C dx) /\ H dx = some (.xdt fs) /\ XIs K C /\ t = .ref C
def sP (K : PySem.W.Frag) : List T -> Hp3 -> VK3 -> Prop:=fun ts H Q => ∃ x c t b,ts = [x,c] /\ TyX K H x t /\ ((∃ v,vU c = some v /\ PySem.W.kitOne K t v = some b) \/ ∃ cs vs,c = .tup cs /\ k7 cs = some vs /\ PySem.W.kitAny K t vs = some b) /\ Q (.bl b) H
theorem i8 {K : PySem.W.Frag} {H : Hp} {c : T} {v : V} {u w : Value} (r : Rep K H c v) (ru : RelV v u) (h : vU c = some w) : u = w:=by
 cases c with
 | ref a => rw [r.ref] at ru; cases h; exact ru
 | ty n => rw [r.ty] at ru; cases h; exact ru
 | _ => cases h
theorem gi {K : PySem.W.Frag} {H : Hp} : ∀ {cs : List T} {vs : List V} {us ws : List Value},Reps K H cs vs -> Vals vs us -> k7 cs = some ws -> us = ws
 | [],_,_,_,r,q,h => by
  rw [r.inv0] at q
  cases q
  cases h
  rfl
 | c :: cs,_,_,_,r,q,h => by
  obtain ⟨v,ur,rfl,rv,rr⟩:=r.inv
  cases q with
  | cons q1 q2 =>
   unfold k7 at h
   split at h
   ·
    rename_i w ws e1 e2
    cases h
    rw [i8 rv q1 e1,gi rr q2 e2]
   ·
    cases h
section
variable {X : Cx}
theorem vV : bI X (.builtin "isinstance") (sP X.K):=by
 intro pins s σ H xs us Q I rv h
 obtain ⟨ts,H3,Q3,r,sh,⟨x,c,t,b,rfl,hT,hc,q⟩,k⟩:=h
 obtain ⟨v,w,rfl,r1,r2⟩:=r.two'
 obtain ⟨u1,u2,rfl,q1,q2⟩:=vals2 rv
 have fin : ∀ tk,EP X pins σ Q (.bool b) { s with toks:=tk }:=fun tk => ⟨.bl b,H,I.tok _,rfl,k _ _ _ _ .refl sh .ofBl q⟩
 have key : ∃ P : Heap -> Prop,PySem.W.KitX X.K u1 t P /\ P s.heap /\ u1 ≠ .builtin "__main__.__loader__#opaque":=by
  rcases hT with ⟨rfl,rfl⟩ | ⟨a,C,dx,fs,rfl,h1,h2,G,rfl⟩
  ·
   rw [r1.non] at q1
   cases q1
   exact ⟨_,PySem.W.kitx_none,True.intro,fun z => nomatch z⟩
  ·
   rw [r1.ref] at q1
   cases q1
   have e1 : H a = some (exO a C (some dx) false):=sh a _ h1
   obtain ⟨vs,e2,rf⟩:=sh dx _ h2
   obtain ⟨ws,sl,ho,_⟩:=exO.of I.hok e1
   obtain ⟨mA,hns,_⟩:=dxO.of I.hok e2
   obtain ⟨od,hd,_⟩:=dy hns
   exact ⟨_,oy (ox:=⟨.ref C,some dx,.fields ws,sl⟩) (od:=od) G,⟨ho,rfl,rfl,hd⟩,fun z => nomatch z⟩
 obtain ⟨P,Z,hP,hne⟩:=key
 rcases hc with ⟨cv,e1,e2⟩ | ⟨cs,vs,rfl,e1,e2⟩
 ·
  have:=i8 r2 q2 e1
  subst this
  exact PySem.W.kia_one Z I.kIn hP e2 hne fin
 ·
  obtain ⟨p,ys,rfl,sq,rs⟩:=r2.tup
  cases q2
  obtain ⟨its,rvs,⟨o,ho,hcl,n,hd⟩,_⟩:=I.tuple sq
  have:=gi rs rvs e1
  subst this
  obtain ⟨oc,odd,oda,osl⟩:=o
  simp only at hcl hd
  subst hcl hd
  exact PySem.W.kia_tup Z I.kIn hP ho e2 hne fin
end
end L3
namespace L2
noncomputable def oJ : List Value -> Bool
 | .ref _ :: r => oJ r
 | l => l == bmV
theorem gj (self : Value) : ∀ (l : List Value),oJ l = true -> refuseLoop self "__setattr__" l = pure ()
 | [],h => by cases (beq_iff_eq.mp (show (([] : List Value) == bmV) = true from h))
 | v :: r,h => by
  by_cases q : ∃ c,v = .ref c
  ·
   obtain ⟨c,rfl⟩:=q
   rw [refuseLoop_ref]
   exact gj self r h
  ·
   have e : v :: r = bmV:=by
    cases v with
    | ref c => exact absurd ⟨c,rfl⟩ q
    | _ => exact beq_iff_eq.mp h
   rw [e]
   exact PySem.F.store_ValueError.passes self
noncomputable def z6 (K : PySem.W.Frag) (C : Addr) : Bool:=(PySem.W.clsIn K C).any fun cd => cd.hasDict && oJ cd.mro
theorem ib {K : PySem.W.Frag} {C : Addr} (h : z6 K C = true) (sa : PySem.W.findIn K (.ref C) "__setattr__" = some (some (.builtin "object.__setattr__"))) (ob : PySem.W.mroIn K C (.type "object") = some true) : ∃ cd,XSet K C cd:=by
 obtain ⟨cd,hc,q⟩:=PySem.W.any_some h
 rw [Bool.and_eq_true] at q
 exact ⟨cd,hc,sa,fun self => gj self _ q.2,ob,q.1⟩
end L2
namespace L3
open L2
structure CalX (P : Program) (w : World) (K : PySem.W.Frag) (mg : Str -> Option Value) (base : Heap) (k : Nat) (x : Str) (st : Stmt) (ps : List Str) (sp : dZ) : Prop where
 ex : ∃ (f : Addr) (fd : FuncData),G3 K mg x st ps f fd /\ oB P w K mg base k f fd ps sp
theorem ic {X : Cx} {k : Nat} {ps : List Str} {sp : dZ} {E : St3 -> YK3} {st : Stmt} {x : Str} {p pos : Pos} {e : Expr} {es : List Expr} {t : TA3} (D : CalX X.prog X.w X.K X.mg X.base k x st ps sp) (hM : eV X E) (hr : Room k X.A) (hg : Gl X x)
  (ha : PA3 X (e :: es) t) (hdb : (x == ("__debug__" : Str)) = false:=by decide) (he : starEach (e :: es) X.env = (false,eval e X.env) :: starEach es X.env:=by rfl) (hpl : (backTo pos (starEach es X.env)).any (·.1) = false:=by rfl) :
  PE3 X (.Call (.Name x p) (e :: es) [] pos) (hZ sp E t):=by
 obtain ⟨f,fd,g,F⟩:=D.ex
 exact oC F hr hg g.m g.fn.kp g.b hM ha hdb he hpl
structure ExcC (P : Program) (w : World) (K : PySem.W.Frag) (mg : Str -> Option Value) (base : Heap) (x : Str) (C : Addr) (ns : List Str) : Prop where
 m : mg x = some (.ref C)
 ex : ∃ f fd ps cd,XMk K C f bmV "ValueError.__new__" /\ XSet K C cd /\ FnOk P w K mg base CX0 1 f fd ps (eW K ns) /\ Binds K fd ps []
 nf : ∀ n ∈ ns,PySem.W.findIn K (.ref C) n = some none
 nl : ns.length <= 100
theorem dG {X : Cx} {C : Addr} {ns : List Str} {E : St3 -> YK3} {x : Str} {np cpos pos : Pos} {e : Expr} {es : List Expr} {t : TA3} (D : ExcC X.prog X.w X.K X.mg X.base x C ns) (hM : eV X E) (hr : Room 2 X.A) (hc : X.calm = true) (hg : Gl X x)
  (ha : PA3 X (e :: es) t) (hdb : (x == ("__debug__" : Str)) = false:=by decide) (he : starEach (e :: es) X.env = (false,eval e X.env) :: starEach es X.env:=by rfl) (hpl : (backTo cpos (starEach es X.env)).any (·.1) = false:=by rfl) :
  PS3 X (.Raise (some (.Call (.Name x np) (e :: es) [] cpos)) none pos) (ia C ns E t):=by
 obtain ⟨f,fd,ps,cd,M,S,F,hb⟩:=D.ex
 exact oH hc PySem.F.excBase_ValueError (by decide) PySem.F.excBase_ValueError M S D.nf D.nl F hr hb hg D.m hM ha hdb he hpl
structure AskC (K : PySem.W.Frag) (mg : Str -> Option Value) (x : Str) (R : Addr) : Prop where
 m : mg x = some (.ref R)
 a : XAsk K R
theorem rb {X : Cx} {R : Addr} {x n : Str} {np hpos pos : Pos} {body suite : List Stmt} {b₀ : Stmt} {tb : (St3 -> YK3) -> TS3} {th : TS3} (i : Nat) (D : AskC X.K X.mg x R) (hN : X.N.Nodup) (hs : X.stack = X.env :: X.outer) (hf : X.env.frame = some X.env.locals) (hg : Gl X x) (hi : X.N[i]? = some n) (hl : X.env.scope.names.lookup n = some .local)
  (hbody : ∀ (xe : Value -> Shared -> Prop) (pn : List (Addr × Obj)) (H0 : Hp) (E3 : St3 -> YK3),eV (X.atTry xe pn H0) E3 -> db (X.atTry xe pn H0) body (tb E3)) (hsuite : ∀ ea,db (X.inH ea) (b₀ :: suite) th) (hdb : (x == ("__debug__" : Str)) = false:=by decide) :
  PS3 X (.Try body [.ExceptHandler (some (.Name x np)) (some n) (b₀ :: suite) hpos] [] [] pos) (oE X.K R i tb th):=vS hs hf D.a hg D.m hN hi hl hbody hsuite hdb
theorem fv : bootBuiltins "ValueError" = some (.type "ValueError"):=by decide +kernel
theorem jX {X : Cx} {K : PySem.W.Frag} {f : Str} {pos : Pos} {e : Expr} {te : TE3} (hK : X.K = K) (he : PE3 X e te) (hb : attributeBase e f X.env (eval e X.env) = eval e X.env:=by rfl) : PE3 X (.Attribute e f pos) (vT K te f):=by
 subst hK
 exact yW he hb
theorem cG {X : Cx} {K : PySem.W.Frag} (hK : X.K = K) : bI X (.builtin "isinstance") (sP K):=by
 subst hK
 exact vV
section
variable {X : Cx}
def oK : R3:=fun x y H Q => match x,y with
 | .non,.non => Q (.bl false) H
 | _,_ => False
theorem vW (H : Hp3) (Q : VK3) : oK .non .non H Q = Q (.bl false) H:=rfl
theorem rc : OpR X (compareOp .IsNot) (fun x y H Q => x = .non /\ y = .non /\ Q (.bl false) H):=by
 intro pins s σ H x y v u Q I rx ry h
 obtain ⟨rfl,rfl,q⟩:=h
 cases rx; cases ry
 exact wpAny_isNot_plain rfl (aE I q rfl)
theorem l5 : cC X (compareOp .IsNot) oK:=by
 refine OpR.imp rc ?_
 rintro x y H Q ⟨tx,ty,H3,Q3,rx,ry,sh,h,k⟩
 cases tx with
 | non => cases ty with
  | non => exact ⟨rx.non,ry.non,k _ _ _ _ .refl sh .ofBl h⟩
  | _ => exact h.elim
 | _ => exact h.elim
end
end L3
namespace M
open L2 L3
local macro_rules | `(tactic| walk_at "cp") => `(tactic| try dsimp only [iI,List.replicate,List.map_cons,List.map_nil,List.cons_append,List.nil_append,List.getElem?_cons_zero,List.getElem?_cons_succ,Option.getD_some])
local macro_rules | `(tactic| walk_at "nx") => `(tactic| (obtain ⟨e⟩:=‹Shut (_ = _)›; subst e; try dsimp only))
def nm0 : String := "ne_eq not_false_eq_true aj eK dO tC3 cf sG a6 bC iG ul bJ mP sr xD su jD di cJ jA kD eM kC sA zS xF iK mV nq eT ux uA qH uB xK uC b5 q_I zW nu uD uE uF uG xM xN xO xP xQ xR xS xT sJ nv xU xV xW xX uH xY zX uI xZ ya uJ yb yc q_D yd uK ye yf uL yg uM uN qI yh qJ jG kK uO uP uQ uR uS yi nw ny kL nz kM yj yk ym yn gQ nA qK qL yo yp fV yq uT yr qM sK iQ uU qN uV ai ut mX fM yt yu fW uZ jH jI jJ lM jK u9 jL jM jN lN jO qO iT iU iV jP iW nF gT gU gW iX gX qP iY iZ i0 jQ i4 kO decide_true decide_false Bool.not_true Bool.not_false uW uX zY at0 at1 at2 at3 List.eraseIdx_cons_zero Int.toNat_natCast qw List.length_map List.length_cons List.length_nil Nat.zero_add Bool.false_eq_true if_false if_true List.getElem?_cons_zero List.getElem?_cons_succ List.set_cons_zero List.set_cons_succ yw yx vc List.map_cons List.map_nil wg wj wl nH vg vh yy vi yz vj kQ kR nL kS nO yA nQ yB yC qU og vE yM yN vH vI yG vp vv yH yK vz yJ vn yD qX yE vA vB vC yL ia hZ oE sO vT vW"
local macro_rules | `(tactic| walk_at "rd") => do
 let ls <- ((nm0.splitOn " ").toArray.map String.toName).filterM fun n => do return !(<- Lean.Macro.resolveGlobalName n).isEmpty
 let ls <- ls.mapM fun n => let i:=Lean.mkIdent n; `(Lean.Parser.Tactic.simpLemma| $i:ident)
 `(tactic| ((try dsimp only [$[$ls:simpLemma],*]); try simp only [*,$[$ls:simpLemma],*]))
structure isNm (x : Str) : Prop where
 lo : 1 <= x.length
 hi : x.length <= 8
 az : ∀ c ∈ x.cps.toList,97 <= c /\ c <= 122
structure Nms (ws : List Str) : Prop where
 nm : ∀ x ∈ ws,isNm x
 nd : ws.Nodup
theorem Nms.nil : Nms []:=⟨fun _ h => (nomatch h),List.nodup_nil⟩
theorem Nms.snoc {ws : List Str} {x : Str} (n : Nms ws) (h : isNm x) (hx : x ∉ ws) : Nms (ws ++ [x]) :=
 ⟨fun y hy => (List.mem_append.mp hy).elim (n.nm y) fun z => by rw [List.mem_singleton.mp z]; exact h,cA n.nd hx⟩
structure Wk where
 tasks : List (Str × Int × List Str)
 orders : List (Str × Str)
 pairs : List (Str × Str × Str)
 row : List Str
noncomputable def sT (xs : List Str) : T:=.tup (xs.map T.str)
noncomputable def tkT (t : Str × Int × List Str) : T:=.tup [.str t.1,.int t.2.1,sT t.2.2]
noncomputable def orT (o : Str × Str) : T:=.tup [.str o.1,.str o.2]
noncomputable def prT (p : Str × Str × Str) : T:=.tup [.str p.1,.str p.2.1,.str p.2.2]
noncomputable def Wk.enc (W : Wk) : T:=.tup [.tup (W.tasks.map tkT),.tup (W.orders.map orT),.tup (W.pairs.map prT),sT W.row]
structure tkOk (t : Str × Int × List Str) : Prop where
 nm : isNm t.1
 lo : 1 <= t.2.1
 hi : t.2.1 < 10 ^ 60
 ks : Nms t.2.2
 kl : t.2.2.length <= 4
structure WkOk (W : Wk) : Prop where
 t1 : 1 <= W.tasks.length
 t8 : W.tasks.length <= 8
 tk : ∀ t ∈ W.tasks,tkOk t
 nd : (W.tasks.map (·.1)).Nodup
 os : W.orders.length <= 28
 od : W.orders.Nodup
 oo : ∀ o ∈ W.orders,o.1 ≠ o.2 /\ o.1 ∈ W.tasks.map (·.1) /\ o.2 ∈ W.tasks.map (·.1)
 ps : W.pairs.length <= 12
 pd : W.pairs.Nodup
 pp : ∀ p ∈ W.pairs,(p.1 = "with" \/ p.1 = "apart") /\ p.2.1 ≠ p.2.2 /\ p.2.1 ∈ W.tasks.map (·.1) /\ p.2.2 ∈ W.tasks.map (·.1)
 r1 : 1 <= W.row.length
 r8 : W.row.length <= 8
 rn : ∀ x ∈ W.row,isNm x
theorem rg {a b : Str × Str} (h : orT a = orT b) : a = b:=by
 obtain ⟨a1,a2⟩:=a
 obtain ⟨b1,b2⟩:=b
 simp only [orT,T.tup.injEq,List.cons.injEq,T.str.injEq,and_true] at h
 rw [h.1,h.2]
theorem rh {a b : Str × Str × Str} (h : prT a = prT b) : a = b:=by
 obtain ⟨a1,a2,a3⟩:=a
 obtain ⟨b1,b2,b3⟩:=b
 simp only [prT,T.tup.injEq,List.cons.injEq,T.str.injEq,and_true] at h
 rw [h.1,h.2.1,h.2.2]
theorem bO {α : Type} {f : α -> T} (hf : ∀ {a b},f a = f b -> a = b) {x : α} {xs : List α} : f x ∈ xs.map f ↔ x ∈ xs:=by
 rw [List.mem_map]
 exact ⟨fun ⟨y,hy,e⟩ => hf e ▸ hy,fun h => ⟨x,h,rfl⟩⟩
theorem cH {a b : Str} (h : T.str a = T.str b) : a = b:=by injection h
theorem yX {α : Type} {f : α -> T} (hf : ∀ {a b},f a = f b -> a = b) {x : α} {xs : List α} : bR true (f x) (xs.map f) = true ↔ x ∉ xs:=by
 unfold bR
 simp [bO hf]
theorem rj {α : Type} {f : α -> T} (hf : ∀ {a b},f a = f b -> a = b) {x : α} {xs : List α} : bR false (f x) (xs.map f) = true ↔ x ∈ xs:=by
 unfold bR
 simp [bO hf]
theorem oM (x : Str) : pl 20 (.str x) = true:=rfl
theorem bV (xs : List Str) : (xs.map T.str).all (pl 20) = true:=by rw [List.all_eq_true]; intro t ht; obtain ⟨x,_,rfl⟩:=List.mem_map.mp ht; rfl
theorem vX (o : Str × Str × Str) : pl 20 (prT o) = true:=rfl
theorem oN (xs : List (Str × Str)) : (xs.map orT).all (pl 20) = true:=by rw [List.all_eq_true]; intro t ht; obtain ⟨x,_,rfl⟩:=List.mem_map.mp ht; rfl
theorem vY (xs : List (Str × Str × Str)) : (xs.map prT).all (pl 20) = true:=by rw [List.all_eq_true]; intro t ht; obtain ⟨x,_,rfl⟩:=List.mem_map.mp ht; rfl
noncomputable def mkS (l : List Nat) : Str:=⟨l.toArray⟩
theorem cb (l : List Nat) : (mkS l).cps.toList = l:=rfl
theorem dq (l : List Nat) : (mkS l).length = l.length:=by show (l.toArray).size = _; simp
theorem oO (x : Str) : ∃ l,x = mkS l:=⟨x.cps.toList,by cases x; rfl⟩
noncomputable def cM : List Nat:=[97,98,99,100,101,102,103,104,105,106,107,108,109,110,111,112,113,114,115,116,117,118,119,120,121,122]
theorem vZ : ("abcdefghijklmnopqrstuvwxyz" : Str) = mkS cM:=by decide +kernel
theorem rl : ∀ i : _root_.Fin 26,cM[i.val]? = some (97 + i.val):=by decide
theorem jY (i : Int) (h0 : 0 <= i) (h1 : i < 26) : atI cM i = some (97 + i.toNat):=by
 obtain ⟨j,rfl⟩:=Int.eq_ofNat_of_zero_le h0
 have hj : j < 26:=by omega
 have:=rl ⟨j,hj⟩
 exact cz (by simpa using this)
theorem rm : ∀ i : _root_.Fin 26,Builtin.Str.occurrences (mkS cM) (mkS [97 + i.val]) 0 26 1 = [i.val]:=by decide +kernel
theorem oP (c : Nat) (h0 : 97 <= c) (h1 : c <= 122) : Builtin.Str.occurrences (mkS cM) (mkS [c]) 0 (mkS cM).length 1 = [c - 97]:=by
 have:=rm ⟨c - 97,by omega⟩
 rw [show 97 + (c - 97) = c by omega] at this
 exact this
theorem yY {l : List Nat} (h1 : 1 <= l.length) (h8 : l.length <= 8) (h : ∀ c ∈ l,97 <= c /\ c <= 122) : isNm (mkS l):=⟨by rw [dq]; exact h1,by rw [dq]; exact h8,by rw [cb]; exact h⟩
theorem oQ : ∀ (n : Nat) (l : List Nat),l.length < n -> ∃ m,m < n /\ m ∉ l
 | 0,l,h => by omega
 | n + 1,l,h => by
  by_cases hn : n ∈ l
  ·
   have hl:=List.length_erase_of_mem hn
   have : 0 < l.length:=List.length_pos_of_mem hn
   obtain ⟨m,hm,hx⟩:=oQ n (l.erase n) (by omega)
   exact ⟨m,by omega,fun z => hx ((List.mem_erase_of_ne (by omega)).mpr z)⟩
  ·
   exact ⟨n,by omega,hn⟩
theorem i9 (c : Nat) (h0 : 97 <= c) (h1 : c <= 122) (ws : List Str) (hl : ws.length <= 7) : ∃ m : Nat,∀ w ∈ ws,w.cps.toList.head? ≠ some (97 + (c - 97 + m) % 26):=by
 obtain ⟨t,ht,hx⟩:=oQ 26 (ws.map fun w => w.cps.toList.headD 0 - 97) (by rw [List.length_map]; omega)
 refine ⟨t + 26 - (c - 97),fun w hw e => hx ?_⟩
 rw [List.mem_map]
 refine ⟨w,hw,?_⟩
 have e2 : (c - 97 + (t + 26 - (c - 97))) % 26 = t:=by omega
 rw [e2] at e
 cases hq : w.cps.toList with
 | nil => rw [hq] at e; cases e
 | cons a r => rw [hq] at e; injection e with e; simp only [List.headD_cons]; omega
noncomputable def tkW (t : Str × Int × List Str) : List Str:=([("task" : Str),t.1,(toString t.2.1 : String)] : List Str) ++ t.2.2
noncomputable def tkR (t : Str × Int × List Str) : Str:=PySem.Txt.join " " (tkW t)
theorem g7 {B : Nat} : ∀ {ys : List Str},(∀ y ∈ ys,y.length <= B) -> (ys.map (·.length)).sum <= ys.length * B
 | [],_ => by simp
 | y :: r,h => by
  have h1:=h y List.mem_cons_self
  have h2:=g7 (ys:=r) fun z hz => h z (List.mem_cons_of_mem _ hz)
  simp only [List.map_cons,List.sum_cons,List.length_cons,Nat.succ_mul]
  omega
theorem wa (z : Str) (ys : List Str) : (PySem.Txt.join z ys).length = (ys.map (·.length)).sum + (ys.length - 1) * z.length:=size_glued z ys
theorem ie : (" " : Str).length = 1:=by decide +kernel
theorem k8 {z : Str} {ys : List Str} {B n : Nat} (hz : z.length = 1) (hn : ys.length <= n) (h : ∀ y ∈ ys,y.length <= B) : (PySem.Txt.join z ys).length <= n * B + n:=by
 rw [wa,hz]
 have h1:=g7 h
 have h2 : ys.length * B <= n * B:=Nat.mul_le_mul_right B hn
 omega
theorem rp : ("task" : Str).length = 4:=by decide +kernel
theorem oR : ("order" : Str).length = 5:=by decide +kernel
theorem rq : ("with" : Str).length = 4:=by decide +kernel
theorem oS : ("apart" : Str).length = 5:=by decide +kernel
theorem wb : ("row" : Str).length = 3:=by decide +kernel
theorem rA {n : Int} (h1 : 1 <= n) (h : n < 10 ^ 60) : ((toString n : String) : Str).length <= 60:=toString_length_le (by omega) (by decide) h
theorem oU {t : Str × Int × List Str} (h : tkOk t) : (tkW t).length <= 7 /\ ∀ y ∈ tkW t,y.length <= 60:=by
 unfold tkW
 refine ⟨by have:=h.kl; simp only [List.length_append,List.length_cons,List.length_nil]; omega,fun y hy => ?_⟩
 rcases List.mem_append.mp hy with hy | hy
 ·
  simp only [List.mem_cons,List.not_mem_nil,or_false] at hy
  rcases hy with rfl | rfl | rfl
  ·
   rw [rp]; decide
  ·
   exact Nat.le_trans h.nm.hi (by decide)
  ·
   exact rA h.lo h.hi
 ·
  exact Nat.le_trans (h.ks.nm y hy).hi (by decide)
theorem wc {t : Str × Int × List Str} (h : tkOk t) : (tkR t).length <= 500:=Nat.le_trans (k8 ie (oU h).1 (oU h).2) (by decide)
theorem yZ {o : Str × Str} (h1 : isNm o.1) (h2 : isNm o.2) : ∀ y ∈ (["order",o.1,o.2] : List Str),y.length <= 8:=fun y hy => by
 simp only [List.mem_cons,List.not_mem_nil,or_false] at hy
 rcases hy with rfl | rfl | rfl
 ·
  rw [oR]; decide
 ·
  exact h1.hi
 ·
  exact h2.hi
theorem y0 {o : Str × Str × Str} (h0 : o.1 = "with" \/ o.1 = "apart") (h1 : isNm o.2.1) (h2 : isNm o.2.2) : ∀ y ∈ ([o.1,o.2.1,o.2.2] : List Str),y.length <= 8:=fun y hy => by
 simp only [List.mem_cons,List.not_mem_nil,or_false] at hy
 rcases hy with rfl | rfl | rfl
 ·
  rcases h0 with h0 | h0
  ·
   rw [h0,rq]; decide
  ·
   rw [h0,oS]; decide
 ·
  exact h1.hi
 ·
  exact h2.hi
theorem y1 {xs : List Str} (h : ∀ x ∈ xs,isNm x) : ∀ y ∈ (([("row" : Str)] : List Str) ++ xs),y.length <= 8:=fun y hy => by
 rcases List.mem_append.mp hy with hy | hy
 ·
  rw [List.mem_singleton.mp hy,wb]; decide
 ·
  exact (h y hy).hi
noncomputable def ig (c : Nat) : List (List Nat) -> List Nat
 | [] => []
 | [x] => x
 | x :: y :: r => x ++ c :: ig c (y :: r)
theorem oV {c : Nat} : ∀ {x y A B : List Nat},c ∉ x -> c ∉ y -> x ++ c :: A = y ++ c :: B -> x = y /\ A = B
 | [],[],A,B,_,_,h => by simp at h; exact ⟨rfl,h⟩
 | [],b :: y,A,B,_,hy,h => by
  simp at h
  exact absurd h.1 (fun e => hy (e ▸ List.mem_cons_self))
 | a :: x,[],A,B,hx,_,h => by
  simp at h
  exact absurd h.1.symm (fun e => hx (e ▸ List.mem_cons_self))
 | a :: x,b :: y,A,B,hx,hy,h => by
  simp only [List.cons_append,List.cons.injEq] at h
  obtain ⟨e,h⟩:=h
  have:=oV (fun z => hx (List.mem_cons_of_mem _ z)) (fun z => hy (List.mem_cons_of_mem _ z)) h
  exact ⟨by rw [e,this.1],this.2⟩
theorem jb {c : Nat} : ∀ {xs ys : List (List Nat)},xs ≠ [] -> ys ≠ [] -> (∀ x ∈ xs,c ∉ x) -> (∀ y ∈ ys,c ∉ y) -> ig c xs = ig c ys -> xs = ys
 | [],_,h,_,_,_,_ => absurd rfl h
 | _,[],_,h,_,_,_ => absurd rfl h
 | [x],[y],_,_,_,_,h => by rw [show x = y from h]
 | [x],y :: y2 :: r,_,_,hx,_,h => by
  have h' : x = y ++ c :: ig c (y2 :: r):=h
  exact absurd (show c ∈ x by rw [h']; simp) (hx x List.mem_cons_self)
 | x :: x2 :: r,[y],_,_,_,hy,h => by
  have h' : x ++ c :: ig c (x2 :: r) = y:=h
  exact absurd (show c ∈ y by rw [<- h']; simp) (hy y List.mem_cons_self)
 | x :: x2 :: r,y :: y2 :: r',_,_,hx,hy,h => by
  obtain ⟨e,h⟩:=oV (hx x List.mem_cons_self) (hy y List.mem_cons_self) h
  rw [e,jb (by simp) (by simp) (fun z hz => hx z (List.mem_cons_of_mem _ hz)) (fun z hz => hy z (List.mem_cons_of_mem _ hz)) h]
theorem d9 (a b : Str) : (a ++ b).cps.toList = a.cps.toList ++ b.cps.toList:=by
 show (a.cps ++ b.cps).toList = _
 simp
theorem dH (c : Nat) : ∀ xs : List Str,(Str.join ⟨#[c]⟩ xs).cps.toList = ig c (xs.map fun x => x.cps.toList)
 | [] => rfl
 | [x] => rfl
 | x :: y :: r => by
  show (x ++ ⟨#[c]⟩ ++ Str.join ⟨#[c]⟩ (y :: r)).cps.toList = _
  rw [d9,d9,dH c (y :: r)]
  simp [ig]
theorem k9 {a b : Str} (h : a.cps.toList = b.cps.toList) : a = b:=by
 obtain ⟨l,rfl⟩:=oO a
 obtain ⟨m,rfl⟩:=oO b
 rw [cb,cb] at h
 rw [h]
theorem dQ : ∀ {xs ys : List Str},xs.map (fun x => x.cps.toList) = ys.map (fun x => x.cps.toList) -> xs = ys
 | [],[],_ => rfl
 | [],_ :: _,h => by cases h
 | _ :: _,[],h => by cases h
 | x :: xs,y :: ys,h => by
  simp only [List.map_cons,List.cons.injEq] at h
  rw [k9 h.1,dQ h.2]
theorem oW (x y : Str) : Txt.split x y ≠ []:=by
 unfold Txt.split
 split
 ·
  simp
 ·
  split
  ·
   simp
  ·
   intro h
   have:=congrArg List.length h
   rw [length_partsBetween] at this
   simp at this
theorem jZ {c : Nat} {ws : List Str} (hn : ws ≠ []) (hc : ∀ w ∈ ws,c ∉ w.cps.toList) : Txt.split (Str.join ⟨#[c]⟩ ws) ⟨#[c]⟩ = ws:=by
 have h1:=StrLaws.join_split (Str.join ⟨#[c]⟩ ws) ⟨#[c]⟩
 have h2:=StrLaws.split_free (Str.join ⟨#[c]⟩ ws) c
 have h3:=congrArg (fun z : Str => z.cps.toList) h1
 simp only [dH] at h3
 refine dQ (jb (c:=c) (by simp [oW]) (by simp [hn]) ?_ ?_ h3)
 ·
  intro x hx
  obtain ⟨p,hp,rfl⟩:=List.mem_map.mp hx
  exact h2 p hp
 ·
  intro x hx
  obtain ⟨p,hp,rfl⟩:=List.mem_map.mp hx
  exact hc p hp
theorem sQ : (" " : Str) = ⟨#[32]⟩:=by decide +kernel
theorem oX (z : Str) (ys : List Str) : PySem.Txt.join z ys = Str.join z ys:=by
 exact PySem.StrLaws.glued_eq_join z ys
theorem oY {ws : List Str} (hn : ws ≠ []) (hc : ∀ w ∈ ws,32 ∉ w.cps.toList) : Txt.split (PySem.Txt.join " " ws) " " = ws:=by
 rw [oX,sQ]; exact jZ hn hc
theorem jc {c d : Nat} : ∀ {xs : List (List Nat)},d ∈ ig c xs -> d = c \/ ∃ x ∈ xs,d ∈ x
 | [],h => by cases h
 | [x],h => .inr ⟨x,by simp,h⟩
 | x :: y :: r,h => by
  have h' : d ∈ x ++ c :: ig c (y :: r):=h
  rw [List.mem_append,List.mem_cons] at h'
  rcases h' with h' | h' | h'
  ·
   exact .inr ⟨x,by simp,h'⟩
  ·
   exact .inl h'
  ·
   rcases jc h' with e | ⟨z,hz,e⟩
   ·
    exact .inl e
   ·
    exact .inr ⟨z,List.mem_cons_of_mem _ hz,e⟩
theorem rB {ws : List Str} (hc : ∀ w ∈ ws,10 ∉ w.cps.toList) : 10 ∉ (PySem.Txt.join " " ws).cps.toList:=by
 rw [oX,sQ,dH]
 intro h
 rcases jc h with e | ⟨x,hx,e⟩
 ·
  exact absurd e (by decide)
 ·
  obtain ⟨p,hp,rfl⟩:=List.mem_map.mp hx
  exact hc p hp e
def cleanS (w : Str) : Prop:=∀ c ∈ w.cps.toList,48 <= c
theorem isNm.clean {x : Str} (h : isNm x) : cleanS x:=fun c hc => by have:=h.az c hc; omega
theorem cleanS.no {w : Str} (h : cleanS w) {c : Nat} (hc : c < 48) : c ∉ w.cps.toList:=fun z => by have:=h c z; omega
theorem rC : cleanS "task":=by unfold cleanS; decide +kernel
theorem oZ : cleanS "order":=by unfold cleanS; decide +kernel
theorem rD : cleanS "with":=by unfold cleanS; decide +kernel
theorem o0 : cleanS "apart":=by unfold cleanS; decide +kernel
theorem we : cleanS "row":=by unfold cleanS; decide +kernel
theorem rE {n : Int} (h1 : 1 <= n) : ∃ m : Nat,n = m /\ 1 <= m:=⟨n.toNat,by omega,by omega⟩
theorem l6 (m : Nat) : (((toString ((m : Nat) : Int) : String) : Str)).cps.toList = (Nat.toDigits 10 m).map Char.toNat:=PySem.W.KIN.signs_num m
theorem rF {m c : Nat} (h : c ∈ (Nat.toDigits 10 m).map Char.toNat) : 48 <= c /\ c <= 57:=by
 obtain ⟨ch,hch,e⟩:=List.mem_map.mp h
 have r:=PyProof.Rows.digit_range (Nat.isDigit_of_mem_toDigits (by decide) (by decide) hch)
 rw [<- e]
 exact r
theorem wf {n : Int} (h1 : 1 <= n) : cleanS ((toString n : String) : Str):=by
 obtain ⟨m,rfl,_⟩:=rE h1
 intro c hc
 rw [l6] at hc
 exact (rF hc).1
end M
namespace L3
open L2
theorem wg (a : T) (r : List T) : b4 (a :: r) (some 1) none = r:=cK (k:=1)
theorem wj (a b : T) (r : List T) : b4 (a :: b :: r) (some 2) none = r:=cK (k:=2)
theorem wl (a b c : T) (r : List T) : b4 (a :: b :: c :: r) (some 3) none = r:=cK (k:=3)
structure Shut (p : Prop) : Prop where
 out : p
theorem au {t u : TS3} {D : Ends3} {σ : St3} {H : Hp3} (h : ∀ R,Shut (R = u) -> (eK t R) D σ H) : (eK t u) D σ H:=h u ⟨rfl⟩
theorem c7 {α : Type} (enc f : α -> T) (p : α -> Bool) (as : List α) (rest : St3) {tt : TT3} {te : TE3} {still : Hp3 -> Prop} {fin : List T -> Hp3 -> Prop} {v : Option T} {H : Hp3} (hst : still H) (hl : as.length <= sizeLine)
  (hc : ∀ a ∈ as,∀ Q : Bool -> Hp3 -> Prop,Q (p a) H -> tt (some (enc a) :: rest) H Q)
  (ht : ∀ a ∈ as,p a = true -> ∀ Q : VK3,Q (f a) H -> te (some (enc a) :: rest) H Q) (hfin : fin ((as.filter p).map f) H) : cIter3 (cf 0) tt te still fin (as.map enc) [] (v :: rest) H:=by
 refine iS (fun r ys σ H' => ∃ (rs ds : List α) (v : Option T),σ = v :: rest /\ r = rs.map enc /\ ys = (ds.filter p).map f /\ ds ++ rs = as /\ H' = H) ⟨as,[],v,rfl,rfl,rfl,rfl,rfl⟩ ?_ ?_
 ·
  rintro ys σ H' ⟨rs,ds,v,rfl,hrs,rfl,hsp,rfl⟩
  have hrs' : rs = []:=List.map_eq_nil_iff.mp hrs.symm
  subst hrs'
  rw [List.append_nil] at hsp
  subst hsp
  exact ⟨hst,by rw [List.length_map]; exact Nat.le_trans (List.length_filter_le _ _) hl,hfin⟩
 ·
  rintro x r ys σ H' N ⟨rs,ds,v,rfl,hrs,rfl,hsp,rfl⟩ hN
  cases rs with
  | nil => cases hrs
  | cons t rs =>
   injection hrs with e1 e2
   subst e1 e2
   refine ⟨hst,?_⟩
   show tt (some (enc t) :: rest) H' _
   refine hc t (by rw [<- hsp]; simp) _ ?_
   cases hp : p t with
   | true =>
    rw [if_pos rfl]
    refine ht t (by rw [<- hsp]; simp) hp _ ⟨?_,hN _ _ _ ⟨rs,ds ++ [t],_,rfl,rfl,by simp [hp],by rw [<- hsp]; simp,rfl⟩⟩
    have:=congrArg List.length hsp
    simp only [List.length_append,List.length_cons] at this
    rw [List.length_map]
    have:=List.length_filter_le p ds
    omega
   | false =>
    rw [if_neg Bool.false_ne_true]
    exact hN _ _ _ ⟨rs,ds ++ [t],_,rfl,rfl,by simp [hp],by rw [<- hsp]; simp,rfl⟩
end L3
namespace M
open L2 L3
local macro_rules | `(tactic| walk_at "cp") => `(tactic| try dsimp only [iI,List.replicate,List.map_cons,List.map_nil,List.cons_append,List.nil_append,List.getElem?_cons_zero,List.getElem?_cons_succ,Option.getD_some])
local macro_rules | `(tactic| walk_at "nx") => `(tactic| (obtain ⟨e⟩:=‹Shut (_ = _)›; subst e; try dsimp only))
local macro_rules | `(tactic| walk_at "rd") => do
 let ls <- ((nm0.splitOn " ").toArray.map String.toName).filterM fun n => do return !(<- Lean.Macro.resolveGlobalName n).isEmpty
 let ls <- ls.mapM fun n => let i:=Lean.mkIdent n; `(Lean.Parser.Tactic.simpLemma| $i:ident)
 `(tactic| ((try dsimp only [$[$ls:simpLemma],*]); try simp only [*,$[$ls:simpLemma],*]))
inductive Rw where
 | tk (t : Str × Int × List Str) | od (o : Str × Str) | pr (p : Str × Str × Str)
noncomputable def Rw.words : Rw -> List Str
 | .tk t => tkW t
 | .od o => ["order",o.1,o.2]
 | .pr p => [p.1,p.2.1,p.2.2]
noncomputable def prs : List Rw -> List (Str × Str × Str)
 | [] => []
 | .pr p :: r => p :: prs r
 | _ :: r => prs r
inductive RowW : List Str -> Prop
 | tk {t : Str × Int × List Str} (h : tkOk t) : RowW (tkW t)
 | od {a b : Str} (h1 : isNm a) (h2 : isNm b) : RowW ["order",a,b]
 | pr {z a b : Str} (h0 : z = "with" \/ z = "apart") (h1 : isNm a) (h2 : isNm b) : RowW [z,a,b]
 | row {xs : List Str} (h1 : 1 <= xs.length) (h8 : xs.length <= 8) (h : ∀ x ∈ xs,isNm x) : RowW (([("row" : Str)] : List Str) ++ xs)
theorem RowW.ne {ws : List Str} (h : RowW ws) : ws ≠ []:=by cases h <;> simp [tkW]
theorem RowW.clean {ws : List Str} (h : RowW ws) : ∀ w ∈ ws,cleanS w:=by
 intro w hw
 cases h with
 | tk h =>
  rcases List.mem_append.mp hw with hw | hw
  ·
   simp only [List.mem_cons,List.not_mem_nil,or_false] at hw
   rcases hw with rfl | rfl | rfl
   ·
    exact rC
   ·
    exact h.nm.clean
   ·
    exact wf h.lo
  ·
   exact (h.ks.nm w hw).clean
 | od h1 h2 =>
  simp only [List.mem_cons,List.not_mem_nil,or_false] at hw
  rcases hw with rfl | rfl | rfl
  ·
   exact oZ
  ·
   exact h1.clean
  ·
   exact h2.clean
 | pr h0 h1 h2 =>
  simp only [List.mem_cons,List.not_mem_nil,or_false] at hw
  rcases hw with rfl | rfl | rfl
  ·
   rcases h0 with rfl | rfl
   ·
    exact rD
   ·
    exact o0
  ·
   exact h1.clean
  ·
   exact h2.clean
 | row h1 h8 h =>
  rcases List.mem_append.mp hw with hw | hw
  ·
   rw [List.mem_singleton.mp hw]; exact we
  ·
   exact (h w hw).clean
theorem RowW.split {ws : List Str} (h : RowW ws) : PySem.Txt.split (PySem.Txt.join " " ws) " " = ws:=oY h.ne fun w hw => (h.clean w hw).no (by decide)
theorem RowW.len {ws : List Str} (h : RowW ws) : (PySem.Txt.join " " ws).length <= 500:=by
 cases h with
 | tk h => exact wc h
 | od h1 h2 => exact Nat.le_trans (k8 ie (n:=3) (by simp) (yZ (o:=(_,_)) h1 h2)) (by decide)
 | pr h0 h1 h2 => exact Nat.le_trans (k8 ie (n:=3) (by simp) (y0 (o:=(_,_,_)) h0 h1 h2)) (by decide)
 | row h1 h8 h => exact Nat.le_trans (k8 ie (n:=9) (by simp only [List.length_append,List.length_singleton]; omega) (y1 h)) (by decide)
theorem RowW.free {ws : List Str} (h : RowW ws) : 10 ∉ (PySem.Txt.join " " ws).cps.toList:=rB fun w hw => (h.clean w hw).no (by decide)
structure Cl (H : Hp3) (a : Addr) : Prop where
 ex : ∃ ns : List Int,H a = some (.lst (ns.map T.int)) /\ ns ≠ [] /\ ns.length <= 64
structure Drw (a : Addr) (H H' : Hp3) : Prop where
 cl : Cl H' a
 off : ∀ b,b ≠ a -> H' b = H b
theorem Drw.trans {a : Addr} {H H1 H2 : Hp3} (x : Drw a H H1) (y : Drw a H1 H2) : Drw a H H2:=⟨y.cl,fun b h => (y.off b h).trans (x.off b h)⟩
theorem Cl.refl {a : Addr} {H : Hp3} (D : Cl H a) : Drw a H H:=⟨D,fun _ _ => rfl⟩
theorem Cl.ne {a p : Addr} {H : Hp3} (D : Cl H a) (hp : H p = none) : p ≠ a:=fun e => by obtain ⟨ns,h,_⟩:=D.ex; rw [<- e,hp] at h; cases h
theorem Cl.new {a p : Addr} {H : Hp3} {u : O3} (D : Cl H a) (h : p ≠ a) : Cl (up3 H p u) a:=by
 obtain ⟨ns,e,r⟩:=D.ex
 exact ⟨ns,by rw [aj (Ne.symm h)]; exact e,r⟩
def Kep (a : Addr) (H H' : Hp3) : Prop:=∀ b o,H b = some o -> b ≠ a -> H' b = some o
theorem Kep.refl {a : Addr} {H : Hp3} : Kep a H H:=fun _ _ h _ => h
theorem Kep.drw {a : Addr} {H H1 H2 : Hp3} (x : Kep a H H1) (y : Drw a H1 H2) : Kep a H H2:=fun b o h h1 => by rw [y.off b h1]; exact x b o h h1
theorem Kep.new {a p : Addr} {H H1 : Hp3} {u : O3} (x : Kep a H H1) (hp : H1 p = none) : Kep a H (up3 H1 p u):=fun b o h h1 => by
 have:=x b o h h1
 rw [aj (a5 this hp)]; exact this
theorem Kep.at {a p : Addr} {H H1 : Hp3} {u : O3} (x : Kep a H H1) (hp : H p = none) : Kep a H (up3 H1 p u):=fun b o h h1 => by
 rw [aj (a5 h hp)]; exact x b o h h1
theorem Kep.sub {a : Addr} {H H1 H2 : Hp3} (x : Kep a H H1) (s : Sub3 H1 H2) : Kep a H H2:=fun b o h h1 => s b o (x b o h h1)
theorem ee {a : Addr} {H H' : Hp3} {Q : VK3} {v : T} (D : Cl H' a) (k : Kep a H H') (q : ∀ H'',Drw a H H'' -> Q v H'') : Fin3 Q v H':=by
 refine ⟨fun b => if b = a then H' b else H b,fun b o hb => ?_,q _ ⟨?_,fun b h1 => ?_⟩⟩
 ·
  by_cases h : b = a
  ·
   simp only [h,if_true] at hb ⊢; exact hb
  ·
   simp only [h,if_false] at hb
   exact k b o hb h
 ·
  obtain ⟨ns,e,r⟩:=D.ex
  exact ⟨ns,by simp only [if_true]; exact e,r⟩
 ·
  simp only [h1,if_false]
noncomputable def sg (c : Nat) : Str:=⟨#[c]⟩
noncomputable def sgT (c : Nat) : T:=.str ⟨#[c]⟩
theorem z7 : ("" : Str) = ⟨#[]⟩:=by decide +kernel
theorem y3 : ("" : Str).length = 0:=by decide +kernel
theorem lb : ∀ l : List Nat,(Str.join ("" : Str) (l.map sg)).cps.toList = l
 | [] => rfl
 | [c] => rfl
 | c :: d :: r => by
  show (sg c ++ "" ++ Str.join "" ((d :: r).map sg)).cps.toList = _
  rw [d9,d9,lb (d :: r),z7]
  rfl
theorem sR (l : List Nat) : PySem.Txt.join "" (l.map sg) = mkS l:=by
 rw [oX]
 exact k9 (by rw [lb,cb])
theorem lc (l : List Nat) : aQ (l.map sgT) = some (l.map sg):=by
 have:=dC (l.map sg)
 rw [List.map_map] at this
 exact this
theorem sS {l : List Nat} (h : l.length <= 100) : jOk "" (l.map sg):=by
 unfold jOk
 have h1 : ∀ l : List Nat,((l.map sg).map (·.length)).sum = l.length:=fun l => by
  induction l with
  | nil => rfl
  | cons c r ih => simp only [List.map_cons,List.sum_cons,ih,List.length_cons]; show 1 + r.length = _; omega
 rw [h1,y3]
 simp only [Nat.mul_zero]
 omega
noncomputable def pairsOf : List Str -> List (Str × Str)
 | [] => []
 | x :: r => r.map (fun y => (x,y)) ++ pairsOf r
theorem bP : ∀ {ws : List Str} {o : Str × Str},o ∈ pairsOf ws -> o.1 ∈ ws /\ o.2 ∈ ws
 | [],o,h => by cases h
 | x :: r,o,h => by
  rcases List.mem_append.mp h with h | h
  ·
   obtain ⟨y,hy,rfl⟩:=List.mem_map.mp h
   exact ⟨List.mem_cons_self,List.mem_cons_of_mem _ hy⟩
  ·
   have:=bP h
   exact ⟨List.mem_cons_of_mem _ this.1,List.mem_cons_of_mem _ this.2⟩
theorem eX : ∀ {ws : List Str} {o : Str × Str},ws.Nodup -> o ∈ pairsOf ws -> o.1 ≠ o.2
 | [],o,_,h => by cases h
 | x :: r,o,nd,h => by
  rw [List.nodup_cons] at nd
  rcases List.mem_append.mp h with h | h
  ·
   obtain ⟨y,hy,rfl⟩:=List.mem_map.mp h
   exact fun e => nd.1 (by have e' : x = y:=e; rw [e']; exact hy)
  ·
   exact eX nd.2 h
theorem eZ : ∀ {ws : List Str},ws.Nodup -> (pairsOf ws).Nodup
 | [],_ => List.nodup_nil
 | x :: r,nd => by
  rw [List.nodup_cons] at nd
  show (r.map (fun y => (x,y)) ++ pairsOf r).Nodup
  rw [List.nodup_append]
  refine ⟨?_,eZ nd.2,?_⟩
  ·
   have : ∀ r : List Str,r.Nodup -> (r.map (fun y => (x,y))).Nodup:=fun r => by
    induction r with
    | nil => intro _; exact List.nodup_nil
    | cons y r ih =>
     intro h
     rw [List.nodup_cons] at h
     rw [List.map_cons,List.nodup_cons]
     refine ⟨fun hm => ?_,ih h.2⟩
     obtain ⟨z,hz,e⟩:=List.mem_map.mp hm
     have e' : z = y:=congrArg Prod.snd e
     exact h.1 (e' ▸ hz)
   exact this r nd.2
  ·
   intro a ha b hb e
   subst e
   obtain ⟨y,hy,rfl⟩:=List.mem_map.mp ha
   exact nd.1 (bP hb).1
theorem dR : ∀ ws : List Str,2 * (pairsOf ws).length + ws.length = ws.length * ws.length
 | [] => rfl
 | x :: r => by
  have:=dR r
  simp only [pairsOf,List.length_append,List.length_map,List.length_cons,Nat.succ_mul,Nat.mul_succ]
  omega
theorem e4 {ws : List Str} (h : ws.length <= 8) : (pairsOf ws).length <= 28:=by
 have e:=dR ws
 generalize ws.length = n at *
 match n,h with
 | 0,_ => omega
 | 1,_ => omega
 | 2,_ => omega
 | 3,_ => omega
 | 4,_ => omega
 | 5,_ => omega
 | 6,_ => omega
 | 7,_ => omega
 | 8,_ => omega
theorem aZ {H0 H : Hp3} {p : Addr} {o : O3} (h0 : H0 p = none) (s : Sub3 H0 H) : Sub3 H0 (up3 H p o):=fun b u e => by rw [aj (a5 e h0)]; exact s b u e
section
variable {P : Program} {w : World} {K : PySem.W.Frag} {mg : Str -> Option Value} {base : Heap}
def j2 : Sp3:=fun ts H Q => ∃ n : Int,ts = [.int n] /\ ∀ m : Int,0 <= m -> Q (.int m) H
def rG : Sp3:=fun ts H Q => ∃ a,ts = [.ref a] /\ Cl H a /\ ∀ (n : Int) (H' : Hp3),Drw a H H' -> Q (.int n) H'
def y4 : Sp3:=fun ts H Q => ∃ (a : Addr) (ns : List Int),ts = [.ref a] /\ H a = some (.rol (ns.map T.int)) /\ ns.length <= 63 /\ ∀ (p : Addr) (H' : Hp3),Sub3 H H' -> H p = none -> Cl H' p -> Q (.ref p) H'
abbrev o3 : List Str:=["_law_number","_law_found","_law_j"]
theorem sc_wide : FnScope o3 ["_law_number"] (ah (top 30)):=aR
theorem rH {f : Addr} {fd : FuncData} (g : G3 K mg "_law_wide" (top 30) ["_law_number"] f fd) (B : Bl mg) : Cal P w K mg base 1 "_law_wide" (top 30) ["_law_number"] j2:=by
 refine ⟨f,fd,g,?_⟩
 refine fn3 g.fn sc_wide (fun ts H Q h => ?_) (fun cdv A outer s H E ts H3 Q hr h => ?_)
 ·
  obtain ⟨n,rfl,_⟩:=h; rfl
 ·
  have hu30:=Room.u30 hr
  have hu31:=Room.u31 hr
  have hu1:=Room.u1 hr
  obtain ⟨n,rfl,k⟩:=h
  refine ⟨_,(ae (ak (i:=1) sc_wide.nd af)
    (ae (ak (i:=0) sc_wide.nd (am aA (v3 0) af))
    (ae (aP PassesOwn.never rfl (bK rfl B.range_ (aa af ac)) (ao (i:=2) sc_wide.nd) (ae (ak (i:=0) sc_wide.nd (am aA (am aY (am aY (am cE (v3 0) af) (am cE (am cE af (v3 2)) (v3 2))) af) af))
     (ag (ak (i:=1) sc_wide.nd (am aY (am cE (v3 1) (am gI af af)) (am aA (am aA (am cE (v3 0) af) af) (am gI af af)))))))
    (ag (aF (v3 1)))))),?_⟩
  rw [show ay o3 [T.int n] = [some (T.int n),none,none] from rfl]
  walk_at "rd"
  refine ⟨by decide,True.intro,by decide,by decide,?_⟩
  refine bU (fun r σ H => ∃ (x f : Int) (v : Option T),σ = [some (.int x),some (.int f),v] /\ 0 <= x /\ x < 2147483647 /\ 0 <= f /\ H = H3 /\ ∀ t ∈ r,∃ j : Int,t = .int j /\ 0 <= j /\ j < 7) ⟨_,0,none,rfl,Int.emod_nonneg _ (by decide),Int.emod_lt_of_pos _ (by decide),by decide,rfl,?_⟩ ?_ ?_
  ·
   intro t ht
   rw [show bu 0 (Int.toNat 7) = (List.range 7).map (fun (i : Nat) => T.int (0 + (i : Int))) from rfl] at ht
   obtain ⟨i,hi,rfl⟩:=List.mem_map.mp ht
   rw [List.mem_range] at hi
   exact ⟨_,rfl,by omega,by omega⟩
  ·
   rintro σ H ⟨x,f,v,rfl,_,_,h0,rfl,_⟩
   refine ⟨trivial,?_⟩
   walk_at "rd"
   exact Fin3.of Sub3.refl (k _ h0)
  ·
   rintro t r σ H N ⟨x,f,v,rfl,x0,x1,f0,rfl,hr⟩ hN
   obtain ⟨j,rfl,j0,j1⟩:=hr _ List.mem_cons_self
   refine ⟨trivial,?_⟩
   walk_at "rd"
   have tn : (10 : Int) ^ Int.toNat 9 = 1000000000:=by decide
   rw [tn]
   refine ⟨.inl ⟨by omega,by omega⟩,.inl ⟨by decide,by decide⟩,.inl ⟨by omega,by omega⟩,by decide,⟨by decide,by decide,by decide⟩,.inr ⟨by decide,by decide⟩,.inr ⟨by decide,by decide⟩,by decide,⟨by decide,by decide,by decide⟩,by decide,?_⟩
   refine hN _ _ ⟨_,_,_,rfl,Int.emod_nonneg _ (by decide),Int.emod_lt_of_pos _ (by decide),?_,rfl,fun t ht => hr t (List.mem_cons_of_mem _ ht)⟩
   have:=Int.emod_nonneg (((x * 48271 + 7919 * j * j + 11) % 2147483647) * 69621 % 2147483629) (show (1000000000 : Int) ≠ 0 by decide)
   omega
abbrev o4 : List Str:=["_law_cells","_law_cell"]
theorem sc_next : FnScope o4 ["_law_cells"] (ah (top 31)):=aR
theorem rJ {f : Addr} {fd : FuncData} (g : G3 K mg "_law_next" (top 31) ["_law_cells"] f fd) (B : Bl mg) (F_wide : Cal P w K mg base 1 "_law_wide" (top 30) ["_law_number"] j2) : Cal P w K mg base 2 "_law_next" (top 31) ["_law_cells"] rG:=by
 refine ⟨f,fd,g,?_⟩
 refine fn3 g.fn sc_next (fun ts H Q h => ?_) (fun cdv A outer s H E ts H3 Q hr h => ?_)
 ·
  obtain ⟨a,rfl,_⟩:=h; rfl
 ·
  have hu30:=Room.u30 hr
  have hu31:=Room.u31 hr
  have hu1:=Room.u1 hr
  obtain ⟨a,rfl,D,k⟩:=h
  obtain ⟨ns,hc,hne,hlen⟩:=D.ex
  refine ⟨_,(ae (ak (i:=1) sc_next.nd (br PySem.F.plainAttrs_list PySem.F.slot_list_pop PySem.F.type_list_pop iN (v3 0) (aa af ac)))
    (ae (a8 (aU (bG hu30) (v3 0) (bb ac)) (ag (ba (br PySem.F.plainAttrs_list PySem.F.slot_list_append PySem.F.type_list_append aX (v3 0) (aa (aD F_wide hr rfl (aa (am aY (v3 1) af) ac)) ac)))) aG)
    (ag (aF (v3 1))))),?_⟩
  rw [show ay o4 [T.ref a] = [some (T.ref a),none] from rfl]
  have hsz : sizeLine = 16777216:=rfl
  cases ns with
  | nil => exact absurd rfl hne
  | cons n0 r =>
   simp only [List.map_cons] at hc
   simp only [List.length_cons] at hlen
   walk_at "rd"
   refine ⟨⟨True.intro,True.intro⟩,by omega,fun p hp => ?_⟩
   obtain ⟨np,hp0⟩:=ap hp
   have np':=Ne.symm np
   have hpl : (r.map T.int).all (pl 20) = true:=by rw [List.all_eq_true]; intro t ht; obtain ⟨x,_,rfl⟩:=List.mem_map.mp ht; rfl
   walk_at "rd"
   refine ⟨True.intro,True.intro,rfl,?_⟩
   cases r with
   | nil =>
    simp only [List.map_nil,kO,if_true]
    walk_at "rd"
    refine ⟨⟨True.intro,True.intro⟩,n0 + 1,rfl,fun m hm => ?_⟩
    walk_at "rd"
    refine ⟨by omega,ee (a:=a) (H:=H3) ⟨[m],ai,by simp,by simp⟩ (fun b o hb h1 => ?_) fun H'' hD => k _ _ hD⟩
    rw [aj h1,aj (a5 hb hp0),aj h1]
    exact hb
   | cons n1 r =>
    rw [decide_eq_false (by simp),if_neg Bool.false_ne_true]
    refine ee (a:=a) (H:=H3) ⟨n1 :: r,by rw [aj np',ai],by simp,by simp only [List.length_cons] at hlen ⊢; omega⟩ (fun b o hb h1 => ?_) fun H'' hD => k _ _ hD
    rw [aj (a5 hb hp0),aj h1]
    exact hb
abbrev o5 : List Str:=["_law_script","_law_cells"]
theorem sc_deck : FnScope o5 ["_law_script"] (ah (top 32)):=aR
theorem rK {f : Addr} {fd : FuncData} (g : G3 K mg "_law_deck" (top 32) ["_law_script"] f fd) (B : Bl mg) (F_wide : Cal P w K mg base 1 "_law_wide" (top 30) ["_law_number"] j2) : Cal P w K mg base 2 "_law_deck" (top 32) ["_law_script"] y4:=by
 refine ⟨f,fd,g,?_⟩
 refine fn3 g.fn sc_deck (fun ts H Q h => ?_) (fun cdv A outer s H E ts H3 Q hr h => ?_)
 ·
  obtain ⟨a,ns,rfl,_⟩:=h; rfl
 ·
  have hu30:=Room.u30 hr
  have hu31:=Room.u31 hr
  have hu1:=Room.u1 hr
  obtain ⟨a,ns,rfl,ha,hlen,k⟩:=h
  refine ⟨_,(ae (ak (i:=1) sc_deck.nd (am aY (aI gO rfl B.list_ d8 (aa (cw (v3 0) cr (cu af)) ac)) (bb (aa af ac))))
    (ae (a8 (aU (bG hu30) (am aA (aw ix3 (v3 1) af) af) af) (ag (aF (am aY (bb (aa (am aH (aw ix3 (v3 1) af) af) ac)) (cw (v3 1) (cu af) cr)))) aG)
    (ag (aF (bb (aa (aD F_wide hr rfl (aa (am aY (am aH (aw ix3 (v3 1) af) af) (aB (uu rfl) rfl B.sum_ uw (aa (cw (v3 1) (cu af) cr) ac))) ac)) ac)))))),?_⟩
  rw [show ay o5 [T.ref a] = [some (T.ref a),none] from rfl]
  have hsz : sizeLine = 16777216:=rfl
  have hcut : b4 (ns.map T.int) none (some 63) = ns.map T.int:=by
   rw [show (63 : Int) = ((63 : Nat) : Int) from rfl,nB,List.take_of_length_le (by simpa using hlen)]
  obtain ⟨m0,mr,hm⟩ : ∃ m0 mr,ns ++ [7] = m0 :: mr:=by cases ns <;> exact ⟨_,_,rfl⟩
  have hm' : ns.map T.int ++ [T.int 7] = T.int m0 :: mr.map T.int:=by
   have:=congrArg (List.map T.int) hm
   simpa using this
  have hml : mr.length + 1 = ns.length + 1:=by have:=congrArg List.length hm; simpa using this.symm
  have hi : ints3 (mr.map T.int) = some mr:=fS mr
  walk_at "rd"
  intro p hp
  have nap : a ≠ p:=a5 ha hp
  walk_at "rd"
  intro p1 hp1
  obtain ⟨n1,hp1⟩:=ap hp1
  have n1':=Ne.symm n1
  refine ⟨by omega,fun p2 hp2 => ?_⟩
  obtain ⟨n2,hp2⟩:=ap hp2
  obtain ⟨n3,hp2⟩:=ap hp2
  have n2':=Ne.symm n2
  walk_at "rd"
  refine ⟨by omega,fun p3 hp3 => ?_⟩
  obtain ⟨n4,hp3⟩:=ap hp3
  obtain ⟨n5,hp3⟩:=ap hp3
  obtain ⟨n6,hp3⟩:=ap hp3
  walk_at "rd"
  have hS : Sub3 H3 (up3 (up3 (up3 (up3 H3 p (O3.lst (ns.map T.int))) p1 (O3.lst (ns.map T.int))) p2 (O3.lst [T.int 7])) p3 (O3.lst (T.int m0 :: mr.map T.int))):=aZ hp3 (aZ hp2 (aZ hp1 (aZ hp Sub3.refl)))
  refine ⟨by decide,?_⟩
  split
  ·
   refine ⟨⟨by decide,by decide +kernel⟩,by omega,fun p4 hp4 => ?_⟩
   have hp4':=hp4
   obtain ⟨n7,hp4⟩:=ap hp4
   obtain ⟨_,hp4⟩:=ap hp4
   obtain ⟨_,hp4⟩:=ap hp4
   obtain ⟨_,hp4⟩:=ap hp4
   have n7':=Ne.symm n7
   walk_at "rd"
   intro p5 hp5
   obtain ⟨n8,hp5⟩:=ap hp5
   have hp5':=hp5
   obtain ⟨n9,hp5⟩:=ap hp5
   obtain ⟨_,hp5⟩:=ap hp5
   obtain ⟨_,hp5⟩:=ap hp5
   obtain ⟨_,hp5⟩:=ap hp5
   have n8':=Ne.symm n8
   walk_at "rd"
   refine ⟨by omega,fun p6 hp6 => ?_⟩
   have hp60 : H3 p6 = none:=by
    obtain ⟨_,hp6⟩:=ap hp6
    obtain ⟨_,hp6⟩:=ap hp6
    obtain ⟨_,hp6⟩:=ap hp6
    obtain ⟨_,hp6⟩:=ap hp6
    obtain ⟨_,hp6⟩:=ap hp6
    exact (ap hp6).2
   refine Fin3.of Sub3.refl (k p6 _ (aZ hp60 (aZ hp5 (aZ hp4 hS))) hp60 ⟨(m0 / 2) :: mr,by rw [ai]; rfl,by simp,by simp only [List.length_cons]; omega⟩)
  ·
   refine ⟨⟨by decide,by decide +kernel⟩,fun p4 hp4 => ?_⟩
   have hp40 : H3 p4 = none:=by
    obtain ⟨_,hp4⟩:=ap hp4
    obtain ⟨_,hp4⟩:=ap hp4
    obtain ⟨_,hp4⟩:=ap hp4
    exact (ap hp4).2
   walk_at "rd"
   refine ⟨_,rfl,fun m hm0 => ?_⟩
   walk_at "rd"
   refine ⟨by omega,fun p5 hp5 => ?_⟩
   have hp50 : H3 p5 = none:=by
    obtain ⟨_,hp5⟩:=ap hp5
    obtain ⟨_,hp5⟩:=ap hp5
    obtain ⟨_,hp5⟩:=ap hp5
    obtain ⟨_,hp5⟩:=ap hp5
    exact (ap hp5).2
   exact Fin3.of Sub3.refl (k p5 _ (aZ hp50 (aZ hp40 hS)) hp50 ⟨[m],ai,by simp,by simp⟩)
def y6 : Sp3:=fun ts H Q => ∃ (α : Type) (f : α -> T) (n : Int) (a : Addr) (xs : List α),ts = [.int n,.ref a] /\ H a = some (.lst (xs.map f)) /\ xs.length <= 100 /\ ∀ (p : Addr) (ys : List α),H p = none -> ys.Perm xs -> Q (.ref p) (up3 H p (.lst (ys.map f)))
theorem gl {α β : Type} (f : α -> β) : ∀ (l : List α) (j : Nat),(l.map f).eraseIdx j = (l.eraseIdx j).map f
 | [],_ => rfl
 | x :: l,0 => rfl
 | x :: l,j + 1 => by simp only [List.map_cons,List.eraseIdx_cons_succ,gl f l j]
theorem dS : ∀ {ws : List Str} {o : Str × Str},ws.Nodup -> o ∈ pairsOf ws -> (o.2,o.1) ∉ pairsOf ws
 | x :: r,o,nd,h,h2 => by
  rw [List.nodup_cons] at nd
  have h' : o ∈ r.map (fun y => (x,y)) ++ pairsOf r:=h
  have h2' : (o.2,o.1) ∈ r.map (fun y => (x,y)) ++ pairsOf r:=h2
  rcases List.mem_append.mp h' with a | a
  ·
   obtain ⟨y,hy,rfl⟩:=List.mem_map.mp a
   rcases List.mem_append.mp h2' with b | b
   ·
    obtain ⟨z,hz,e⟩:=List.mem_map.mp b
    have e1 : x = y:=congrArg Prod.fst e
    exact nd.1 (by rw [e1]; exact hy)
   ·
    exact nd.1 (bP b).2
  ·
   rcases List.mem_append.mp h2' with b | b
   ·
    obtain ⟨z,hz,e⟩:=List.mem_map.mp b
    have e1 : x = o.2:=congrArg Prod.fst e
    exact nd.1 (by rw [e1]; exact (bP a).2)
   ·
    exact dS nd.2 a b
def y7 : Sp3:=fun ts H Q => ∃ (n : Int) (a : Addr) (b : Int) (ws : List Str),ts = [.int n,.ref a,.int b] /\ H a = some (.lst (ws.map T.str)) /\ ws.Nodup /\ ws.length <= 8 /\ 1 <= b /\ b <= 100 /\ ∀ (p : Addr) (os : List (Str × Str)),H p = none -> os.length <= 28 -> os.Nodup -> (∀ o ∈ os,o.1 ≠ o.2 /\ o.1 ∈ ws /\ o.2 ∈ ws) -> (∀ o ∈ os,(o.2,o.1) ∉ os) -> Q (.ref p) (up3 H p (.lst (os.map orT)))
def y8 : Sp3:=fun ts H Q => ∃ (n : Int) (a : Addr) (m wi : Int) (ws : List Str),ts = [.int n,.ref a,.int m,.int wi] /\ H a = some (.lst (ws.map T.str)) /\ 1 <= ws.length /\ ws.length <= 8 /\ 0 <= m /\ m <= 12 /\ ∀ ps : List (Str × Str × Str),ps.length <= 12 -> ps.Nodup -> (∀ p ∈ ps,(p.1 = "with" \/ p.1 = "apart") /\ p.2.1 ≠ p.2.2 /\ p.2.1 ∈ ws /\ p.2.2 ∈ ws) -> Q (.tup (ps.map prT)) H
theorem gm {j : Int} (h : j.natAbs <= 8000) : j.natAbs.log2 < 9000:=Nat.lt_of_le_of_lt (Nat.log2_le_self _) (by omega)
theorem o6 {H3 H : Hp3} {p : Addr} {o : O3} (hS : Sub3 H3 H) (hp : H p = some o) : Sub3 (up3 H3 p o) H:=fun b u hb => by
 by_cases e : b = p
 ·
  subst e; rw [ai] at hb; rw [hp]; exact hb
 ·
  rw [aj e] at hb; exact hS b u hb
theorem e5 {α : Type} : ∀ {l : List α} {j : Nat} (h : j < l.length),(l[j] :: l.eraseIdx j).Perm l
 | x :: l,0,_ => .refl _
 | x :: l,j + 1,h => (List.Perm.swap x _ (l.eraseIdx j)).trans ((e5 (l:=l) (j:=j) (by simpa using h)).cons x)
theorem none_of {H3 H : Hp3} {q : Addr} (hS : Sub3 H3 H) (hq : H q = none) : H3 q = none:=by
 cases e : H3 q with
 | none => rfl
 | some o => rw [hS q o e] at hq; cases hq
abbrev o7 : List Str:=["_law_cell","_law_names_here","_law_left","_law_turn_here","_law_k","_law_at"]
theorem sc_turn : FnScope o7 ["_law_cell","_law_names_here"] (ah (top 34)):=aR
theorem rL {f : Addr} {fd : FuncData} (g : G3 K mg "_law_turn" (top 34) ["_law_cell","_law_names_here"] f fd) (B : Bl mg) : Cal P w K mg base 1 "_law_turn" (top 34) ["_law_cell","_law_names_here"] y6:=by
 refine ⟨f,fd,g,?_⟩
 refine fn3 g.fn sc_turn (fun ts H Q h => ?_) (fun cdv A outer s H E ts H3 Q hr h => ?_)
 ·
  obtain ⟨α,fe,n,a,xs,rfl,_⟩:=h; rfl
 ·
  have hu30:=Room.u30 hr
  have hu31:=Room.u31 hr
  have hu1:=Room.u1 hr
  obtain ⟨α,fe,n,a,xs,rfl,ha,hxl,k⟩:=h
  refine ⟨_,(ae (ak (i:=2) sc_turn.nd (aI gO rfl B.list_ d8 (aa (v3 1) ac)))
    (ae (ak (i:=3) sc_turn.nd (bb ac))
    (ae (aP PassesOwn.never rfl (bK rfl B.range_ (aa (aB ci rfl B.len_ bX (aa (v3 1) ac)) ac)) (ao (i:=4) sc_turn.nd) (ae (ak (i:=5) sc_turn.nd (am aA (v3 0) (aB ci rfl B.len_ bX (aa (v3 2) ac))))
     (ae (ak (i:=0) sc_turn.nd (am aH (v3 0) (aB ci rfl B.len_ bX (aa (v3 2) ac))))
     (ag (ba (br PySem.F.plainAttrs_list PySem.F.slot_list_append PySem.F.type_list_append aX (v3 3) (aa (br PySem.F.plainAttrs_list PySem.F.slot_list_pop PySem.F.type_list_pop iN (v3 2) (aa (v3 5) ac)) ac)))))))
    (ag (aF (v3 3)))))),?_⟩
  rw [show ay o7 [T.int n,T.ref a] = [some (T.int n),some (T.ref a),none,none,none,none] from rfl]
  have hsz : sizeLine = 16777216:=rfl
  walk_at "rd"
  intro q hq
  refine ⟨by omega,fun p hp => ?_⟩
  obtain ⟨npq,hp0⟩:=ap hp
  have npq':=Ne.symm npq
  have nap : a ≠ p:=a5 ha hp0
  have naq : a ≠ q:=a5 ha hq
  walk_at "rd"
  refine ⟨True.intro,by omega,by omega,?_⟩
  have hrl : (bu 0 ((xs.length : Int)).toNat).length = xs.length:=by simp [bu]
  simp only [Int.toNat_natCast] at hrl
  generalize bu 0 xs.length = ts0 at hrl
  refine bU (fun r σ H' => ∃ (ls ys : List α) (c : Int) (v4 v5 : Option T),σ = [some (.int c),some (.ref a),some (.ref q),some (.ref p),v4,v5] /\ H' q = some (.lst (ls.map fe)) /\ H' p = some (.lst (ys.map fe)) /\ (ys ++ ls).Perm xs /\ ls.length = r.length /\ Sub3 H3 H')
   ⟨xs,[],n,none,none,rfl,by rw [aj npq',ai],ai,by simp,hrl.symm,aZ hp0 (aZ hq Sub3.refl)⟩ ?_ ?_
  ·
   rintro σ H' ⟨ls,ys,c,v4,v5,rfl,h1,h2,hP,hl,hS⟩
   have : ls = []:=List.eq_nil_of_length_eq_zero hl
   subst this
   rw [List.append_nil] at hP
   refine ⟨trivial,?_⟩
   walk_at "rd"
   exact Fin3.of (o6 hS h2) (k p ys hp0 hP)
  ·
   rintro x r σ H' N ⟨ls,ys,c,v4,v5,rfl,h1,h2,hP,hl,hS⟩ hN
   simp only [List.length_cons] at hl
   have hpl:=hP.length_eq
   rw [List.length_append] at hpl
   have hpos : (0 : Int) < (ls.length : Int):=by omega
   obtain ⟨j,hj⟩:=Int.eq_ofNat_of_zero_le (Int.emod_nonneg c (show (ls.length : Int) ≠ 0 by omega))
   have hj2 : j < ls.length:=by have:=Int.emod_lt_of_pos c hpos; omega
   have e1 : ixN ls.length (c % (ls.length : Int)) = some j:=by rw [hj]; exact gR hj2
   have e2 : (ls.map fe)[j]? = some (fe ls[j]):=by rw [List.getElem?_map,List.getElem?_eq_getElem hj2]; rfl
   have e3:=gl fe ls j
   have hlog : ((ls.length : Int)).natAbs.log2 < 9000:=gm (by omega)
   refine ⟨trivial,?_⟩
   have hl1 : r.length + 1 <= ls.length:=by omega
   have hl2 : ls.length <= r.length + 1:=by omega
   have hyl : ys.length <= 100:=by omega
   clear hj hl hpl
   walk_at "rd"
   refine ⟨by first | trivial | omega,⟨by omega,hlog⟩,⟨True.intro,True.intro⟩,⟨True.intro,True.intro⟩,by omega,?_⟩
   refine hN _ _ ⟨ls.eraseIdx j,ys ++ [ls[j]],_,_,_,rfl,by rw [aj npq',ai],by rw [ai]; simp,?_,?_,aZ hp0 (aZ hq hS)⟩
   ·
    refine List.Perm.trans ?_ hP
    rw [List.append_assoc]
    exact List.Perm.append_left ys (e5 hj2)
   ·
    rw [List.length_eraseIdx_of_lt hj2]; omega
abbrev jd : List Str:=["_law_cell","_law_turn_here","_law_often","_law_orders_here","_law_k","_law_one","_law_other"]
theorem sc_orders : FnScope jd ["_law_cell","_law_turn_here","_law_often"] (ah (top 35)):=aR
theorem l7 {f : Addr} {fd : FuncData} (g : G3 K mg "_law_orders" (top 35) ["_law_cell","_law_turn_here","_law_often"] f fd) (B : Bl mg) : Cal P w K mg base 1 "_law_orders" (top 35) ["_law_cell","_law_turn_here","_law_often"] y7:=by
 refine ⟨f,fd,g,?_⟩
 refine fn3 g.fn sc_orders (fun ts H Q h => ?_) (fun cdv A outer s H E ts H3 Q hr h => ?_)
 ·
  obtain ⟨n,a,b,ws,rfl,_⟩:=h; rfl
 ·
  have hu30:=Room.u30 hr
  have hu31:=Room.u31 hr
  have hu1:=Room.u1 hr
  obtain ⟨n,a,b,ws,rfl,ha,hnd,h8,b1,b2,k⟩:=h
  refine ⟨_,(ae (ak (i:=3) sc_orders.nd (bb ac))
    (ae (aP PassesOwn.never rfl (nI rfl B.enumerate_ (v3 1)) (cg (n:=2) rfl (ax (ao (i:=4) sc_orders.nd) (ax (ao (i:=5) sc_orders.nd) bM))) (ag (aP PassesOwn.never rfl (bo (cw (v3 1) (cu (am aY (v3 4) af)) cr)) (ao (i:=6) sc_orders.nd) (ae (a8 (aU (bG hu30) (am aA (v3 0) (v3 2)) af) (ag (ba (br PySem.F.plainAttrs_list PySem.F.slot_list_append PySem.F.type_list_append aX (v3 3) (aa (aL (aa (v3 5) (aa (v3 6) ac))) ac)))) aG)
      (ag (ak (i:=0) sc_orders.nd (am aH (v3 0) (v3 2))))))))
    (ag (aF (v3 3))))),?_⟩
  rw [show ay jd [T.int n,T.ref a,T.int b] = [some (T.int n),some (T.ref a),some (T.int b),none,none,none,none] from rfl]
  have hsz : sizeLine = 16777216:=rfl
  walk_at "rd"
  refine ⟨by omega,fun p hp => ?_⟩
  have nap : a ≠ p:=a5 ha hp
  walk_at "rd"
  refine bU (fun r σ H' => ∃ (A B : List Str) (os pre : _) (c : Int) (v4 v5 v6 : Option T),ws = A ++ B /\ r = bT A.length (B.map T.str) /\ σ = [some (.int c),some (.ref a),some (.int b),some (.ref p),v4,v5,v6] /\ H' p = some (.lst (os.map orT)) /\ H' a = some (.lst (ws.map T.str)) /\ pre ++ pairsOf B = pairsOf ws /\ os.Sublist pre /\ Sub3 H3 H')
   ⟨[],ws,[],[],n,none,none,none,rfl,rfl,rfl,ai,by rw [aj nap]; exact ha,rfl,List.Sublist.refl _,Sub3.new hp⟩ ?_ ?_
  ·
   rintro σ H' ⟨A,B,os,pre,c,v4,v5,v6,e1,e2,rfl,h1,h2,hpre,hsub,hS⟩
   have hB : B = []:=by
    cases B with
    | nil => rfl
    | cons x B => simp [bT] at e2
   subst hB
   simp only [pairsOf,List.append_nil] at hpre
   subst hpre
   refine ⟨.inl h2,?_⟩
   walk_at "rd"
   exact Fin3.of (o6 hS h1) (k p os hp (Nat.le_trans hsub.length_le (e4 h8)) (hsub.nodup (eZ hnd)) (fun o ho => ⟨eX hnd (hsub.subset ho),bP (hsub.subset ho)⟩) fun o ho h2 => dS hnd (hsub.subset ho) (hsub.subset h2))
  ·
   rintro x r σ H' N ⟨A,B,os,pre,c,v4,v5,v6,e1,e2,rfl,h1,h2,hpre,hsub,hS⟩ hN
   cases B with
   | nil => simp [bT] at e2
   | cons y B =>
    rw [List.map_cons,bT,List.cons.injEq] at e2
    obtain ⟨rfl,rfl⟩:=e2
    have ecut : b4 (ws.map T.str) (some ((A.length : Int) + 1)) none = B.map T.str:=by
     rw [show ((A.length : Int) + 1) = ((A.length + 1 : Nat) : Int) by omega,cK,e1,<- List.map_drop]
     congr 1
     rw [show A ++ y :: B = (A ++ [y]) ++ B by simp,List.drop_left' (by simp)]
    refine ⟨.inl h2,?_⟩
    walk_at "rd"
    refine ⟨trivial,fun q hq => ?_⟩
    rw [e1] at ecut
    rw [ecut]
    have npq : p ≠ q:=a5 h1 hq
    have naq : a ≠ q:=a5 h2 hq
    have hpre' : pre ++ (B.map (fun z => (y,z)) ++ pairsOf B) = pairsOf ws:=hpre
    have hlen : ∀ E C : List Str,B = E ++ C -> (pre ++ E.map (fun z => (y,z))).length <= 28:=fun E C eB => by
     have h28:=e4 h8
     rw [<- hpre',eB] at h28
     simp only [List.length_append,List.length_map] at h28 ⊢
     omega
    refine bU (fun r σ H'' => ∃ (E C : List Str) (os' : List (Str × Str)) (c' : Int) (v6' : Option T),B = E ++ C /\ r = C.map T.str /\ σ = [some (.int c'),some (.ref a),some (.int b),some (.ref p),some (.int A.length),some (.str y),v6'] /\ H'' q = some (.lst (B.map T.str)) /\ H'' p = some (.lst (os'.map orT)) /\ H'' a = some (.lst (ws.map T.str)) /\ os'.Sublist (pre ++ E.map (fun z => (y,z))) /\ Sub3 H3 H'')
     ⟨[],B,os,c,v6,rfl,rfl,rfl,ai,by rw [aj npq]; exact h1,by rw [aj naq]; exact h2,by simpa using hsub,aZ (none_of hS hq) hS⟩ ?_ ?_
    ·
     rintro σ H'' ⟨E,C,os',c',v6',eB,e2,rfl,g1,g2,g3,gs,gS⟩
     have hC : C = []:=List.map_eq_nil_iff.mp e2.symm
     subst hC
     rw [List.append_nil] at eB
     subst eB
     refine ⟨.inl g1,hN _ _ ⟨A ++ [y],B,os',_,c',_,_,_,by rw [e1]; simp,?_,rfl,g2,g3,?_,gs,gS⟩⟩
     ·
      rw [List.length_append,List.length_singleton,Int.natCast_add]; rfl
     ·
      rw [List.append_assoc]; exact hpre'
    ·
     rintro x r σ H'' N' ⟨E,C,os',c',v6',eB,e2,rfl,g1,g2,g3,gs,gS⟩ hN'
     cases C with
     | nil => cases e2
     | cons z C =>
      rw [List.map_cons,List.cons.injEq] at e2
      obtain ⟨rfl,rfl⟩:=e2
      have hl28:=Nat.le_trans gs.length_le (hlen E (z :: C) eB)
      have hlog : b.natAbs.log2 < 9000:=gm (by omega)
      have hlog' : de c' b:=⟨by omega,hlog⟩
      have hb0 : 0 < b:=by omega
      refine ⟨.inl g1,?_⟩
      clear hN hpre hpre' hlen hsub
      have nx1:=fun v6 => hN' [some (.int (c' / b)),some (.ref a),some (.int b),some (.ref p),some (.int A.length),some (.str y),v6] (up3 H'' p (.lst (os'.map orT ++ [orT (y,z)]))) ⟨E ++ [z],C,os' ++ [(y,z)],_,_,by rw [eB]; simp,rfl,rfl,by rw [aj (Ne.symm npq)]; exact g1,by rw [ai]; simp,by rw [aj nap]; exact g3,by
       rw [List.map_append,<- List.append_assoc]; exact gs.append (List.Sublist.refl _),aZ hp gS⟩
      have nx2:=fun v6 => hN' [some (.int (c' / b)),some (.ref a),some (.int b),some (.ref p),some (.int A.length),some (.str y),v6] H'' ⟨E ++ [z],C,os',_,_,by rw [eB]; simp,rfl,rfl,g1,g2,g3,by
       rw [List.map_append,<- List.append_assoc]; exact gs.trans (List.sublist_append_left _ _),gS⟩
      clear hN' e1 eB ecut gs
      walk_at "rd"
      refine ⟨by first | trivial | omega,?_⟩
      split
      ·
       refine ⟨⟨True.intro,True.intro⟩,by decide,by omega,by first | trivial | exact hlog',?_⟩
       first | trivial | exact nx1 _
      ·
       refine ⟨by first | trivial | exact hlog',?_⟩
       first | trivial | exact nx2 _
abbrev lg : List Str:=["_law_cell","_law_names_here","_law_many","_law_withs","_law_pairs_here","_law_k","_law_one","_law_other","_law_pair"]
theorem sc_pairs : FnScope lg ["_law_cell","_law_names_here","_law_many","_law_withs"] (ah (top 36)):=aR
theorem o9 {f : Addr} {fd : FuncData} (g : G3 K mg "_law_pairs" (top 36) ["_law_cell","_law_names_here","_law_many","_law_withs"] f fd) (B : Bl mg) : Cal P w K mg base 1 "_law_pairs" (top 36) ["_law_cell","_law_names_here","_law_many","_law_withs"] y8:=by
 refine ⟨f,fd,g,?_⟩
 refine fn3 g.fn sc_pairs (fun ts H Q h => ?_) (fun cdv A outer s H E ts H3 Q hr h => ?_)
 ·
  obtain ⟨n,a,m,wi,ws,rfl,_⟩:=h; rfl
 ·
  have hu30:=Room.u30 hr
  have hu31:=Room.u31 hr
  have hu1:=Room.u1 hr
  obtain ⟨n,a,m,wi,ws,rfl,ha,w1,w8,m0,m12,k⟩:=h
  refine ⟨_,(ae (ak (i:=4) sc_pairs.nd (bb ac))
    (ae (aP PassesOwn.never rfl (bK rfl B.range_ (aa (v3 2) ac)) (ao (i:=5) sc_pairs.nd) (ae (ak (i:=6) sc_pairs.nd (aw ix3 (v3 1) (am aA (v3 0) (aB ci rfl B.len_ bX (aa (v3 1) ac)))))
     (ae (ak (i:=7) sc_pairs.nd (aw ix3 (v3 1) (am aA (am aH (v3 0) af) (aB ci rfl B.len_ bX (aa (v3 1) ac)))))
     (ae (ak (i:=8) sc_pairs.nd (aL (aa (aw ix3 (bb (aa bf (aa bf ac))) (aI d6 rfl B.int_ gP (aa (bQ sH (am aA (am aH (v3 0) af) af) (v3 3)) ac))) (aa (v3 6) (aa (v3 7) ac)))))
     (ae (a8 (PW3.pt (ce (aU (m9 hu30) (v3 6) (v3 7)) (b6 (aU (eQ hu31) (v3 8) (v3 4) rfl)))) (ag (ba (br PySem.F.plainAttrs_list PySem.F.slot_list_append PySem.F.type_list_append aX (v3 4) (aa (v3 8) ac)))) aG)
     (ag (ak (i:=0) sc_pairs.nd (am aH (v3 0) af))))))))
    (ag (aF (aI bD rfl B.tuple_ bE (aa (v3 4) ac)))))),?_⟩
  rw [show ay lg [T.int n,T.ref a,T.int m,T.int wi] = [some (T.int n),some (T.ref a),some (T.int m),some (T.int wi),none,none,none,none,none] from rfl]
  have hsz : sizeLine = 16777216:=rfl
  walk_at "rd"
  refine ⟨by omega,fun p hp => ?_⟩
  have nap : a ≠ p:=a5 ha hp
  refine ⟨True.intro,by omega,by omega,?_⟩
  have hrl : (bu 0 m.toNat).length = m.toNat:=by simp [bu]
  generalize bu 0 m.toNat = ts0 at hrl
  refine bU (fun r σ H' => ∃ (ps : List (Str × Str × Str)) (c : Int) (v5 v6 v7 v8 : Option T),σ = [some (.int c),some (.ref a),some (.int m),some (.int wi),some (.ref p),v5,v6,v7,v8] /\ ps.length + r.length <= m.toNat /\ ps.Nodup /\ (∀ o ∈ ps,(o.1 = "with" \/ o.1 = "apart") /\ o.2.1 ≠ o.2.2 /\ o.2.1 ∈ ws /\ o.2.2 ∈ ws) /\ H' p = some (.lst (ps.map prT)) /\ Sub3 H3 H')
   ⟨[],n,none,none,none,none,rfl,by simp [hrl],List.nodup_nil,(fun _ h => nomatch h),ai,Sub3.new hp⟩ ?_ ?_
  ·
   rintro σ H' ⟨ps,c,v5,v6,v7,v8,rfl,hl,hnd,hps,hH,hS⟩
   refine ⟨trivial,?_⟩
   walk_at "rd"
   simp only [List.length_nil,Nat.add_zero] at hl
   exact Fin3.of hS (k ps (by omega) hnd hps)
  ·
   rintro x r σ H' N ⟨ps,c,v5,v6,v7,v8,rfl,hl,hnd,hps,hH,hS⟩ hN
   simp only [List.length_cons] at hl
   have haH : H' a = some (.lst (ws.map T.str)):=hS a _ ha
   have hpos : (0 : Int) < (ws.length : Int):=by omega
   obtain ⟨x1,hx1,e1⟩:=iR ws (c % (ws.length : Int)) (Int.emod_nonneg _ (by omega)) (Int.emod_lt_of_pos _ hpos)
   obtain ⟨x2,hx2,e2⟩:=iR ws (c / 8 % (ws.length : Int)) (Int.emod_nonneg _ (by omega)) (Int.emod_lt_of_pos _ hpos)
   have e1' : atI (ws.map T.str) (c % (ws.length : Int)) = some (.str x1):=by rw [eU,e1]; rfl
   have e2' : atI (ws.map T.str) (c / 8 % (ws.length : Int)) = some (.str x2):=by rw [eU,e2]; rfl
   refine ⟨trivial,?_⟩
   clear e1 e2
   walk_at "rd"
   refine ⟨trivial,⟨by decide,by decide +kernel⟩,trivial,by decide,fun q hq => ?_⟩
   refine ⟨⟨by decide,by decide +kernel⟩,by decide,?_⟩
   have npq : p ≠ q:=a5 hH hq
   have hS2 : Sub3 H3 (up3 H' q (O3.lst [T.str "apart",T.str "with"])):=aZ (none_of hS hq) hS
   have hH2 : up3 H' q (O3.lst [T.str "apart",T.str "with"]) p = some (.lst (ps.map prT)):=by rw [aj npq]; exact hH
   obtain ⟨z,hz,ez⟩ : ∃ z : Str,(z = "with" \/ z = "apart") /\ atI [T.str "apart",T.str "with"] (if decide (c / 64 % 6 < wi) = true then 1 else 0) = some (T.str z):=by
    split
    ·
     exact ⟨"with",.inl rfl,at1 _ _ _⟩
    ·
     exact ⟨"apart",.inr rfl,at0 _ _⟩
   rw [ez,b5]
   refine ⟨by decide,?_⟩
   generalize up3 H' q (O3.lst [T.str "apart",T.str "with"]) = HH at hS2 hH2
   have cd : de c 384:=⟨by decide,by decide +kernel⟩
   have nx : ∀ v8 v7 v6 v5,N [some (.int (c / 384)),some (.ref a),some (.int m),some (.int wi),some (.ref p),v5,v6,v7,v8] HH:=fun v8 v7 v6 v5 => hN _ _ ⟨ps,_,_,_,_,_,rfl,by omega,hnd,hps,hH2,hS2⟩
   rw [show T.tup [T.str z,T.str x1,T.str x2] = prT (z,x1,x2) from rfl]
   split
   ·
    rename_i hne
    have hne' : x1 ≠ x2:=by simpa using hne
    rw [hH2,nv]
    refine ⟨vX _,vY _,?_⟩
    rw [ux]
    split
    ·
     rename_i hin
     have hin':=(yX rh).mp hin
     rw [hH2,kL,kM,List.length_map]
     refine ⟨⟨trivial,trivial⟩,by omega,cd,hN _ _ ⟨ps ++ [(z,x1,x2)],_,_,_,_,_,rfl,by simp only [List.length_append,List.length_singleton]; omega,cA hnd hin',fun o ho => ?_,by rw [ai,List.map_append]; rfl,aZ hp hS2⟩⟩
     rcases List.mem_append.mp ho with ho | ho
     ·
      exact hps o ho
     ·
      rw [List.mem_singleton.mp ho]
      exact ⟨hz,hne',hx1,hx2⟩
    ·
     exact ⟨cd,nx _ _ _ _⟩
   ·
    exact ⟨cd,nx _ _ _ _⟩
def y9 : Sp3:=fun ts H Q => ∃ n m : Int,ts = [.int n,.int m] /\ 0 <= m /\ m <= 8 /\ ∀ (p : Addr) (ws : List Str),H p = none -> Nms ws -> (ws.length : Int) = m -> Q (.ref p) (up3 H p (.lst (ws.map T.str)))
theorem j3 {H : Hp3} {a : Addr} {o : O3} (h : H a = some o) : up3 H a o = H:=by
 funext b
 by_cases e : b = a
 ·
  subst e; rw [ai,h]
 ·
  rw [aj e]
theorem pb {D : Ends3} {x0 x1 x3 x4 x5 x6 x7 x8 x12 : Option T} {own long : Int} {wd : Addr} {H : Hp3} (h1 : 1 <= long) (h8 : long <= 8) (hw : H wd = some (.lst []))
  (hn : ∀ (l : List Nat) (own' : Int) (x12' : Option T),(l.length : Int) = long -> (∀ c ∈ l,97 <= c /\ c <= 122) -> D.nx [x0,x1,some (.str (mkS cM)),x3,x4,x5,x6,x7,x8,some (.int own'),some (.int long),some (.ref wd),x12'] (up3 H wd (.lst (l.map sgT)))) :
  iter3 (cf 12) (eK (cJ (di "list" fU (aJ 11) (a6 (bJ fu (aJ 2) (bJ (rI3 (fun x j => 0 < j) fun i j => T.int (i % j)) (aJ 9) (tC3 (T.int 26)))) bC))) (dO (bJ (rI3 de fun i j => T.int (i / j)) (aJ 9) (tC3 (T.int 26))) (cf 9))) D bg (bu 0 long.toNat)
   [x0,x1,some (.str (mkS cM)),x3,x4,x5,x6,x7,x8,some (.int own),some (.int long),some (.ref wd),x12] H:=by
 have hsz : sizeLine = 16777216:=rfl
 have al : (mkS cM).length <= sizeLine:=by rw [dq]; decide
 have hrl : (bu 0 long.toNat).length = long.toNat:=by simp [bu]
 generalize bu 0 long.toNat = ts0 at hrl
 refine bU (fun r σ H' => ∃ (l : List Nat) (own' : Int) (v : Option T),σ = [x0,x1,some (.str (mkS cM)),x3,x4,x5,x6,x7,x8,some (.int own'),some (.int long),some (.ref wd),v] /\ l.length + r.length = long.toNat /\ (∀ c ∈ l,97 <= c /\ c <= 122) /\ H' = up3 H wd (.lst (l.map sgT)))
  ⟨[],own,x12,rfl,by simpa using hrl,(fun _ h => nomatch h),(j3 hw).symm⟩ ?_ ?_
 ·
  rintro σ H' ⟨l,own',v,rfl,hl,hlet,rfl⟩
  simp only [List.length_nil,Nat.add_zero] at hl
  exact ⟨trivial,hn l own' v (by omega) hlet⟩
 ·
  rintro x r σ H' N ⟨l,own',v,rfl,hl,hlet,rfl⟩ hN
  simp only [List.length_cons] at hl
  have ha:=jY (own' % 26) (Int.emod_nonneg _ (by decide)) (Int.emod_lt_of_pos _ (by decide))
  have hb:=Int.emod_lt_of_pos own' (show (0 : Int) < 26 by decide)
  refine ⟨trivial,?_⟩
  clear hn hw
  walk_at "rd"
  simp only [cb,ha,b5]
  walk_at "rd"
  refine ⟨⟨True.intro,True.intro⟩,by decide,al,by omega,⟨by decide,by decide +kernel⟩,?_⟩
  refine hN _ _ ⟨l ++ [97 + (own' % 26).toNat],_,_,rfl,by simp only [List.length_append,List.length_singleton]; omega,fun y hy => ?_,by simp [sgT]⟩
  rcases List.mem_append.mp hy with hy | hy
  ·
   exact hlet y hy
  ·
   rw [List.mem_singleton.mp hy]; omega
theorem pc {D : Ends3} {x0 x1 x3 x4 x5 x6 x8 x9 x10 x12 : Option T} {p wd : Addr} {ws : List Str} {H : Hp3} (hp : H p = some (.lst (ws.map T.str))) (hne : p ≠ wd) (hw7 : ws.length <= 7) (l : List Nat) (hw : H wd = some (.lst (l.map sgT))) (h1 : 1 <= l.length) (h8 : l.length <= 8) (hl : ∀ x ∈ l,97 <= x /\ x <= 122)
  (hnx : ∀ l' : List Nat,l'.length <= 8 -> isNm (mkS l') -> mkS l' ∉ ws -> D.nx [x0,x1,some (.str (mkS cM)),x3,x4,x5,x6,some (.ref p),x8,x9,x10,some (.ref wd),x12] (up3 H wd (.lst (l'.map sgT)))) :
  gH (cD (bJ (iJ false) (di "str" dD (tC3 (T.str (Str.ofString ""))) (a6 (aJ 11) bC)) (aJ 7)))
   (dO (bJ fu (aJ 2) (bJ (rI3 (fun x j => 0 < j) fun i j => T.int (i % j)) (bJ eP (di "str" d7 (aJ 2) (a6 (bJ fu (aJ 11) (tC3 (T.int 0))) bC)) (tC3 (T.int 1))) (tC3 (T.int 26)))) (kD (aJ 11) (tC3 (T.int 0)) gK)) D
   [x0,x1,some (.str (mkS cM)),x3,x4,x5,x6,some (.ref p),x8,x9,x10,some (.ref wd),x12] H:=by
 have hsz : sizeLine = 16777216:=rfl
 have al : (mkS cM).length <= sizeLine:=by rw [dq]; decide
 refine ⟨fun m σ H' => ∃ (c : Nat) (r : List Nat),σ = [x0,x1,some (.str (mkS cM)),x3,x4,x5,x6,some (.ref p),x8,x9,x10,some (.ref wd),x12] /\ H' = up3 H wd (.lst ((c :: r).map sgT)) /\ r.length <= 7 /\ (∀ x ∈ c :: r,97 <= x /\ x <= 122) /\ ∀ w ∈ ws,w.cps.toList.head? ≠ some (97 + (c - 97 + m) % 26),?_,?_⟩
 ·
  cases l with
  | nil => simp at h1
  | cons c r =>
   obtain ⟨hc0,hc1⟩:=hl c List.mem_cons_self
   obtain ⟨m,hm⟩:=i9 c hc0 hc1 ws hw7
   exact ⟨m,c,r,rfl,(j3 hw).symm,by simp only [List.length_cons] at h8; omega,hl,hm⟩
 ·
  rintro m σ H' ⟨c,r,rfl,rfl,hr,hl,hm⟩
  obtain ⟨hc0,hc1⟩:=hl c List.mem_cons_self
  have es:=lc (c :: r)
  have ej:=sR (c :: r)
  have eo : jOk "" ((c :: r).map sg):=sS (by simp only [List.length_cons]; omega)
  have nxt : isNm (mkS (c :: r)):=yY (by simp) (by simp only [List.length_cons]; omega) hl
  have hcons : (c :: r).map sgT = T.str ⟨#[c]⟩ :: r.map sgT:=rfl
  have hix:=oP c hc0 hc1
  have ha:=jY ((((c - 97 : Nat) : Int) + 1) % 26) (Int.emod_nonneg _ (by decide)) (Int.emod_lt_of_pos _ (by decide))
  clear hw
  generalize hcr : (c :: r).map sg = crs at es ej eo
  simp only [cD,bJ,di,tC3,a6,bC,eT,List.getElem?_cons_zero,List.getElem?_cons_succ,nq,gQ,ai,nA,es,b5,sJ,aj hne,hp,nv,ux,nw]
  refine ⟨trivial,eo,oM _,bV ws,?_⟩
  rw [ej]
  split
  ·
   rename_i hin
   have hin' : mkS (c :: r) ∈ ws:=(rj cH).mp hin
   have hm0 : m ≠ 0:=fun e => hm _ hin' (by rw [cb,e]; show some c = _; congr 1; omega)
   clear hin hnx
   rw [hcons]
   clear es ej eo hcr hcons
   walk_at "rd"
   rw [show (⟨#[c]⟩ : Str) = mkS [c] from rfl]
   simp only [hix]
   walk_at "rd"
   simp only [cb,ha,b5]
   walk_at "rd"
   refine ⟨trivial,by decide,al,m - 1,by omega,_,r,trivial,rfl,hr,?_,?_⟩
   ·
    intro x hx
    rcases List.mem_cons.mp hx with rfl | hx
    ·
     omega
    ·
     exact hl x (List.mem_cons_of_mem _ hx)
   ·
    intro w hw
    have e : (97 + ((((c - 97 : Nat) : Int) + 1) % 26).toNat - 97 + (m - 1)) % 26 = (c - 97 + m) % 26:=by omega
    rw [e]
    exact hm w hw
  ·
   rename_i hin
   exact hnx _ (by simp only [List.length_cons]; omega) nxt fun z => hin ((rj cH).mpr z)
abbrev lh : List Str:=["_law_cell","_law_many","_law_letters","_law_alike","_law_size","_law_at","_law_number","_law_names_here","_law_k","_law_own","_law_long","_law_word","_law_j"]
theorem sc_names : FnScope lh ["_law_cell","_law_many"] (ah (top 29)):=aR
theorem ph {f : Addr} {fd : FuncData} (g : G3 K mg "_law_names" (top 29) ["_law_cell","_law_many"] f fd) (B : Bl mg) : Cal P w K mg base 1 "_law_names" (top 29) ["_law_cell","_law_many"] y9:=by
 refine ⟨f,fd,g,?_⟩
 refine fn3 g.fn sc_names (fun ts H Q h => ?_) (fun cdv A outer s H E ts H3 Q hr h => ?_)
 ·
  obtain ⟨n,m,rfl,_⟩:=h; rfl
 ·
  have hu30:=Room.u30 hr
  have hu31:=Room.u31 hr
  have hu1:=Room.u1 hr
  obtain ⟨n,m,rfl,m0,m8,k⟩:=h
  refine ⟨_,(ae (ak (i:=2) sc_names.nd bf)
    (ae (ak (i:=3) sc_names.nd (bQ (bG hu30) (am aA (v3 0) af) af))
    (ae (ak (i:=4) sc_names.nd (am aY af (am aA (am aH (v3 0) af) af)))
    (ae (ak (i:=5) sc_names.nd (am aA (am aH (v3 0) af) (v3 4)))
    (ae (ak (i:=6) sc_names.nd (am aH (v3 0) af))
    (ae (ak (i:=7) sc_names.nd (bb ac))
    (ae (aP PassesOwn.never rfl (bK rfl B.range_ (aa (v3 1) ac)) (ao (i:=8) sc_names.nd) (ae (ak (i:=9) sc_names.nd (v3 6))
     (ae (ak (i:=10) sc_names.nd (v3 4))
     (ae (a8 (jz (bj (v3 3))) (ae (ak (i:=10) sc_names.nd (am aY af (am aA (v3 6) af)))
      (ag (ak (i:=9) sc_names.nd (am aH (v3 6) af)))) aG)
     (ae (ak (i:=11) sc_names.nd (bb ac))
     (ae (aP PassesOwn.never rfl (bK rfl B.range_ (aa (v3 10) ac)) (ao (i:=12) sc_names.nd) (ae (ba (br PySem.F.plainAttrs_list PySem.F.slot_list_append PySem.F.type_list_append aX (v3 11) (aa (aw ix3 (v3 2) (am aA (v3 9) af)) ac)))
      (ag (ak (i:=9) sc_names.nd (am aH (v3 9) af)))))
     (ae (a8 (bj (v3 3)) (ag (jB (aw ix3 (v3 2) (am aA (am aY (br PySem.F.plainAttrs_str PySem.F.slot_str_index PySem.F.type_str_index iO (v3 2) (aa (aw ix3 (v3 11) (v3 5)) ac)) (v3 8)) af)) (mR (v3 11) (v3 5) fR))) (ag (ak (i:=6) sc_names.nd (v3 9))))
     (ae (eL PassesOwn.never (aU (dP hu31) (br PySem.F.plainAttrs_str PySem.F.slot_str_join PySem.F.type_str_join kJ bf (aa (v3 11) ac)) (v3 7) rfl) (ag (jB (aw ix3 (v3 2) (am aA (am aY (br PySem.F.plainAttrs_str PySem.F.slot_str_index PySem.F.type_str_index iO (v3 2) (aa (aw ix3 (v3 11) af) ac)) af) af)) (mR (v3 11) af fR))))
     (ag (ba (br PySem.F.plainAttrs_list PySem.F.slot_list_append PySem.F.type_list_append aX (v3 7) (aa (br PySem.F.plainAttrs_str PySem.F.slot_str_join PySem.F.type_str_join kJ bf (aa (v3 11) ac)) ac))))))))))))
    (ag (aF (v3 7)))))))))),?_⟩
  rw [show ay lh [T.int n,T.int m] = [some (T.int n),some (T.int m),none,none,none,none,none,none,none,none,none,none,none] from rfl]
  have hsz : sizeLine = 16777216:=rfl
  walk_at "rd"
  simp only [vZ]
  refine ⟨by decide,⟨by decide,by decide +kernel⟩,by decide,⟨by decide,by decide +kernel⟩,by omega,⟨by decide,by decide +kernel⟩,by omega,fun p hp => ?_⟩
  refine ⟨True.intro,by omega,by omega,?_⟩
  have z1 : 1 <= 1 + n / 2 % 8:=by omega
  have z8 : 1 + n / 2 % 8 <= 8:=by omega
  have a0:=Int.emod_nonneg (n / 16) (show (1 + n / 2 % 8) ≠ 0 by omega)
  have a1:=Int.emod_lt_of_pos (n / 16) (show (0 : Int) < 1 + n / 2 % 8 by omega)
  generalize n / 16 % (1 + n / 2 % 8) = at0' at a0 a1
  generalize 1 + n / 2 % 8 = size at z1 z8 a1
  generalize n / 128 = nb
  generalize decide (n % 2 = 0) = alike
  have hrl : (bu 0 m.toNat).length = m.toNat:=by simp [bu]
  have hri : ∀ t ∈ bu 0 m.toNat,∃ j : Int,t = .int j:=by
   intro t ht
   unfold bu at ht
   obtain ⟨i,_,rfl⟩:=List.mem_map.mp ht
   exact ⟨_,rfl⟩
  generalize bu 0 m.toNat = ts0 at hrl hri
  refine bU (fun r σ H' => ∃ (ws : List Str) (nb : Int) (v8 v9 v10 v11 v12 : Option T),σ = [some (.int n),some (.int m),some (.str (mkS cM)),some (.bl alike),some (.int size),some (.int at0'),some (.int nb),some (.ref p),v8,v9,v10,v11,v12] /\ ws.length + r.length = m.toNat /\ Nms ws /\ H' p = some (.lst (ws.map T.str)) /\ Sub3 H3 H' /\ ∀ t ∈ r,∃ j : Int,t = .int j)
   ⟨[],nb,none,none,none,none,none,rfl,by simpa using hrl,.nil,ai,Sub3.new hp,hri⟩ ?_ ?_
  ·
   rintro σ H' ⟨ws,nb,v8,v9,v10,v11,v12,rfl,hl,hn,hH,hS,_⟩
   simp only [List.length_nil,Nat.add_zero] at hl
   refine ⟨trivial,?_⟩
   walk_at "rd"
   refine Fin3.of (fun b o hb => ?_) (k p ws hp hn (by omega))
   by_cases e : b = p
   ·
    subst e; rw [ai] at hb; rw [hH]; exact hb
   ·
    rw [aj e] at hb; exact hS b o hb
  ·
   rintro x r σ H' N ⟨ws,nb,v8,v9,v10,v11,v12,rfl,hl,hn,hH,hS,hri⟩ hN
   simp only [List.length_cons] at hl
   obtain ⟨kk,rfl⟩:=hri _ List.mem_cons_self
   have hw7 : ws.length <= 7:=by omega
   refine ⟨trivial,?_⟩
   have al : (mkS cM).length <= sizeLine:=by rw [dq]; decide
   -- behind the word
   have fin : ∀ (nb' : Int) (v9 v10 v12 : Option T) (wd : Addr) (HH : Hp3) (l : List Nat),HH p = some (.lst (ws.map T.str)) -> p ≠ wd -> HH wd = some (.lst (l.map sgT)) -> H3 wd = none -> Sub3 H3 HH -> 1 <= l.length -> l.length <= 8 -> (∀ c ∈ l,97 <= c /\ c <= 122) ->
     gH (cD (bJ (iJ false) (di "str" dD (tC3 (T.str (Str.ofString ""))) (a6 (aJ 11) bC)) (aJ 7)))
      (dO (bJ fu (aJ 2) (bJ (rI3 (fun x j => 0 < j) fun i j => T.int (i % j)) (bJ eP (di "str" d7 (aJ 2) (a6 (bJ fu (aJ 11) (tC3 (T.int 0))) bC)) (tC3 (T.int 1))) (tC3 (T.int 26)))) (kD (aJ 11) (tC3 (T.int 0)) gK))
      { nx:=cJ (di "list" fU (aJ 7) (a6 (di "str" dD (tC3 (T.str (Str.ofString ""))) (a6 (aJ 11) bC)) bC)) { nx:=N,rt:=Fin3 Q,bk:=iG (aJ 7) { nx:=fun x H' => Fin3 Q T.non H',rt:=Fin3 Q },ct:=N },rt:=Fin3 Q,bk:=iG (aJ 7) { nx:=fun x H' => Fin3 Q T.non H',rt:=Fin3 Q },ct:=N }
      [some (.int n),some (.int m),some (.str (mkS cM)),some (.bl alike),some (.int size),some (.int at0'),some (.int nb'),some (.ref p),some (.int kk),v9,v10,some (.ref wd),v12] HH:=by
    intro nb' v9 v10 v12 wd HH l hpH hpw hwd hw0 hSH l1 l8 hlet
    refine pc hpH hpw hw7 l hwd l1 l8 hlet fun l' g8 g1 g2 => ?_
    have es:=lc l'
    have ej:=sR l'
    have eo : jOk "" (l'.map sg):=sS (by omega)
    have hH2 : up3 HH wd (.lst (l'.map sgT)) p = some (.lst (ws.map T.str)):=by rw [aj hpw]; exact hpH
    have hS2 : Sub3 H3 (up3 HH wd (.lst (l'.map sgT))):=aZ hw0 hSH
    simp only [cJ,di,tC3,a6,bC,eT,List.getElem?_cons_zero,List.getElem?_cons_succ,nq,gQ,ai,nA,es,b5,nw,ny,hH2,kL,nz,kM,ej,List.length_map]
    refine ⟨⟨trivial,trivial⟩,trivial,eo,by omega,?_⟩
    refine hN _ _ ⟨ws ++ [mkS l'],_,_,_,_,_,_,rfl,by simp only [List.length_append,List.length_singleton]; omega,hn.snoc g1 g2,?_,aZ hp hS2,fun t ht => hri t (List.mem_cons_of_mem _ ht)⟩
    rw [ai,List.map_append]; rfl
   cases alike with
   | true =>
    walk_at "rd"
    refine ⟨by omega,fun wd hwd => ?_⟩
    have hpw : p ≠ wd:=a5 hH hwd
    have hw0 : H3 wd = none:=by cases e : H3 wd with
     | none => rfl
     | some o => rw [hS wd o e] at hwd; cases hwd
    refine ⟨True.intro,by omega,by omega,pb z1 z8 ai fun l own' x12' hl2 hlet => ?_⟩
    obtain ⟨cc,hcc,ec⟩:=iR l at0' a0 (by omega)
    have e1 : atI (l.map sgT) at0' = some (T.str ⟨#[cc]⟩):=by rw [eU,ec]; rfl
    obtain ⟨ja,rfl⟩:=Int.eq_ofNat_of_zero_le a0
    have e2 : ixN l.length (ja : Int) = some ja:=gR (by omega)
    obtain ⟨c0,c1⟩:=hlet cc hcc
    have hix:=oP cc c0 c1
    have ha:=jY ((((cc - 97 : Nat) : Int) + kk) % 26) (Int.emod_nonneg _ (by decide)) (Int.emod_lt_of_pos _ (by decide))
    have hb:=Int.emod_lt_of_pos ((((cc - 97 : Nat) : Int) + kk)) (show (0 : Int) < 26 by decide)
    have hH2 : up3 H' wd (.lst ((l.set ja (97 + ((((cc - 97 : Nat) : Int) + kk) % 26).toNat)).map sgT)) p = some (.lst (ws.map T.str)):=by rw [aj hpw]; exact hH
    have fin':=fin nb (some (.int own')) (some (.int size)) x12' wd (up3 H' wd (.lst ((l.set ja (97 + ((((cc - 97 : Nat) : Int) + kk) % 26).toNat)).map sgT))) _ hH2 hpw ai hw0 (aZ hw0 hS) (by rw [List.length_set]; omega) (by rw [List.length_set]; omega) (fun y hy => by
     rcases List.mem_or_eq_of_mem_set hy with hy | rfl
     ·
      exact hlet y hy
     ·
      omega)
    clear fin hN hri k
    walk_at "rd"
    rw [show (⟨#[cc]⟩ : Str) = mkS [cc] from rfl]
    simp only [hix]
    walk_at "rd"
    simp only [cb,ha,b5]
    walk_at "rd"
    refine ⟨True.intro,by decide,al,?_⟩
    rw [List.map_set] at fin'
    exact fin'
   | false =>
    walk_at "rd"
    refine ⟨by decide,⟨by decide,by decide +kernel⟩,by omega,fun wd hwd => ?_⟩
    have hpw : p ≠ wd:=a5 hH hwd
    have hw0 : H3 wd = none:=by cases e : H3 wd with
     | none => rfl
     | some o => rw [hS wd o e] at hwd; cases hwd
    refine ⟨True.intro,by omega,by omega,pb (by omega) (by omega) ai fun l own' x12' hl2 hlet => ?_⟩
    have hH2 : up3 H' wd (.lst (l.map sgT)) p = some (.lst (ws.map T.str)):=by rw [aj hpw]; exact hH
    have fin':=fin own' (some (.int own')) (some (.int (1 + nb % 8))) x12' wd (up3 H' wd (.lst (l.map sgT))) l hH2 hpw ai hw0 (aZ hw0 hS) (by omega) (by omega) hlet
    clear fin hN hri k
    walk_at "rd"
    try exact fin'
structure Box (p : Prop) : Prop where
 out : p
def za : Sp3:=fun ts H Q => ∃ (c a b : Addr) (ws pool : List Str) (free : Bool),ts = [.ref c,.ref a,.ref b,.bl free] /\ Cl H c /\ a ≠ c /\ b ≠ c /\ H a = some (.lst (ws.map T.str)) /\ H b = some (.lst (pool.map T.str)) /\ Nms ws /\ Nms pool /\ 1 <= pool.length /\ pool.length <= 8 /\ ws.length <= 8 /\
 ∀ (tk : List (Str × Int × List Str)) (H' : Hp3),tk.map (·.1) = ws -> (∀ t ∈ tk,tkOk t) -> Drw c H H' -> Q (.tup (tk.map tkT)) H'
theorem pj {j : Int} (h0 : 0 < j) (h : j < 2 ^ 64) : de i j:=⟨h0,Nat.lt_trans ((Nat.log2_lt (by omega)).mpr (show j.natAbs < 2 ^ 64 by omega)) (by decide)⟩
theorem pw {D : Ends3} {x0 x1 x3 x4 x5 x6 x8 x10 x11 : Option T} {cell : Int} {b kd : Addr} {pool : List Str} {ts0 : List T} {H : Hp3} (hb : H b = some (.lst (pool.map T.str))) (nbk : b ≠ kd) (hp : Nms pool) (p1 : 1 <= pool.length) (p8 : pool.length <= 8) (hk : H kd = some (.lst [])) (h4 : ts0.length <= 4) (hts : ∀ t ∈ ts0,∃ j : Int,t = .int j /\ 0 <= j /\ j < 4)
  (hn : ∀ (ks : List Str) (x10 x11 : Option T),ks.length <= 4 -> Nms ks -> D.nx [x0,x1,some (.ref b),x3,x4,x5,x6,some (.int cell),x8,some (.ref kd),x10,x11] (up3 H kd (.lst (ks.map T.str)))) :
  iter3 (cf 10) (eK (dO (bJ fu (aJ 2) (bJ (rI3 (fun x j => 0 < j) fun i j => T.int (i % j)) (bJ (rI3 de fun i j => T.int (i / j)) (aJ 7) (bJ (rI3 jp fun i j => T.int (i * 2 ^ j.toNat)) (tC3 (T.int 324)) (bJ (rI3 CMul fun i j => T.int (i * j)) (tC3 (T.int 2)) (aJ 10)))) (jD iM (a6 (aJ 2) bC)))) (cf 11)) (mP (cD (bJ (iJ true) (aJ 11) (aJ 9))) (cJ (di "list" fU (aJ 9) (a6 (aJ 11) bC))) jA)) D bg ts0 [x0,x1,some (.ref b),x3,x4,x5,x6,some (.int cell),x8,some (.ref kd),x10,x11] H:=by
 have hsz : sizeLine = 16777216:=rfl
 refine bU (fun r σ H' => ∃ (ks : List Str) (v10 v11 : Option T),σ = [x0,x1,some (.ref b),x3,x4,x5,x6,some (.int cell),x8,some (.ref kd),v10,v11] /\ ks.length + r.length <= 4 /\ Nms ks /\ H' = up3 H kd (.lst (ks.map T.str)) /\ ∀ t ∈ r,∃ j : Int,t = .int j /\ 0 <= j /\ j < 4)
  ⟨[],x10,x11,rfl,by simpa using h4,.nil,(j3 hk).symm,hts⟩ ?_ ?_
 ·
  rintro σ H' ⟨ks,v10,v11,rfl,hl,hks,rfl,_⟩
  exact ⟨trivial,hn ks v10 v11 (by simpa using hl) hks⟩
 ·
  rintro x r σ H' N ⟨ks,v10,v11,rfl,hl,hks,rfl,hr⟩ hN
  simp only [List.length_cons] at hl
  obtain ⟨j,rfl,j0,j4⟩:=hr _ List.mem_cons_self
  refine ⟨trivial,?_⟩
  have hpos : (0 : Int) < (pool.length : Int):=by omega
  have hm : 0 < (2 : Int) ^ (2 * j).toNat /\ (2 : Int) ^ (2 * j).toNat <= 64:=by
   have : j = 0 \/ j = 1 \/ j = 2 \/ j = 3:=by omega
   rcases this with rfl | rfl | rfl | rfl <;> decide
  have cd : de cell (324 * 2 ^ (2 * j).toNat):=pj (i:=cell) (by omega) (by omega)
  obtain ⟨z,hz,ez⟩:=iR pool (cell / (324 * 2 ^ (2 * j).toNat) % (pool.length : Int)) (Int.emod_nonneg _ (by omega)) (Int.emod_lt_of_pos _ hpos)
  have ez' : atI (pool.map T.str) (cell / (324 * 2 ^ (2 * j).toNat) % (pool.length : Int)) = some (.str z):=by rw [eU,ez]; rfl
  have cp : jp 324 (2 * j):=⟨by omega,by omega,by decide⟩
  have cm : CMul 2 j:=.inl ⟨by decide,by decide⟩
  have i1:=oM z
  have i2:=bV ks
  have nx1 : z ∉ ks -> ∀ v10 v11,N [x0,x1,some (.ref b),x3,x4,x5,x6,some (.int cell),x8,some (.ref kd),v10,v11] (up3 H kd (.lst (ks.map T.str ++ [T.str z]))):=fun hzk v10 v11 => hN _ _ ⟨ks ++ [z],_,_,rfl,by simp only [List.length_append,List.length_singleton]; omega,hks.snoc (hp.nm z hz) hzk,by simp,fun t ht => hr t (List.mem_cons_of_mem _ ht)⟩
  have nx2 : ∀ v10 v11,N [x0,x1,some (.ref b),x3,x4,x5,x6,some (.int cell),x8,some (.ref kd),v10,v11] (up3 H kd (.lst (ks.map T.str))):=fun v10 v11 => hN _ _ ⟨ks,_,_,rfl,by omega,hks,rfl,fun t ht => hr t (List.mem_cons_of_mem _ ht)⟩
  clear hN hn hr hts ez hk
  walk_at "rd"
  refine ⟨by first | trivial | exact cm,by first | trivial | exact cp,by first | trivial | exact cd,by first | trivial | exact hpos,?_⟩
  try simp only [true_and]
  split
  ·
   rename_i hin
   have hin':=(yX cH).mp hin
   first | exact ⟨by omega,nx1 hin' _ _⟩ | exact ⟨⟨trivial,trivial⟩,by omega,nx1 hin' _ _⟩
  ·
   first | trivial | exact nx2 _ _
abbrev li : List Str:=["_law_cells","_law_names_here","_law_pool","_law_free","_law_base","_law_tasks_here","_law_name","_law_cell","_law_length","_law_kinds","_law_k","_law_kind"]
theorem sc_tasks : FnScope li ["_law_cells","_law_names_here","_law_pool","_law_free"] (ah (top 33)):=aR
theorem pA {f : Addr} {fd : FuncData} (g : G3 K mg "_law_tasks" (top 33) ["_law_cells","_law_names_here","_law_pool","_law_free"] f fd) (B : Bl mg) (F_next : Cal P w K mg base 2 "_law_next" (top 31) ["_law_cells"] rG) : Cal P w K mg base 3 "_law_tasks" (top 33) ["_law_cells","_law_names_here","_law_pool","_law_free"] za:=by
 refine ⟨f,fd,g,?_⟩
 refine fn3 g.fn sc_tasks (fun ts H Q h => ?_) (fun cdv A outer s H E ts H3 Q hr h => ?_)
 ·
  obtain ⟨c,a,b,ws,pool,free,rfl,_⟩:=h; rfl
 ·
  have hu30:=Room.u30 hr
  have hu31:=Room.u31 hr
  have hu1:=Room.u1 hr
  obtain ⟨c,a,b,ws,pool,free,rfl,D,nac,nbc,ha,hb,hws,hpool,p1,p8,w8,k⟩:=h
  refine ⟨_,(ae (ak (i:=4) sc_tasks.nd (am aA (aD F_next hr rfl (aa (v3 0) ac)) (am gI af af)))
    (ae (a8 (aU (bG hu30) (am aA (v3 4) af) af) (ag (ak (i:=4) sc_tasks.nd (am aA (am aH (v3 4) af) af))) aG)
    (ae (ak (i:=5) sc_tasks.nd (bb ac))
    (ae (aP PassesOwn.never rfl (bo (v3 1)) (ao (i:=6) sc_tasks.nd) (ae (ak (i:=7) sc_tasks.nd (aD F_next hr rfl (aa (v3 0) ac)))
     (ae (ak (i:=8) sc_tasks.nd (am aY (am aY (am cE (v3 4) (am aY af (am aA (v3 7) af))) af) (am aA (am aH (v3 7) af) af)))
     (ae (a8 (bj (v3 3)) (ae (ak (i:=8) sc_tasks.nd (am aY af (am aA (v3 7) (am uo (am gI af af) af))))
      (ag (ak (i:=7) sc_tasks.nd (aD F_next hr rfl (aa (v3 0) ac))))) aG)
     (ae (ak (i:=9) sc_tasks.nd (bb ac))
     (ae (aP PassesOwn.never rfl (bK rfl B.range_ (aa (aw ix3 (bb (aa (am cE (am aH (am aA (am aH (v3 7) af) af) af) (am aA (am aH (v3 7) af) af)) (aa (am aA (am aH (v3 7) af) af) ac))) (aI d6 rfl B.int_ gP (aa (v3 3) ac))) ac)) (ao (i:=10) sc_tasks.nd) (ae (ak (i:=11) sc_tasks.nd (aw ix3 (v3 2) (am aA (am aH (v3 7) (am nJ af (am cE af (v3 10)))) (aB ci rfl B.len_ bX (aa (v3 2) ac)))))
      (ag (a8 (aU (eQ hu31) (v3 11) (v3 9) rfl) (ag (ba (br PySem.F.plainAttrs_list PySem.F.slot_list_append PySem.F.type_list_append aX (v3 9) (aa (v3 11) ac)))) aG))))
     (ag (ba (br PySem.F.plainAttrs_list PySem.F.slot_list_append PySem.F.type_list_append aX (v3 5) (aa (aL (aa (v3 6) (aa (v3 8) (aa (aI bD rfl B.tuple_ bE (aa (v3 9) ac)) ac)))) ac))))))))))
    (ag (aF (aI bD rfl B.tuple_ bE (aa (v3 5) ac)))))))),?_⟩
  rw [show ay li [T.ref c,T.ref a,T.ref b,T.bl free] = [some (T.ref c),some (T.ref a),some (T.ref b),some (T.bl free),none,none,none,none,none,none,none,none] from rfl]
  have hsz : sizeLine = 16777216:=rfl
  refine au fun R0 hR0 => ?_
  walk_at "rd"
  refine ⟨c,rfl,D,fun n1 H1 hD1 => ?_⟩
  walk_at "rd"
  refine ⟨⟨by decide,by decide,by decide⟩,?_⟩
  have big : (10 : Int) ^ Int.toNat 59 = 10 ^ 59:=rfl
  rw [big]
  clear big
  refine ⟨by decide +kernel,?_⟩
  have h1a : H1 a = some (.lst (ws.map T.str)):=by rw [hD1.off a nac]; exact ha
  have h1b : H1 b = some (.lst (pool.map T.str)):=by rw [hD1.off b nbc]; exact hb
  have b0 : 0 <= n1 % 10 ^ 59:=Int.emod_nonneg _ (by decide +kernel)
  have b1 : n1 % 10 ^ 59 < 10 ^ 59:=Int.emod_lt_of_pos _ (by decide +kernel)
  generalize n1 % 10 ^ 59 = base0 at b0 b1
  walk_at "nx"
  refine au fun R1 hR1 => ?_
  have key : ∀ base : Int,0 <= base -> base < 10 ^ 59 -> R1 { nx:=fun x H' => Fin3 Q T.non H',rt:=Fin3 Q } [some (.ref c),some (.ref a),some (.ref b),some (.bl free),some (.int base),none,none,none,none,none,none,none] H1:=by
   clear b0 b1 base0
   intro base b0 b1
   walk_at "nx"
   walk_at "rd"
   refine ⟨by omega,fun p hp => ?_⟩
   have nap : a ≠ p:=a5 h1a hp
   have nbp : b ≠ p:=a5 h1b hp
   have npc : p ≠ c:=hD1.cl.ne hp
   have hp0 : H3 p = none:=by rw [<- hD1.off p npc]; exact hp
   rw [aj nap,h1a,iQ]
   refine bU (fun r σ H' => ∃ (A B : List Str) (tk : List (Str × Int × List Str)) (v6 v7 v8 v9 v10 v11 : Option T),ws = A ++ B /\ r = B.map T.str /\ σ = [some (.ref c),some (.ref a),some (.ref b),some (.bl free),some (.int base),some (.ref p),v6,v7,v8,v9,v10,v11] /\ tk.map (·.1) = A /\ (∀ t ∈ tk,tkOk t) /\ H' p = some (.lst (tk.map tkT)) /\ Cl H' c /\ H' a = some (.lst (ws.map T.str)) /\ H' b = some (.lst (pool.map T.str)) /\ Kep c H3 H')
    ⟨[],ws,[],none,none,none,none,none,none,rfl,rfl,rfl,rfl,(fun _ h => nomatch h),ai,hD1.cl.new npc,by rw [aj nap]; exact h1a,by rw [aj nbp]; exact h1b,(Kep.refl.drw hD1).new hp⟩ ?_ ?_
   ·
    rintro σ H' ⟨A,B,tk,v6,v7,v8,v9,v10,v11,e1,e2,rfl,htA,htk,hH,hC,hHa,hHb,hK⟩
    have hB : B = []:=List.map_eq_nil_iff.mp e2.symm
    subst hB
    rw [List.append_nil] at e1
    refine ⟨.inl hHa,?_⟩
    clear hHa hHb e2
    walk_at "rd"
    exact ee hC hK fun H'' hD => k tk H'' (htA.trans e1.symm) htk hD
   ·
    rintro x r σ H' N ⟨A,B,tk,v6,v7,v8,v9,v10,v11,e1,e2,rfl,htA,htk,hH,hC,hHa,hHb,hK⟩ hN
    cases B with
    | nil => cases e2
    | cons y B =>
     rw [List.map_cons,List.cons.injEq] at e2
     obtain ⟨rfl,rfl⟩:=e2
     have hlA : tk.length + 1 <= 8:=by
      have h1:=congrArg List.length e1
      have h2:=congrArg List.length htA
      simp only [List.length_append,List.length_cons,List.length_map] at h1 h2
      omega
     have hyn : isNm y:=hws.nm y (by rw [e1]; simp)
     -- behind the kinds
     have fin : ∀ (len cell : Int) (ks : List Str) (v10 v11 : Option T) (kd : Addr) (HH : Hp3),1 <= len -> len < 10 ^ 60 -> ks.length <= 4 -> Nms ks -> p ≠ kd -> HH p = some (.lst (tk.map tkT)) -> HH kd = some (.lst (ks.map T.str)) -> Cl HH c -> HH a = some (.lst (ws.map T.str)) -> HH b = some (.lst (pool.map T.str)) -> Kep c H3 HH ->
       cJ (di "list" fU (aJ 5) (a6 (kC (a6 (aJ 6) (a6 (aJ 8) (a6 (jD dh (a6 (aJ 9) bC)) bC)))) bC)) { nx:=N,rt:=Fin3 Q,bk:=iG (jD dh (a6 (aJ 5) bC)) { nx:=fun x H' => Fin3 Q T.non H',rt:=Fin3 Q },ct:=N }
        [some (.ref c),some (.ref a),some (.ref b),some (.bl free),some (.int base),some (.ref p),some (.str y),some (.int cell),some (.int len),some (.ref kd),v10,v11] HH:=by
      intro len cell ks v10 v11 kd HH l1 l2 k4 hks npk g1 g2 g3 g4 g5 g6
      have nx : N [some (.ref c),some (.ref a),some (.ref b),some (.bl free),some (.int base),some (.ref p),some (.str y),some (.int cell),some (.int len),some (.ref kd),v10,v11] (up3 HH p (.lst (tk.map tkT ++ [tkT (y,len,ks)]))):=hN _ _ ⟨A ++ [y],B,tk ++ [(y,len,ks)],_,_,_,_,_,_,by rw [e1]; simp,rfl,rfl,by rw [List.map_append,htA]; rfl,fun t ht => by
       rcases List.mem_append.mp ht with ht | ht
       ·
        exact htk t ht
       ·
        rw [List.mem_singleton.mp ht]; exact ⟨hyn,l1,l2,hks,k4⟩,by rw [ai,List.map_append]; rfl,g3.new npc,by rw [aj nap]; exact g4,by rw [aj nbp]; exact g5,fun b o hb h1 => by
       rw [aj (fun e => by rw [e,hp0] at hb; cases hb)]; exact g6 b o hb h1⟩
      simp only [cJ,di,a6,bC,kC,jD,eT,List.getElem?_cons_zero,List.getElem?_cons_succ,nq,jG,g2,kK,ny,g1,kL,nz,kM,List.length_map]
      exact ⟨⟨trivial,trivial⟩,by show 3 <= sizeLine; decide,by omega,nx⟩
     refine ⟨.inl hHa,?_⟩
     simp only [eK,dO,eM,a6,bC,eT,List.getElem?_cons_zero,List.getElem?_cons_succ,nq,cf,List.set_cons_zero,List.set_cons_succ]
     refine ⟨c,rfl,hC,fun n2 H2 hD2 => ?_⟩
     have hK2:=hK.drw hD2
     have h2p : H2 p = some (.lst (tk.map tkT)):=by rw [hD2.off p npc]; exact hH
     have h2a : H2 a = some (.lst (ws.map T.str)):=by rw [hD2.off a nac]; exact hHa
     have h2b : H2 b = some (.lst (pool.map T.str)):=by rw [hD2.off b nbc]; exact hHb
     replace fin:=Box.mk fin
     replace hN:=Box.mk hN
     clear e1 htA htk hH hHa hHb hK hC k
     have l0 : 0 <= base * (1 + n2 % 9):=Int.mul_nonneg b0 (by omega)
     have l1 : base * (1 + n2 % 9) <= base * 9:=Int.mul_le_mul_of_nonneg_left (by omega) b0
     have t59 : (10 : Int) ^ 60 = 10 * 10 ^ 59:=by decide +kernel
     cases free with
     | true =>
      dsimp only
      walk_at "rd"
      refine ⟨by decide,.inr ⟨by omega,by omega⟩,⟨by decide,by decide +kernel⟩,by decide,⟨by decide,by decide,by decide⟩,by decide +kernel,c,rfl,hD2.cl,fun n3 H4 hD3 => ?_⟩
      have hK4:=hK2.drw hD3
      have D4:=hD3.cl
      have h4p : H4 p = some (.lst (tk.map tkT)):=by rw [hD3.off p npc]; exact h2p
      have h4a : H4 a = some (.lst (ws.map T.str)):=by rw [hD3.off a nac]; exact h2a
      have h4b : H4 b = some (.lst (pool.map T.str)):=by rw [hD3.off b nbc]; exact h2b
      clear h2p h2a h2b hD2 hD3
      dsimp only
      refine ⟨by omega,fun kd hkd => ?_⟩
      have npk : p ≠ kd:=a5 h4p hkd
      have nak : a ≠ kd:=a5 h4a hkd
      have nbk : b ≠ kd:=a5 h4b hkd
      have nkc : kd ≠ c:=D4.ne hkd
      have m0 : 0 <= n2 % (10 ^ 60 - 1):=Int.emod_nonneg _ (by decide +kernel)
      have m1 : n2 % (10 ^ 60 - 1) < 10 ^ 60 - 1:=Int.emod_lt_of_pos _ (by decide +kernel)
      walk_at "rd"
      refine ⟨⟨by decide,by decide +kernel⟩,by decide,⟨by decide,by decide +kernel⟩,⟨by decide,by decide +kernel⟩,by decide,.inl ⟨by omega,by omega⟩,⟨by decide,by decide +kernel⟩,by decide,by omega,fun q hq => ?_⟩
      obtain ⟨nqk,hq0⟩:=ap hq
      have nkq : kd ≠ q:=Ne.symm nqk
      have npq : p ≠ q:=a5 h4p hq0
      have naq : a ≠ q:=a5 h4a hq0
      have nbq : b ≠ q:=a5 h4b hq0
      have nqc : q ≠ c:=D4.ne hq0
      have kd0 : H3 kd = none:=by
       cases e : H3 kd with
       | none => rfl
       | some o => rw [hK4 kd o e nkc] at hkd; cases hkd
      try simp only [at0,at1,b5,fV]
      try refine ⟨True.intro,?_⟩
      try rw [fV]
      refine ⟨by omega,by omega,pw (by rw [aj nbq,aj nbk]; exact h4b) nbk hpool p1 p8 (by rw [aj nkq,ai]) (by simp only [bu,List.length_map,List.length_range]; omega) (fun t ht => ?_) fun ks x10 x11 k4 hks => ?_⟩
      ·
       unfold bu at ht
       obtain ⟨i,hi,rfl⟩:=List.mem_map.mp ht
       rw [List.mem_range] at hi
       exact ⟨_,rfl,by omega,by omega⟩
      ·
       refine fin.out _ _ ks x10 x11 kd _ (show 1 <= 1 + n2 % (10 ^ 60 - 1) by omega) (show 1 + n2 % (10 ^ 60 - 1) < 10 ^ 60 by omega) k4 hks npk ?_ ai ?_ ?_ ?_ ((((hK4.new hkd).new hq).at kd0))
       ·
        rw [aj npk,aj npq,aj npk]; exact h4p
       ·
        exact ((D4.new nkc).new nqc).new nkc
       ·
        rw [aj nak,aj naq,aj nak]; exact h4a
       ·
        rw [aj nbk,aj nbq,aj nbk]; exact h4b
     | false =>
      dsimp only
      walk_at "rd"
      refine ⟨by decide,.inr ⟨by omega,by omega⟩,⟨by decide,by decide +kernel⟩,by decide,by omega,fun kd hkd => ?_⟩
      have hK4:=hK2
      have D4:=hD2.cl
      have h4p:=h2p
      have h4a:=h2a
      have h4b:=h2b
      clear h2p h2a h2b
      have npk : p ≠ kd:=a5 h4p hkd
      have nak : a ≠ kd:=a5 h4a hkd
      have nbk : b ≠ kd:=a5 h4b hkd
      have nkc : kd ≠ c:=D4.ne hkd
      walk_at "rd"
      refine ⟨⟨by decide,by decide +kernel⟩,by decide,⟨by decide,by decide +kernel⟩,⟨by decide,by decide +kernel⟩,by decide,.inl ⟨by omega,by omega⟩,⟨by decide,by decide +kernel⟩,by decide,by omega,fun q hq => ?_⟩
      obtain ⟨nqk,hq0⟩:=ap hq
      have nkq : kd ≠ q:=Ne.symm nqk
      have npq : p ≠ q:=a5 h4p hq0
      have naq : a ≠ q:=a5 h4a hq0
      have nbq : b ≠ q:=a5 h4b hq0
      have nqc : q ≠ c:=D4.ne hq0
      have kd0 : H3 kd = none:=by
       cases e : H3 kd with
       | none => rfl
       | some o => rw [hK4 kd o e nkc] at hkd; cases hkd
      have pr : n2 / 27 % 3 / 2 = 0 \/ n2 / 27 % 3 / 2 = 1:=by omega
      have pr2 : 0 <= n2 / 27 % 3 / 2 * (n2 / 81 % 4) /\ n2 / 27 % 3 / 2 * (n2 / 81 % 4) < 4:=by rcases pr with e | e <;> rw [e] <;> omega
      generalize n2 / 27 % 3 / 2 * (n2 / 81 % 4) = cnt at pr2 ⊢
      try simp only [at0,at1,b5,fV]
      try refine ⟨True.intro,?_⟩
      try rw [fV]
      refine ⟨by omega,by omega,pw (by rw [aj nbq,aj nbk]; exact h4b) nbk hpool p1 p8 (by rw [aj nkq,ai]) (by simp only [bu,List.length_map,List.length_range]; omega) (fun t ht => ?_) fun ks x10 x11 k4 hks => ?_⟩
      ·
       unfold bu at ht
       obtain ⟨i,hi,rfl⟩:=List.mem_map.mp ht
       rw [List.mem_range] at hi
       exact ⟨_,rfl,by omega,by omega⟩
      ·
       refine fin.out _ _ ks x10 x11 kd _ (by omega) (by omega) k4 hks npk ?_ ai ?_ ?_ ?_ ((((hK4.new hkd).new hq).at kd0))
       ·
        rw [aj npk,aj npq,aj npk]; exact h4p
       ·
        exact ((D4.new nkc).new nqc).new nkc
       ·
        rw [aj nak,aj naq,aj nak]; exact h4a
       ·
        rw [aj nbk,aj nbq,aj nbk]; exact h4b
  have key':=Box.mk key
  clear key k hR1
  walk_at "rd"
  refine ⟨by decide,?_⟩
  split
  ·
   refine ⟨⟨by decide,by decide +kernel⟩,by decide,?_⟩
   exact key'.out _ (Int.emod_nonneg _ (by decide)) (Int.lt_trans (Int.emod_lt_of_pos _ (by decide)) (by decide +kernel))
  ·
   exact key'.out _ b0 b1
end
end M
namespace L3
open L2
theorem z9 (n : Nat) : bu 0 n = (List.range n).map fun (i : Nat) => T.int (i : Int):=by
 unfold bu
 refine List.map_congr_left fun i _ => ?_
 rw [Int.zero_add]
end L3
namespace M
open L2 L3
local macro_rules | `(tactic| walk_at "cp") => `(tactic| try dsimp only [iI,List.replicate,List.map_cons,List.map_nil,List.cons_append,List.nil_append,List.getElem?_cons_zero,List.getElem?_cons_succ,Option.getD_some])
local macro_rules | `(tactic| walk_at "nx") => `(tactic| (obtain ⟨e⟩:=‹Shut (_ = _)›; subst e; try dsimp only))
local macro_rules | `(tactic| walk_at "rd") => do
 let ls <- ((nm0.splitOn " ").toArray.map String.toName).filterM fun n => do return !(<- Lean.Macro.resolveGlobalName n).isEmpty
 let ls <- ls.mapM fun n => let i:=Lean.mkIdent n; `(Lean.Parser.Tactic.simpLemma| $i:ident)
 `(tactic| ((try dsimp only [$[$ls:simpLemma],*]); try simp only [*,$[$ls:simpLemma],*]))
section
variable {d c R lf l0 l1 l2 fd th q : Addr} {rows : List T} {ts : List (Str × Int × List Str)} {os : List (Str × Str)} {ps : List (Str × Str × Str)} {L : List Rw} {H H' : Hp3} {o : O3}
end
section
variable {W : Wk} {ts : List (Str × Int × List Str)} {os : List (Str × Str)} {ps : List (Str × Str × Str)} {L : List Rw}
end
section
variable {P : Program} {w : World} {K : PySem.W.Frag} {mg : Str -> Option Value} {base : Heap}
def zb : Sp3:=fun ts H Q => ∃ (c : Addr) (most wi : Int),ts = [.ref c,.int most,.int wi] /\ 1 <= most /\ most <= 8 /\ Cl H c /\ ∀ (W : Wk) (H' : Hp3),WkOk W -> (W.tasks.length : Int) <= most -> (∀ o ∈ W.orders,(o.2,o.1) ∉ W.orders) -> Drw c H H' -> Q W.enc H'
structure Wt (c : Addr) (H0 H : Hp3) (fs : List (Addr × O3)) : Prop where
 cl : Cl H c
 kp : Kep c H0 H
 at' : ∀ p ∈ fs,H p.1 = some p.2 /\ p.1 ≠ c
theorem Wt.drw {c : Addr} {H0 H H' : Hp3} {fs : List (Addr × O3)} (w : Wt c H0 H fs) (d : Drw c H H') : Wt c H0 H' fs:=⟨d.cl,w.kp.drw d,fun p hp => ⟨by rw [d.off _ (w.at' p hp).2]; exact (w.at' p hp).1,(w.at' p hp).2⟩⟩
theorem Wt.new {c p : Addr} {H0 H : Hp3} {fs : List (Addr × O3)} {o : O3} (w : Wt c H0 H fs) (hp : H p = none) : Wt c H0 (up3 H p o) ((p,o) :: fs):=⟨w.cl.new (w.cl.ne hp),w.kp.new hp,fun q hq => by
 rcases List.mem_cons.mp hq with rfl | hq
 ·
  exact ⟨ai,w.cl.ne hp⟩
 ·
  exact ⟨by rw [aj (a5 (w.at' q hq).1 hp)]; exact (w.at' q hq).1,(w.at' q hq).2⟩⟩
theorem Nms.take {ws : List Str} (h : Nms ws) (n : Nat) : Nms (ws.take n):=⟨fun x hx => h.nm x (List.mem_of_mem_take hx),h.nd.sublist (List.take_sublist n ws)⟩
theorem mem_getD {α : Type} (xs : List α) (d : α) {i : Nat} (h : i < xs.length) : xs.getD i d ∈ xs:=by
 rw [List.getD_eq_getElem?_getD,List.getElem?_eq_getElem h]
 exact List.getElem_mem h
abbrev ii : List Str:=["_law_cells","_law_most","_law_withs","_law_head","_law_many","_law_free","_law_names_here","_law_pool","_law_tasks_here","_law_orders_here","_law_pairs_here","_law_cell","_law_row"]
theorem sc_works : FnScope ii ["_law_cells","_law_most","_law_withs"] (ah (top 37)):=aR
theorem pB {f : Addr} {fd : FuncData} (g : G3 K mg "_law_works" (top 37) ["_law_cells","_law_most","_law_withs"] f fd) (B : Bl mg) (F_turn : Cal P w K mg base 1 "_law_turn" (top 34) ["_law_cell","_law_names_here"] y6) (F_next : Cal P w K mg base 2 "_law_next" (top 31) ["_law_cells"] rG) (F_pairs : Cal P w K mg base 1 "_law_pairs" (top 36) ["_law_cell","_law_names_here","_law_many","_law_withs"] y8) (F_orders : Cal P w K mg base 1 "_law_orders" (top 35) ["_law_cell","_law_turn_here","_law_often"] y7) (F_tasks : Cal P w K mg base 3 "_law_tasks" (top 33) ["_law_cells","_law_names_here","_law_pool","_law_free"] za) (F_names : Cal P w K mg base 1 "_law_names" (top 29) ["_law_cell","_law_many"] y9) : Cal P w K mg base 4 "_law_works" (top 37) ["_law_cells","_law_most","_law_withs"] zb:=by
 refine ⟨f,fd,g,?_⟩
 refine fn3 g.fn sc_works (fun ts H Q h => ?_) (fun cdv A outer s H E ts H3 Q hr h => ?_)
 ·
  obtain ⟨c,most,wi,rfl,_⟩:=h; rfl
 ·
  have hu30:=Room.u30 hr
  have hu31:=Room.u31 hr
  have hu1:=Room.u1 hr
  obtain ⟨c,most,wi,rfl,o1,o8,D,k⟩:=h
  refine ⟨_,(ae (ak (i:=3) sc_works.nd (aD F_next hr rfl (aa (v3 0) ac)))
    (ae (ak (i:=4) sc_works.nd (am aY af (am aA (v3 3) (v3 1))))
    (ae (ak (i:=5) sc_works.nd (bQ (bG hu30) (am aA (am aH (v3 3) af) af) af))
    (ae (ak (i:=6) sc_works.nd (aD F_names hr rfl (aa (aD F_next hr rfl (aa (v3 0) ac)) (aa (v3 4) ac))))
    (ae (ak (i:=7) sc_works.nd (cw (aD F_names hr rfl (aa (aD F_next hr rfl (aa (v3 0) ac)) (aa af ac))) cr (cu (am aY af (am aA (am aH (v3 3) af) af)))))
    (ae (ak (i:=8) sc_works.nd (aD F_tasks hr rfl (aa (v3 0) (aa (v3 6) (aa (v3 7) (aa (v3 5) ac))))))
    (ae (ak (i:=9) sc_works.nd (aD F_orders hr rfl (aa (aD F_next hr rfl (aa (v3 0) ac)) (aa (aD F_turn hr rfl (aa (aD F_next hr rfl (aa (v3 0) ac)) (aa (v3 6) ac))) (aa (am aY af (am aA (am aH (v3 3) af) af)) ac)))))
    (ae (ak (i:=10) sc_works.nd (aD F_pairs hr rfl (aa (aD F_next hr rfl (aa (v3 0) ac)) (aa (v3 6) (aa (am aA (am aH (v3 3) af) (aw ix3 (bb (aa af (aa af ac))) (aI d6 rfl B.int_ gP (aa (v3 5) ac)))) (aa (v3 2) ac))))))
    (ae (ak (i:=11) sc_works.nd (aD F_next hr rfl (aa (v3 0) ac)))
    (ae (d5 (i:=12) rfl sc_works.nd (bS (n0:=(ah (top 37)).names) (N:=ii) (N':=["_law_k","_law_pool","_law_cell"]) (nt:=1) (cap:=[7,11]) rfl rfl (by decide +kernel)) (bK rfl B.range_ (aa (am aY af (am aA (v3 11) (aw ix3 (bb (aa af (aa af ac))) (aI d6 rfl B.int_ gP (aa (v3 5) ac))))) ac)) (fun cl pins s H C0 fp => ⟨(ao (i:=0) (show List.Nodup [("_law_k" : Str),("_law_pool" : Str),("_law_cell" : Str)] by decide +kernel)),b7,(aw ix3 (v3 1) (am aA (am aH (v3 2) (am nJ af (am cE af (v3 0)))) (aB ci rfl B.len_ bX (aa (v3 1) ac))))⟩))
    (ag (aF (aL (aa (v3 8) (aa (aI bD rfl B.tuple_ bE (aa (aD F_turn hr rfl (aa (aD F_next hr rfl (aa (v3 0) ac)) (aa (v3 9) ac))) ac)) (aa (v3 10) (aa (aI bD rfl B.tuple_ bE (aa (v3 12) ac)) ac))))))))))))))))),?_⟩
  rw [show ay ii [T.ref c,T.int most,T.int wi] = [some (T.ref c),some (T.int most),some (T.int wi),none,none,none,none,none,none,none,none,none,none] from rfl]
  have hsz : sizeLine = 16777216:=rfl
  refine au fun R1 hR1 => ?_
  walk_at "rd"
  refine ⟨c,rfl,D,fun hd H1 hD1 => ?_⟩
  have w1 : Wt c H3 H1 []:=⟨hD1.cl,Kep.refl.drw hD1,(fun _ h => nomatch h)⟩
  walk_at "nx"
  refine au fun R2 hR2 => ?_
  walk_at "rd"
  have h0m:=Int.emod_nonneg hd (show most ≠ 0 by omega)
  have h1m:=Int.emod_lt_of_pos hd (show 0 < most by omega)
  refine ⟨by omega,?_⟩
  walk_at "nx"
  refine au fun R3 hR3 => ?_
  walk_at "rd"
  refine ⟨⟨by decide,by decide +kernel⟩,by decide,?_⟩
  walk_at "nx"
  generalize decide (hd / 8 % 3 = 1) = free
  generalize hmany : 1 + hd % most = many
  have m1 : 1 <= many:=by omega
  have m8 : many <= most:=by omega
  clear hmany h0m h1m
  refine au fun R4 hR4 => ?_
  walk_at "rd"
  refine ⟨c,rfl,w1.cl,fun n2 H2 hD2 => ?_⟩
  have w2:=w1.drw hD2
  dsimp only
  refine ⟨n2,many,rfl,by omega,by omega,fun pn ws hpn hws hwl => ?_⟩
  have w3:=w2.new (o:=.lst (ws.map T.str)) hpn
  generalize up3 H2 pn (.lst (ws.map T.str)) = H4 at w3
  walk_at "nx"
  refine au fun R5 hR5 => ?_
  walk_at "rd"
  refine ⟨c,rfl,w3.cl,fun n3 H5 hD3 => ?_⟩
  have w4:=w3.drw hD3
  dsimp only
  refine ⟨n3,4,rfl,by decide,by decide,fun pq ws4 hpq hws4 hwl4 => ?_⟩
  have w5:=w4.new (o:=.lst (ws4.map T.str)) hpq
  generalize up3 H5 pq (.lst (ws4.map T.str)) = H6 at w5
  clear hD1 hD2 hD3 w1 w2 w3 w4 hpn hpq
  have f1:=(w5.at' (pq,.lst (ws4.map T.str)) (by simp)).1
  dsimp only at f1
  obtain ⟨j,hj⟩:=Int.eq_ofNat_of_zero_le (show 0 <= 2 + hd / 24 % 3 by omega)
  have hj2 : 2 <= j:=by omega
  have hj4 : j <= 4:=by omega
  have ec : b4 (ws4.map T.str) none (some (2 + hd / 24 % 3)) = (ws4.take j).map T.str:=by rw [hj,nB,List.map_take]
  clear hj
  walk_at "rd"
  refine ⟨⟨by decide,by decide +kernel⟩,by decide,fun pl hpl => ?_⟩
  have hpl4 : (ws4.take j).length = j:=by rw [List.length_take]; omega
  have hpN : Nms (ws4.take j):=hws4.take j
  generalize ws4.take j = pool at hpl4 hpN
  have hpl2 : 2 <= pool.length:=by omega
  have hpl5 : pool.length <= 4:=by omega
  clear hpl4
  have w6:=w5.new (o:=.lst (pool.map T.str)) hpl
  clear w5 f1 ec
  generalize up3 H6 pl (.lst (pool.map T.str)) = H7 at w6
  have g1:=w6.at' (pn,.lst (ws.map T.str)) (by simp)
  have g2:=w6.at' (pl,.lst (pool.map T.str)) (by simp)
  walk_at "nx"
  refine au fun R6 hR6 => ?_
  walk_at "rd"
  refine ⟨c,pn,pl,ws,pool,free,rfl,w6.cl,g1.2,g2.2,g1.1,g2.1,hws,hpN,by omega,by omega,by omega,fun tk H8 htk hok hD4 => ?_⟩
  have w7:=w6.drw hD4
  clear w6 hD4 g1 g2
  dsimp only
  walk_at "nx"
  refine au fun R7 hR7 => ?_
  walk_at "rd"
  refine ⟨c,rfl,w7.cl,fun n5 H9 hD5 => ?_⟩
  have w8:=w7.drw hD5
  dsimp only
  refine ⟨c,rfl,w8.cl,fun n6 H10 hD6 => ?_⟩
  have w9:=w8.drw hD6
  clear w7 w8 hD5 hD6
  dsimp only
  refine ⟨Str,T.str,n6,pn,ws,rfl,(w9.at' (pn,.lst (ws.map T.str)) (by simp)).1,by omega,fun pt wt hpt hper => ?_⟩
  have w10:=w9.new (o:=.lst (wt.map T.str)) hpt
  clear w9
  generalize up3 H10 pt (.lst (wt.map T.str)) = H11 at w10
  walk_at "rd"
  refine ⟨⟨by decide,by decide +kernel⟩,by decide,?_⟩
  refine ⟨n5,pt,_,wt,rfl,(w10.at' (pt,.lst (wt.map T.str)) (by simp)).1,hper.nodup_iff.mpr hws.nd,by rw [hper.length_eq]; omega,by omega,by omega,fun po os hpo ho28 hond hoo hasy => ?_⟩
  have w11:=w10.new (o:=.lst (os.map orT)) hpo
  clear w10
  generalize up3 H11 po (.lst (os.map orT)) = H12 at w11
  dsimp only
  walk_at "nx"
  refine au fun R8 hR8 => ?_
  walk_at "rd"
  refine ⟨c,rfl,w11.cl,fun n7 H13 hD7 => ?_⟩
  have w12:=w11.drw hD7
  clear w11 hD7
  walk_at "rd"
  refine ⟨⟨by decide,by decide +kernel⟩,by omega,fun p6 hp6 => ?_⟩
  obtain ⟨u,eu,u0,u13⟩ : ∃ u : Int,atI [T.int 6,T.int 13] (if free = true then 1 else 0) = some (T.int u) /\ 0 < u /\ u <= 13:=by
   cases free
   ·
    exact ⟨6,at0 _ _,by decide,by decide⟩
   ·
    exact ⟨13,at1 _ _ _,by decide,by decide⟩
  rw [eu,b5,q_I]
  refine ⟨u0,?_⟩
  have w13:=w12.new (o:=.lst [T.int 6,T.int 13]) hp6
  clear w12 eu
  generalize up3 H13 p6 (.lst [T.int 6,T.int 13]) = H14 at w13
  refine ⟨n7,pn,_,wi,ws,rfl,(w13.at' (pn,.lst (ws.map T.str)) (by simp)).1,by omega,by omega,Int.emod_nonneg _ (by omega),by have:=Int.emod_lt_of_pos (hd / 288) u0; omega,fun ps hp12 hpnd hpp => ?_⟩
  dsimp only
  walk_at "nx"
  refine au fun R9 hR9 => ?_
  walk_at "rd"
  refine ⟨c,rfl,w13.cl,fun cell H15 hD8 => ?_⟩
  have w14:=w13.drw hD8
  clear w13 hD8
  walk_at "nx"
  refine au fun R10 hR10 => ?_
  walk_at "rd"
  refine ⟨by omega,fun p8 hp8 => ?_⟩
  obtain ⟨v,ev,v0,v8⟩ : ∃ v : Int,atI [T.int 5,T.int 8] (if free = true then 1 else 0) = some (T.int v) /\ 0 < v /\ v <= 8:=by
   cases free
   ·
    exact ⟨5,at0 _ _,by decide,by decide⟩
   ·
    exact ⟨8,at1 _ _ _,by decide,by decide⟩
  rw [ev,b5,q_I]
  refine ⟨v0,?_⟩
  rw [nu]
  have c0:=Int.emod_nonneg cell (show v ≠ 0 by omega)
  have c1:=Int.emod_lt_of_pos cell v0
  refine ⟨trivial,?_⟩
  rw [fV]
  refine ⟨by omega,by omega,?_⟩
  have w15:=w14.new (o:=.lst [T.int 5,T.int 8]) hp8
  clear w14 ev
  generalize up3 H15 p8 (.lst [T.int 5,T.int 8]) = H16 at w15
  walk_at "cp"
  obtain ⟨nn,hnn⟩ : ∃ nn : Nat,(1 + cell % v).toNat = nn:=⟨_,rfl⟩
  rw [hnn,z9]
  have nn1 : 1 <= nn:=by omega
  have nn8 : nn <= 8:=by omega
  clear hnn
  have gp:=(w15.at' (pl,.lst (pool.map T.str)) (by simp)).1
  dsimp only at gp
  have pp0 : (0 : Int) < (pool.length : Int):=by omega
  refine bw (fun i : Nat => T.int (i : Int)) (fun i => T.str (pool.getD ((cell / (64 * 2 ^ (2 * (i : Int)).toNat) % (pool.length : Int)).toNat) "")) (List.range nn) [some (T.ref pl),some (T.int cell)] trivial (by rw [List.length_range]; omega) (fun i hi Q' hq => ?_) (fun pr hpr => ?_)
  ·
   rw [List.mem_range] at hi
   have hm : 0 < (2 : Int) ^ (2 * (i : Int)).toNat /\ (2 : Int) ^ (2 * (i : Int)).toNat <= 65536:=by
    have : i = 0 \/ i = 1 \/ i = 2 \/ i = 3 \/ i = 4 \/ i = 5 \/ i = 6 \/ i = 7:=by omega
    rcases this with rfl | rfl | rfl | rfl | rfl | rfl | rfl | rfl <;> decide
   have cd : de cell (64 * 2 ^ (2 * (i : Int)).toNat):=pj (i:=cell) (by omega) (by omega)
   have cp : jp 64 (2 * (i : Int)):=⟨by omega,by omega,by decide⟩
   have cm : CMul 2 (i : Int):=.inl ⟨by decide,by decide⟩
   have e0:=Int.emod_nonneg (cell / (64 * 2 ^ (2 * (i : Int)).toNat)) (show (pool.length : Int) ≠ 0 by omega)
   have e1:=Int.emod_lt_of_pos (cell / (64 * 2 ^ (2 * (i : Int)).toNat)) pp0
   have ea : atI (pool.map T.str) (cell / (64 * 2 ^ (2 * (i : Int)).toNat) % (pool.length : Int)) = some (T.str (pool.getD ((cell / (64 * 2 ^ (2 * (i : Int)).toNat) % (pool.length : Int)).toNat) "")):=by
    generalize cell / (64 * 2 ^ (2 * (i : Int)).toNat) % (pool.length : Int) = ix at e0 e1
    obtain ⟨t,rfl⟩:=Int.eq_ofNat_of_zero_le e0
    have ht : t < pool.length:=by omega
    refine cz ?_
    rw [List.getElem?_map,List.getElem?_eq_getElem ht,Int.toNat_natCast,List.getD_eq_getElem?_getD,List.getElem?_eq_getElem ht]
    rfl
   clear hm e0 e1 k
   walk_at "rd"
   exact ⟨by first | trivial | exact cm,by first | trivial | exact cp,by first | trivial | exact cd,by first | trivial | exact pp0,by first | trivial | exact hq⟩
  ·
   have w16:=w15.new (o:=.lst ((List.range nn).map fun (i : Nat) => T.str (pool.getD ((cell / (64 * 2 ^ (2 * (i : Int)).toNat) % (pool.length : Int)).toNat) ""))) hpr
   clear w15 gp
   generalize up3 H16 pr (.lst ((List.range nn).map fun (i : Nat) => T.str (pool.getD ((cell / (64 * 2 ^ (2 * (i : Int)).toNat) % (pool.length : Int)).toNat) ""))) = H17 at w16
   walk_at "nx"
   walk_at "rd"
   refine ⟨c,rfl,w16.cl,fun n9 H18 hD9 => ?_⟩
   have w17:=w16.drw hD9
   clear w16 hD9
   dsimp only
   refine ⟨Str × Str,orT,n9,po,os,rfl,(w17.at' (po,.lst (os.map orT)) (by simp)).1,by omega,fun pz oz hpz hperz => ?_⟩
   have w18:=w17.new (o:=.lst (oz.map orT)) hpz
   clear w17
   dsimp only
   rw [jG,ai,kK]
   generalize up3 H18 pz (.lst (oz.map orT)) = H19 at w18
   have gr:=(w18.at' (pr,.lst ((List.range nn).map fun (i : Nat) => T.str (pool.getD ((cell / (64 * 2 ^ (2 * (i : Int)).toNat) % (pool.length : Int)).toNat) ""))) (by simp)).1
   dsimp only at gr
   rw [gr,kK]
   refine ⟨by omega,ee w18.cl w18.kp fun H'' hD => ?_⟩
   have hmem : ∀ i : Nat,pool.getD ((cell / (64 * 2 ^ (2 * (i : Int)).toNat) % (pool.length : Int)).toNat) "" ∈ pool:=fun i => by
    have e0:=Int.emod_nonneg (cell / (64 * 2 ^ (2 * (i : Int)).toNat)) (show (pool.length : Int) ≠ 0 by omega)
    have e1:=Int.emod_lt_of_pos (cell / (64 * 2 ^ (2 * (i : Int)).toNat)) pp0
    exact mem_getD _ _ (by omega)
   have htl : tk.length = ws.length:=by rw [<- htk,List.length_map]
   have hW : WkOk ⟨tk,oz,ps,(List.range nn).map fun (i : Nat) => pool.getD ((cell / (64 * 2 ^ (2 * (i : Int)).toNat) % (pool.length : Int)).toNat) ""⟩:=by
    refine ⟨?_,?_,hok,?_,?_,?_,?_,hp12,hpnd,?_,?_,?_,?_⟩
    ·
     show 1 <= tk.length; omega
    ·
     show tk.length <= 8; omega
    ·
     show (tk.map (·.1)).Nodup; rw [htk]; exact hws.nd
    ·
     show oz.length <= 28; rw [hperz.length_eq]; exact ho28
    ·
     exact hperz.nodup_iff.mpr hond
    ·
     intro o ho
     show _ /\ o.1 ∈ tk.map (·.1) /\ o.2 ∈ tk.map (·.1)
     rw [htk]
     obtain ⟨a1,a2,a3⟩:=hoo o (hperz.subset ho)
     exact ⟨a1,hper.subset a2,hper.subset a3⟩
    ·
     intro o ho
     show _ /\ _ /\ o.2.1 ∈ tk.map (·.1) /\ o.2.2 ∈ tk.map (·.1)
     rw [htk]
     exact hpp o ho
    ·
     show 1 <= ((List.range nn).map _).length; rw [List.length_map,List.length_range]; exact nn1
    ·
     show ((List.range nn).map _).length <= 8; rw [List.length_map,List.length_range]; exact nn8
    ·
     intro x hx
     obtain ⟨i,_,rfl⟩:=List.mem_map.mp hx
     exact hpN.nm _ (hmem i)
   have kk:=k _ H'' hW (by show (tk.length : Int) <= most; omega) (fun o ho h2 => hasy o (hperz.subset ho) (hperz.subset h2)) hD
   simp only [Wk.enc,sT,List.map_map,Function.comp_def] at kk
   exact kk
end
universe u
variable {α : Type u}
inductive TC (R : α -> α -> Prop) : α -> α -> Prop
 | base {a b : α} : R a b -> TC R a b
 | step {a b c : α} : TC R a b -> R b c -> TC R a c
inductive RT (R : α -> α -> Prop) : α -> α -> Prop
 | refl {a : α} : RT R a a
 | step {a b c : α} : RT R a b -> R b c -> RT R a c
theorem TC.trans {R : α -> α -> Prop} {a b c : α} (h : TC R a b) (g : TC R b c) : TC R a c:=by
 induction g with
 | base r => exact .step h r
 | step _ r ih => exact .step ih r
theorem TC.rt {R : α -> α -> Prop} {a b : α} (h : TC R a b) : RT R a b:=by
 induction h with
 | base r => exact .step .refl r
 | step _ r ih => exact .step ih r
theorem RT.trans {R : α -> α -> Prop} {a b c : α} (h : RT R a b) (g : RT R b c) : RT R a c:=by
 induction g with
 | refl => exact h
 | step _ r ih => exact .step ih r
theorem rt_iff {R : α -> α -> Prop} {a b : α} : RT R a b ↔ b = a \/ TC R a b:=by
 constructor
 ·
  intro h
  induction h with
  | refl => exact .inl rfl
  | step _ r ih =>
   rcases ih with e | t
   ·
    subst e; exact .inr (.base r)
   ·
    exact .inr (.step t r)
 ·
  rintro (e | t)
  ·
   subst e; exact .refl
  ·
   exact t.rt
theorem RT.flip {R : α -> α -> Prop} {a b : α} (h : RT R a b) : RT (fun x y => R y x) b a:=by
 induction h with
 | refl => exact .refl
 | step _ r ih => exact (RT.step (R:=fun x y => R y x) .refl r).trans ih
theorem rM {R : α -> α -> Prop} {a b : α} : RT (fun x y => R y x) a b ↔ RT R b a:=⟨fun h => h.flip,fun h => h.flip⟩
theorem RT.mono {R S : α -> α -> Prop} (hs : ∀ a b,R a b -> S a b) {a b : α} (h : RT R a b) : RT S a b:=by
 induction h with
 | refl => exact .refl
 | step _ r ih => exact .step ih (hs _ _ r)
theorem TC.mono {R S : α -> α -> Prop} (hs : ∀ a b,R a b -> S a b) {a b : α} (h : TC R a b) : TC S a b:=by
 induction h with
 | base r => exact .base (hs _ _ r)
 | step _ r ih => exact .step ih (hs _ _ r)
theorem TC.last {R : α -> α -> Prop} {a b : α} (h : TC R a b) : ∃ c,R c b:=by
 cases h with
 | base r => exact ⟨_,r⟩
 | step _ r => exact ⟨_,r⟩
noncomputable def fwS (f : α -> α -> Bool) (m : α) : α -> α -> Bool:=fun a b => f a b || (f a m && f m b)
noncomputable def fw (f : α -> α -> Bool) (A : List α) : α -> α -> Bool:=A.foldl fwS f
theorem lj (f : α -> α -> Bool) (A : List α) (m : α) : fw f (A ++ [m]) = fwS (fw f A) m:=by unfold fw; rw [List.foldl_append]; rfl
theorem ll (f : α -> α -> Bool) {a b : α} (h : f a b = true) : ∀ A : List α,fw f A a b = true:=by
 intro A
 induction A generalizing f with
 | nil => exact h
 | cons m A ih => exact ih (fwS f m) (by unfold fwS; rw [h]; rfl)
theorem pC (f : α -> α -> Bool) : ∀ (A : List α) (a b : α),fw f A a b = true -> TC (fun x y => f x y = true) a b:=by
 intro A
 induction A generalizing f with
 | nil => intro a b h; exact .base h
 | cons m A ih =>
  intro a b h
  have h2:=ih (fwS f m) a b h
  clear h ih
  have one : ∀ x y,fwS f m x y = true -> TC (fun x y => f x y = true) x y:=by
   intro x y h
   unfold fwS at h
   rw [Bool.or_eq_true,Bool.and_eq_true] at h
   rcases h with h | ⟨h1,h2⟩
   ·
    exact .base h
   ·
    exact .step (.base h1) h2
  induction h2 with
  | base r => exact one _ _ r
  | step _ r ih => exact ih.trans (one _ _ r)
theorem wm (f : α -> α -> Bool) (B : List α) : ∀ k ∈ B,∀ i j,fw f B i k = true -> fw f B k j = true -> fw f B i j = true:=by
 have key : ∀ (n : Nat) (B : List α),B.length = n -> ∀ k ∈ B,∀ i j,fw f B i k = true -> fw f B k j = true -> fw f B i j = true:=by
  intro n
  induction n with
  | zero => intro B hB k hk; rw [List.eq_nil_of_length_eq_zero hB] at hk; cases hk
  | succ n ih =>
   intro B hB k hk i j h1 h2
   rcases List.eq_nil_or_concat B with e | ⟨A,m,e⟩
   ·
    subst e; cases hB
   ·
    rw [List.concat_eq_append] at e
    subst e
    have hA : A.length = n:=by simpa using hB
    have T:=ih A hA
    rw [lj] at h1 h2 ⊢
    generalize fw f A = g at *
    unfold fwS at *
    rw [Bool.or_eq_true,Bool.and_eq_true] at *
    rcases List.mem_append.mp hk with hk | hk
    ·
     rcases h1 with a | ⟨a,b⟩ <;> rcases h2 with c | ⟨c,d⟩
     ·
      exact .inl (T k hk i j a c)
     ·
      exact .inr ⟨T k hk i m a c,d⟩
     ·
      exact .inr ⟨a,T k hk m j b c⟩
     ·
      exact .inr ⟨a,d⟩
    ·
     have hk' : k = m:=by simpa using hk
     subst hk'
     have a : g i k = true:=by rcases h1 with a | ⟨a,_⟩ <;> exact a
     have d : g k j = true:=by rcases h2 with c | ⟨_,d⟩ <;> assumption
     exact .inr ⟨a,d⟩
 exact key B.length B rfl
theorem wn {f : α -> α -> Bool} {B : List α} (hf : ∀ a b,f a b = true -> b ∈ B) {a b : α} : fw f B a b = true ↔ TC (fun x y => f x y = true) a b:=by
 constructor
 ·
  exact pC f B a b
 ·
  intro h
  induction h with
  | base r => exact ll f r B
  | step t r ih =>
   obtain ⟨c,hc⟩:=t.last
   exact wm f B _ (hf _ _ hc) _ _ ih (ll f r B)
theorem zc {L : List (α × α)} {F : List α} {s x : α} (hs : s ∈ F) (hc : ∀ a b,(a,b) ∈ L -> a ∈ F -> b ∈ F) (h : RT (fun a b => (a,b) ∈ L) s x) : x ∈ F:=by
 induction h with
 | refl => exact hs
 | step _ r ih => exact hc _ _ r ih
theorem j5 [DecidableEq α] : ∀ {l m : List α},l.Nodup -> (∀ x ∈ l,x ∈ m) -> l.length <= m.length:=by
 intro l
 induction l with
 | nil => intro m _ _; exact Nat.zero_le _
 | cons a l ih =>
  intro m nd hs
  rw [List.nodup_cons] at nd
  have ha:=hs a List.mem_cons_self
  have h:=ih (m:=m.erase a) nd.2 fun x hx => by
   have hx':=hs x (List.mem_cons_of_mem _ hx)
   have hne : x ≠ a:=fun e => nd.1 (e ▸ hx)
   exact (List.mem_erase_of_ne hne).mpr hx'
  have e:=List.length_erase_of_mem ha
  have p : 0 < m.length:=List.length_pos_of_mem ha
  simp only [List.length_cons]
  omega
noncomputable def lkP (ws : List Str) (p : Str × Str × Str) : List (Str × Str):=if p.1 ∈ ws then [(p.2.1,p.2.2),(p.2.2,p.2.1)] else []
noncomputable def lkW (ws : List Str) (W : Wk) : List (Str × Str):=W.orders ++ W.pairs.flatMap (lkP ws)
def lkR (ws : List Str) (W : Wk) (a b : Str) : Prop:=(a,b) ∈ lkW ws W
theorem rN (ws : List Str) (p : Str × Str × Str) : (lkP ws p).length <= 2:=by unfold lkP; split <;> simp
theorem ij (ws : List Str) : ∀ ps : List (Str × Str × Str),(ps.flatMap (lkP ws)).length <= 2 * ps.length
 | [] => Nat.le_refl _
 | p :: r => by
  have h1:=rN ws p
  have h2:=ij ws r
  simp only [List.flatMap_cons,List.length_append,List.length_cons]
  omega
theorem lm {ws : List Str} {W : Wk} (h : WkOk W) : (lkW ws W).length <= 52:=by
 have h1:=ij ws W.pairs
 have h2:=h.os
 have h3:=h.ps
 unfold lkW
 rw [List.length_append]
 omega
theorem wo {ws : List Str} {W : Wk} (h : WkOk W) {a b : Str} (m : (a,b) ∈ lkW ws W) : a ∈ W.tasks.map (·.1) /\ b ∈ W.tasks.map (·.1):=by
 unfold lkW at m
 rcases List.mem_append.mp m with m | m
 ·
  exact (h.oo _ m).2
 ·
  obtain ⟨p,hp,hm⟩:=List.mem_flatMap.mp m
  obtain ⟨_,_,q1,q2⟩:=h.pp p hp
  unfold lkP at hm
  split at hm
  ·
   simp only [List.mem_cons,Prod.mk.injEq,List.not_mem_nil,or_false] at hm
   rcases hm with ⟨rfl,rfl⟩ | ⟨rfl,rfl⟩
   ·
    exact ⟨q1,q2⟩
   ·
    exact ⟨q2,q1⟩
  ·
   cases hm
noncomputable def dF (F : List Str) : List (Str × T):=F.map fun z => (z,T.bl true)
theorem eh (z : Str) : ∀ F : List Str,(av z (dF F)).isSome = decide (z ∈ F)
 | [] => rfl
 | y :: r => by
  have ih:=eh z r
  unfold dF at ih ⊢
  simp only [List.map_cons,av]
  by_cases h : y = z
  ·
   simp [h]
  ·
   rw [if_neg h,ih]
   have h' : ¬ z = y:=fun e => h e.symm
   simp [h']
theorem wq (z : Str) (F : List Str) : ((dF F).any fun kv => decide (kv.1 = z)) = decide (z ∈ F):=by
 unfold dF
 rw [List.any_map]
 induction F with
 | nil => rfl
 | cons y r ih =>
  simp only [List.any_cons,Function.comp_apply,ih]
  by_cases h : y = z
  ·
   simp [h]
  ·
   have h' : ¬ z = y:=fun e => h e.symm
   simp [h,h']
theorem wr {z : Str} {F : List Str} (h : z ∉ F) : put3 z (T.bl true) (dF F) = dF (F ++ [z]):=by
 unfold put3
 rw [wq,decide_eq_false h,if_neg Bool.false_ne_true]
 unfold dF
 rw [List.map_append]
 rfl
theorem wu (F : List Str) : (dF F).length = F.length:=List.length_map _
theorem wv (z : Str) : [(z,T.bl true)] = dF [z]:=rfl
theorem pE {x : T} {ts : List T} {H : Hp3} {R : List T -> (Hp3 -> Prop) -> Hp3 -> Prop} (hx : (∃ a,x = .ref a /\ H a = some (.lst ts)) \/ x = .tup ts)
  (h : ∀ still : Hp3 -> Prop,(still = bg \/ ∃ a,still = bh a ts /\ H a = some (.lst ts)) -> R ts still H) : lP x H R:=by
 rcases hx with ⟨a,rfl,e⟩ | rfl
 ·
  rw [vm,e,iQ]
  exact h _ (.inr ⟨a,rfl,e⟩)
 ·
  rw [vk]
  exact h _ (.inl rfl)
noncomputable def bd (W : Wk) (t : Str) : List Str:=(W.tasks.map (·.1)).filter fun x => @decide (RT (lkR ["with"] W) t x /\ RT (lkR ["with"] W) x t) (Classical.propDecidable _)
noncomputable def bp (W : Wk) : List (List Str):=((W.tasks.map (·.1)).filter fun t => decide ((bd W t).head? = some t)).map (bd W)
theorem dI {W : Wk} {t : Str} (h : t ∈ W.tasks.map (·.1)) : t ∈ bd W t:=by
 unfold bd
 rw [List.mem_filter]
 exact ⟨h,@decide_eq_true _ (Classical.propDecidable _) ⟨.refl,.refl⟩⟩
theorem je (W : Wk) (t : Str) : (bd W t).length <= W.tasks.length:=by
 have:=List.length_filter_le (fun x => @decide (RT (lkR ["with"] W) t x /\ RT (lkR ["with"] W) x t) (Classical.propDecidable _)) (W.tasks.map (·.1))
 rw [List.length_map] at this
 exact this
noncomputable def swp (o : Str × Str) : Str × Str:=(o.2,o.1)
theorem ww {L : List (Str × Str)} {a b : Str} : RT (fun x y => (x,y) ∈ L.map swp) a b ↔ RT (fun x y => (x,y) ∈ L) b a:=by
 have e : (fun x y => (x,y) ∈ L.map swp) = fun x y : Str => (y,x) ∈ L:=by
  funext x y
  refine propext ⟨fun h => ?_,fun h => List.mem_map.mpr ⟨(y,x),h,rfl⟩⟩
  obtain ⟨o,ho,eo⟩:=List.mem_map.mp h
  obtain ⟨o1,o2⟩:=o
  cases eo
  exact ho
 rw [e]
 exact rM
section
variable {P : Program} {w : World} {K : PySem.W.Frag} {mg : Str -> Option Value} {base : Heap}
def wx : Sp3:=fun ts H Q => ∃ W : Wk,ts = [W.enc] /\ WkOk W /\ ∀ p,H p = none -> Q (.ref p) (up3 H p (.lst ((lkW ["with"] W).map orT)))
def rO : Sp3:=fun ts H Q => ∃ (x : T) (L : List (Str × Str)) (s : Str),ts = [x,.str s] /\ ((∃ a,x = .ref a /\ H a = some (.lst (L.map orT))) \/ x = .tup (L.map orT)) /\ L.length <= 100 /\
 ∀ (p : Addr) (kvs : List (Str × T)),H p = none -> (∀ z,(av z kvs).isSome = true ↔ RT (fun a b => (a,b) ∈ L) s z) -> Q (.ref p) (up3 H p (.dct kvs))
def zd : Sp3:=fun ts H Q => ∃ (W : Wk) (t : Str),ts = [W.enc,.str t] /\ WkOk W /\ ∀ (p : Addr) (kvs : List (Str × T)),H p = none -> (∀ z,(av z kvs).isSome = true ↔ RT (lkR ["with"] W) t z) -> Q (.ref p) (up3 H p (.dct kvs))
def ze : Sp3:=fun ts H Q => ∃ (W : Wk) (t : Str),ts = [W.enc,.str t] /\ WkOk W /\ ∀ (p : Addr) (kvs : List (Str × T)),H p = none -> (∀ z,(av z kvs).isSome = true ↔ RT (lkR ["with"] W) z t) -> Q (.ref p) (up3 H p (.dct kvs))
def zf : Sp3:=fun ts H Q => ∃ (W : Wk) (a b : Addr) (ka kb : List (Str × T)),ts = [W.enc,.ref a,.ref b] /\ WkOk W /\ H a = some (.dct ka) /\ H b = some (.dct kb) /\ Q (sT ((W.tasks.map (·.1)).filter fun x => (av x ka).isSome && (av x kb).isSome)) H
def zg : Sp3:=fun ts H Q => ∃ (W : Wk) (t : Str),ts = [W.enc,.str t] /\ WkOk W /\ Q (sT (bd W t)) H
def zh : Sp3:=fun ts H Q => ∃ W : Wk,ts = [W.enc] /\ WkOk W /\ Q (.tup ((bp W).map sT)) H
abbrev e6 : List Str:=["works","links","word","one","other"]
theorem sc_links_of : FnScope e6 ["works"] (ah (top 1)):=aR
theorem jf {f : Addr} {fd : FuncData} (g : G3 K mg "links_of" (top 1) ["works"] f fd) (B : Bl mg) : Cal P w K mg base 1 "links_of" (top 1) ["works"] wx:=by
 refine ⟨f,fd,g,?_⟩
 refine fn3 g.fn sc_links_of (fun ts H Q h => ?_) (fun cdv A outer s H E ts H3 Q hr h => ?_)
 ·
  obtain ⟨W,rfl,_⟩:=h; rfl
 ·
  have hu30:=Room.u30 hr
  have hu31:=Room.u31 hr
  have hu1:=Room.u1 hr
  obtain ⟨⟨tk,ors,prs,row⟩,rfl,hW,k⟩:=h
  refine ⟨_,(ae (ak (i:=1) sc_links_of.nd (aI gO rfl B.list_ d8 (aa (aw ix3 (v3 0) af) ac)))
    (ae (aP PassesOwn.never rfl (bn (aw ix3 (v3 0) af)) (cg (n:=3) rfl (ax (ao (i:=2) sc_links_of.nd) (ax (ao (i:=3) sc_links_of.nd) (ax (ao (i:=4) sc_links_of.nd) bM)))) (ag (a8 (aU (bG hu30) (v3 2) bf) (ae (ba (br PySem.F.plainAttrs_list PySem.F.slot_list_append PySem.F.type_list_append aX (v3 1) (aa (aL (aa (v3 3) (aa (v3 4) ac))) ac)))
      (ag (ba (br PySem.F.plainAttrs_list PySem.F.slot_list_append PySem.F.type_list_append aX (v3 1) (aa (aL (aa (v3 4) (aa (v3 3) ac))) ac))))) aG)))
    (ag (aF (v3 1))))),?_⟩
  rw [show ay e6 [Wk.enc ⟨tk,ors,prs,row⟩] = [some (T.tup [T.tup (tk.map tkT),T.tup (ors.map orT),T.tup (prs.map prT),T.tup (row.map T.str)]),none,none,none,none] from rfl]
  have hsz : sizeLine = 16777216:=rfl
  have os28 : ors.length <= 28:=hW.os
  have ps12 : prs.length <= 12:=hW.ps
  walk_at "rd"
  intro p hp
  refine aS prT prs (fun A σ H => ∃ (v2 v3 v4 : Option T),σ = [some (T.tup [T.tup (tk.map tkT),T.tup (ors.map orT),T.tup (prs.map prT),T.tup (row.map T.str)]),some (.ref p),v2,v3,v4] /\ H = up3 H3 p (.lst ((ors ++ A.flatMap (lkP ["with"])).map orT))) ⟨none,none,none,rfl,by simp⟩ ?_ ?_
  ·
   rintro σ H ⟨v2,v3,v4,rfl,rfl⟩
   refine ⟨trivial,?_⟩
   walk_at "rd"
   exact Fin3.of Sub3.refl (k p hp)
  ·
   rintro A ⟨w,a,b⟩ B σ H N e ⟨v2,v3,v4,rfl,rfl⟩ hN
   have hl:=ij ["with"] A
   have hA : A.length <= 12:=by
    have:=congrArg List.length e
    simp only [List.length_append,List.length_cons] at this
    omega
   have hl2 : (ors ++ A.flatMap (lkP ["with"])).length <= 52:=by rw [List.length_append]; omega
   have fin : N [some (T.tup [T.tup (tk.map tkT),T.tup (ors.map orT),T.tup (prs.map prT),T.tup (row.map T.str)]),some (.ref p),some (.str w),some (.str a),some (.str b)] (up3 H3 p (.lst ((ors ++ A.flatMap (lkP ["with"])).map orT ++ (lkP ["with"] (w,a,b)).map orT))):=hN _ _ ⟨_,_,_,rfl,by rw [List.flatMap_append,<- List.append_assoc,List.map_append]; simp⟩
   generalize ors ++ A.flatMap (lkP ["with"]) = cur at fin hl2
   replace fin:=Box.mk fin
   refine ⟨trivial,?_⟩
   clear hN e k hW hl
   simp only [prT]
   walk_at "rd"
   refine ⟨trivial,?_⟩
   by_cases hw : w = "with"
   ·
    subst hw
    have e1 : lkP ["with"] ("with",a,b) = [(a,b),(b,a)]:=by unfold lkP; simp
    rw [e1] at fin
    simp only [decide_true,if_true]
    refine ⟨⟨trivial,trivial⟩,by omega,by omega,⟨trivial,trivial⟩,by omega,by simp; omega,?_⟩
    have fo:=fin.out
    simp only [List.map_cons,List.map_nil,orT] at fo
    rw [List.append_assoc]
    exact fo
   ·
    have e1 : lkP ["with"] (w,a,b) = []:=by unfold lkP; simp [hw]
    rw [e1,List.map_nil,List.append_nil] at fin
    simp only [hw,decide_false,Bool.false_eq_true,if_false]
    exact fin.out
abbrev gq : List Str:=["links","start","found","grown","one","other"]
theorem sc_reached : FnScope gq ["links","start"] (ah (top 2)):=aR
theorem j6 {f : Addr} {fd : FuncData} (g : G3 K mg "reached" (top 2) ["links","start"] f fd) (B : Bl mg) : Cal P w K mg base 1 "reached" (top 2) ["links","start"] rO:=by
 refine ⟨f,fd,g,?_⟩
 refine fn3 g.fn sc_reached (fun ts H Q h => ?_) (fun cdv A outer s H E ts H3 Q hr h => ?_)
 ·
  obtain ⟨x,L,s,rfl,_⟩:=h; rfl
 ·
  have hu30:=Room.u30 hr
  have hu31:=Room.u31 hr
  have hu1:=Room.u1 hr
  obtain ⟨x,L,s0,rfl,hx,hL,k⟩:=h
  refine ⟨_,(ae (ak (i:=2) sc_reached.nd (nP (v3 1) dc))
    (ae (ak (i:=3) sc_reached.nd dc)
    (ae (eL PassesOwn.never (bj (v3 3)) (ae (ak (i:=3) sc_reached.nd dc)
     (ag (aP PassesOwn.never rfl (qV 0) (cg (n:=2) rfl (ax (ao (i:=4) sc_reached.nd) (ax (ao (i:=5) sc_reached.nd) bM))) (ag (a8 (PW3.pt (ce (gZ hu1 (v3 4) (v3 2)) (b6 (lO hu1 (v3 5) (v3 2))))) (ae (gN hu1 (v3 2) (v3 5) dc)
       (ag (ak (i:=3) sc_reached.nd dc))) aG))))))
    (ag (aF (v3 2)))))),?_⟩
  rw [show ay gq [x,T.str s0] = [some (x),some (T.str s0),none,none,none,none] from rfl]
  have hsz : sizeLine = 16777216:=rfl
  walk_at "rd"
  intro p hp
  refine ⟨trivial,?_⟩
  rw [wv]
  refine ⟨fun m σ H => ∃ (F : List Str) (g : Bool) (v4 v5 : Option T),σ = [some x,some (.str s0),some (.ref p),some (.bl g),v4,v5] /\ H = up3 H3 p (.dct (dF F)) /\ s0 ∈ F /\ F.Nodup /\ (∀ z ∈ F,RT (fun a b => (a,b) ∈ L) s0 z) /\ (g = false -> ∀ a b,(a,b) ∈ L -> a ∈ F -> b ∈ F) /\ m = 2 * (L.length + 1 - F.length) + (if g then 1 else 0),
   ⟨_,[s0],true,none,none,rfl,rfl,List.mem_cons_self,by simp,(fun z hz => by rw [List.mem_singleton.mp hz]; exact .refl),(fun z => nomatch z),rfl⟩,?_⟩
  have bound : ∀ F : List Str,F.Nodup -> (∀ z ∈ F,RT (fun a b => (a,b) ∈ L) s0 z) -> F.length <= L.length + 1:=fun F nd hF => by
   have:=j5 (l:=F) (m:=s0 :: L.map (·.2)) nd fun z hz => by
    cases hF z hz with
    | refl => exact List.mem_cons_self
    | step _ r => exact List.mem_cons_of_mem _ (List.mem_map.mpr ⟨_,r,rfl⟩)
   simpa using this
  rintro m σ H ⟨F,g,v4,v5,rfl,rfl,hs,nd,hR,hg,rfl⟩
  walk_at "rd"
  cases g with
  | false =>
   simp only [Bool.false_eq_true,if_false]
   refine Fin3.of Sub3.refl (k p _ hp fun z => ?_)
   rw [eh,decide_eq_true_iff]
   exact ⟨hR z,fun h => zc hs (hg rfl) h⟩
  | true =>
   simp only [if_true]
   have hx' : (∃ a,x = .ref a /\ up3 H3 p (.dct (dF F)) a = some (.lst (L.map orT))) \/ x = .tup (L.map orT):=by
    rcases hx with ⟨a,rfl,e⟩ | e
    ·
     exact .inl ⟨a,rfl,by rw [aj (a5 e hp)]; exact e⟩
    ·
     exact .inr e
   refine pE hx' fun still hst => ?_
   have hst' : ∀ F',still (up3 H3 p (.dct (dF F'))):=by
    rcases hst with rfl | ⟨a,rfl,e⟩
    ·
     exact fun _ => trivial
    ·
     have hpa : a ≠ p:=fun z => by subst z; rw [ai] at e; cases e
     rw [aj hpa] at e
     exact fun F' => .inl (by rw [aj hpa]; exact e)
   refine aS orT L (fun A σ H => ∃ (F' : List Str) (g' : Bool) (v4 v5 : Option T),σ = [some x,some (.str s0),some (.ref p),some (.bl g'),v4,v5] /\ H = up3 H3 p (.dct (dF F')) /\ s0 ∈ F' /\ F'.Nodup /\ (∀ z ∈ F',RT (fun a b => (a,b) ∈ L) s0 z) /\ (g' = false -> F' = F /\ ∀ o ∈ A,o.1 ∈ F -> o.2 ∈ F) /\ (g' = true -> F.length < F'.length)) ⟨F,false,v4,v5,rfl,rfl,hs,nd,hR,fun _ => ⟨rfl,(fun _ h => nomatch h)⟩,(fun z => nomatch z)⟩ ?_ ?_
   ·
    rintro σ H ⟨F',g',v4,v5,rfl,rfl,hs',nd',hR',h1,h2⟩
    refine ⟨hst' F',?_⟩
    have b1:=bound F nd hR
    have b2:=bound F' nd' hR'
    cases g' with
    | true =>
     have:=h2 rfl
     exact ⟨_,by simp only [if_true]; omega,F',true,v4,v5,rfl,rfl,hs',nd',hR',(fun z => nomatch z),rfl⟩
    | false =>
     obtain ⟨e,hc⟩:=h1 rfl
     subst e
     exact ⟨_,by simp,F',false,v4,v5,rfl,rfl,hs',nd',hR',fun _ a b hab ha => hc (a,b) hab ha,rfl⟩
   ·
    rintro A ⟨a,b⟩ B σ H N e ⟨F',g',v4,v5,rfl,rfl,hs',nd',hR',h1,h2⟩ hN
    refine ⟨hst' F',?_⟩
    have hab : (a,b) ∈ L:=by rw [e]; simp
    have b2:=bound F' nd' hR'
    have l1:=eh a F'
    have l2:=eh b F'
    have l3:=wu F'
    have no : ¬ (a ∈ F' /\ b ∉ F') -> N [some x,some (.str s0),some (.ref p),some (.bl g'),some (.str a),some (.str b)] (up3 H3 p (.dct (dF F'))):=fun hno => hN _ _ ⟨F',g',_,_,rfl,rfl,hs',nd',hR',fun hg' => by
     obtain ⟨e1,hc⟩:=h1 hg'
     subst e1
     refine ⟨rfl,fun o ho => ?_⟩
     rcases List.mem_append.mp ho with ho | ho
     ·
      exact hc o ho
     ·
      rw [List.mem_singleton.mp ho]
      intro ha
      exact Classical.byContradiction fun hb => hno ⟨ha,hb⟩,h2⟩
    have yes : a ∈ F' -> b ∉ F' -> N [some x,some (.str s0),some (.ref p),some (.bl true),some (.str a),some (.str b)] (up3 H3 p (.dct (put3 b (T.bl true) (dF F')))):=fun ha hb => by
     rw [wr hb]
     refine hN _ _ ⟨F' ++ [b],true,_,_,rfl,rfl,List.mem_append_left _ hs',cA nd' hb,fun z hz => ?_,(fun z => nomatch z),fun _ => ?_⟩
     ·
      rcases List.mem_append.mp hz with hz | hz
      ·
       exact hR' z hz
      ·
       rw [List.mem_singleton.mp hz]
       exact .step (hR' a ha) hab
     ·
      rw [List.length_append,List.length_singleton]
      cases g' with
      | true => have:=h2 rfl; omega
      | false => obtain ⟨e1,_⟩:=h1 rfl; subst e1; omega
    replace no:=Box.mk no
    replace yes:=Box.mk yes
    clear hN h1 h2 hst' hst bound k hx hx' hg hR hR' nd nd' hs hs' e hab
    simp only [orT]
    walk_at "rd"
    refine ⟨trivial,?_⟩
    by_cases ha : a ∈ F'
    ·
     simp only [ha,decide_true,if_true]
     by_cases hb : b ∈ F'
     ·
      simp only [hb,decide_true,Bool.not_true,Bool.false_eq_true,if_false]
      exact no.out fun z => z.2 hb
     ·
      simp only [hb,decide_false,Bool.not_false,if_true]
      exact ⟨by omega,yes.out ha hb⟩
    ·
     simp only [ha,decide_false,Bool.false_eq_true,if_false]
     exact no.out fun z => ha z.1
abbrev cN : List Str:=["works","task"]
theorem l9 : FnScope cN cN (ah (top 3)):=aR
theorem ma {f : Addr} {fd : FuncData} (g : G3 K mg "led_to" (top 3) cN f fd) (B : Bl mg) (F_reached : Cal P w K mg base 1 "reached" (top 2) ["links","start"] rO) (F_links_of : Cal P w K mg base 1 "links_of" (top 1) ["works"] wx) : Cal P w K mg base 2 "led_to" (top 3) cN zd:=by
 refine ⟨f,fd,g,?_⟩
 refine fn3 g.fn l9 (fun ts H Q h => ?_) (fun cdv A outer s H E ts H3 Q hr h => ?_)
 ·
  obtain ⟨W,t,rfl,_⟩:=h; rfl
 ·
  have hu30:=Room.u30 hr
  have hu31:=Room.u31 hr
  have hu1:=Room.u1 hr
  obtain ⟨W,t,rfl,hW,k⟩:=h
  refine ⟨_,(ag (aF (aD F_reached hr rfl (aa (aD F_links_of hr rfl (aa (v3 0) ac)) (aa (v3 1) ac))))),?_⟩
  rw [show ay cN [W.enc,T.str t] = [some (W.enc),some (T.str t)] from rfl]
  walk_at "rd"
  refine ⟨W,rfl,hW,fun q hq => ?_⟩
  try dsimp only
  refine ⟨_,lkW ["with"] W,t,rfl,.inl ⟨q,rfl,ai⟩,Nat.le_trans (lm hW) (by decide),fun p kvs hp hk => ?_⟩
  obtain ⟨n1,hp⟩:=ap hp
  refine Fin3.of (fun a o e => ?_) (k p kvs hp hk)
  by_cases h : a = p
  ·
   subst h; rw [ai] at e ⊢; exact e
  ·
   rw [aj h] at e ⊢
   rw [aj (a5 e hq)]
   exact e
abbrev bL : List Str:=["works","task"]
theorem jg : FnScope bL bL (ah (top 4)):=aR
theorem jh {f : Addr} {fd : FuncData} (g : G3 K mg "led_from" (top 4) bL f fd) (B : Bl mg) (F_reached : Cal P w K mg base 1 "reached" (top 2) ["links","start"] rO) (F_links_of : Cal P w K mg base 1 "links_of" (top 1) ["works"] wx) : Cal P w K mg base 2 "led_from" (top 4) bL ze:=by
 refine ⟨f,fd,g,?_⟩
 refine fn3 g.fn jg (fun ts H Q h => ?_) (fun cdv A outer s H E ts H3 Q hr h => ?_)
 ·
  obtain ⟨W,t,rfl,_⟩:=h; rfl
 ·
  have hu30:=Room.u30 hr
  have hu31:=Room.u31 hr
  have hu1:=Room.u1 hr
  obtain ⟨W,t,rfl,hW,k⟩:=h
  refine ⟨_,(ag (aF (aD F_reached hr rfl (aa (b8 rfl (bS (n0:=(ah (top 4)).names) (N:=bL) (N':=["one","other"]) (nt:=2) (cap:=[]) rfl rfl (by decide +kernel)) (bo (aD F_links_of hr rfl (aa (v3 0) ac))) (fun cl pins s H C0 fp => ⟨(cg (n:=2) rfl (ax (ao (i:=0) (show List.Nodup [("one" : Str),("other" : Str)] by decide +kernel)) (ax (ao (i:=1) (show List.Nodup [("one" : Str),("other" : Str)] by decide +kernel)) bM))),b7,(aL (aa (v3 1) (aa (v3 0) ac)))⟩)) (aa (v3 1) ac))))),?_⟩
  rw [show ay bL [W.enc,T.str t] = [some (W.enc),some (T.str t)] from rfl]
  have hsz : sizeLine = 16777216:=rfl
  have hl:=lm (ws:=["with"]) hW
  walk_at "rd"
  refine ⟨W,rfl,hW,fun q hq => ?_⟩
  try dsimp only
  rw [sK,ai,iQ]
  walk_at "cp"
  refine gb orT (lkW ["with"] W) (fun A ys σ H => H = up3 H3 q (.lst ((lkW ["with"] W).map orT)) /\ ys = (A.map swp).map orT /\ ∃ v0 v1 : Option T,σ = [v0,v1]) ⟨rfl,rfl,none,none,rfl⟩ ?_ ?_
  ·
   rintro ys σ H ⟨rfl,rfl,v0,v1,rfl⟩
   refine ⟨.inl ai,by rw [List.length_map,List.length_map]; omega,fun r hr => ?_⟩
   obtain ⟨n0,hr0⟩:=ap hr
   refine ⟨_,(lkW ["with"] W).map swp,t,rfl,.inl ⟨r,rfl,ai⟩,by rw [List.length_map]; omega,fun p kvs hp hk => ?_⟩
   obtain ⟨n1,hp⟩:=ap hp
   obtain ⟨n2,hp⟩:=ap hp
   refine Fin3.of (fun a o e => ?_) (k p kvs hp fun z => (hk z).trans ww)
   by_cases h : a = p
   ·
    subst h; rw [ai] at e ⊢; exact e
   ·
    rw [aj h] at e ⊢
    rw [aj (a5 e hr0),aj (a5 e hq)]
    exact e
  ·
   rintro A ⟨a,b⟩ B ys σ H N e ⟨rfl,rfl,v0,v1,rfl⟩ hN
   have hA : A.length <= 52:=by
    have:=congrArg List.length e
    simp only [List.length_append,List.length_cons] at this
    omega
   refine ⟨.inl ai,?_⟩
   have fin:=hN (((A.map swp).map orT) ++ [orT (b,a)]) [some (.str a),some (.str b)] _ ⟨rfl,by rw [List.map_append,List.map_append]; rfl,_,_,rfl⟩
   replace fin:=Box.mk fin
   clear hN k e
   simp only [orT] at fin ⊢
   walk_at "rd"
   exact ⟨trivial,by omega,by omega,fin.out⟩
abbrev bW : List Str:=["works","found","other"]
theorem j7 : FnScope bW bW (ah (top 5)):=aR
theorem j8 {f : Addr} {fd : FuncData} (g : G3 K mg "in_both" (top 5) bW f fd) (B : Bl mg) : Cal P w K mg base 1 "in_both" (top 5) bW zf:=by
 refine ⟨f,fd,g,?_⟩
 refine fn3 g.fn j7 (fun ts H Q h => ?_) (fun cdv A outer s H E ts H3 Q hr h => ?_)
 ·
  obtain ⟨W,a,b,ka,kb,rfl,_⟩:=h; rfl
 ·
  have hu30:=Room.u30 hr
  have hu31:=Room.u31 hr
  have hu1:=Room.u1 hr
  obtain ⟨⟨tk,ors,prs,row⟩,a,b,ka,kb,rfl,hW,ha,hb,k⟩:=h
  refine ⟨_,(ag (aF (aI bD rfl B.tuple_ bE (aa (b8 rfl (bS (n0:=(ah (top 5)).names) (N:=bW) (N':=["task","found","other"]) (nt:=1) (cap:=[1,2]) rfl rfl (by decide +kernel)) (bn (aw ix3 (v3 0) af)) (fun cl pins s H C0 fp => ⟨(ao (i:=0) (show List.Nodup [("task" : Str),("found" : Str),("other" : Str)] by decide +kernel)),(d4 (PW3.pt (ce (gZ hu1 (aw ix3 (v3 0) af) (v3 1)) (b6 (gZ hu1 (aw ix3 (v3 0) af) (v3 2)))))),(aw ix3 (v3 0) af)⟩)) ac)))),?_⟩
  rw [show ay bW [Wk.enc ⟨tk,ors,prs,row⟩,T.ref a,T.ref b] = [some (T.tup [T.tup (tk.map tkT),T.tup (ors.map orT),T.tup (prs.map prT),T.tup (row.map T.str)]),some (T.ref a),some (T.ref b)] from rfl]
  have hsz : sizeLine = 16777216:=rfl
  have t8 : tk.length <= 8:=hW.t8
  walk_at "rd"
  walk_at "cp"
  refine c7 tkT (fun t => T.str t.1) (fun t => (av t.1 ka).isSome && (av t.1 kb).isSome) tk [some (.ref a),some (.ref b)] trivial (by omega) (fun t ht Q' hq => ?_) (fun t ht hpt Q' hq => ?_) (fun p hp => ?_)
  ·
   obtain ⟨nm,len,ks⟩:=t
   simp only [tkT]
   dsimp only at hq
   cases e1 : (av nm ka).isSome <;> cases e2 : (av nm kb).isSome <;> simp only [e1,e2,Bool.and_true,Bool.and_false,Bool.not_true,Bool.not_false,Bool.true_and,Bool.false_and] at hq <;> walk_at "rd"
  ·
   simp only [tkT]
   walk_at "rd"
   try exact hq
  ·
   walk_at "rd"
   refine Fin3.of (Sub3.new hp) ?_
   have e : (tk.filter fun t => (av t.1 ka).isSome && (av t.1 kb).isSome).map (fun t => T.str t.1) = ((tk.map (·.1)).filter fun x => (av x ka).isSome && (av x kb).isSome).map T.str:=by
    rw [List.filter_map,List.map_map]
    rfl
   rw [e]
   exact k
abbrev bz : List Str:=["works","task"]
theorem ji : FnScope bz bz (ah (top 6)):=aR
theorem jj {f : Addr} {fd : FuncData} (g : G3 K mg "group_of" (top 6) bz f fd) (B : Bl mg) (F_in_both : Cal P w K mg base 1 "in_both" (top 5) ["works","found","other"] zf) (F_led_to : Cal P w K mg base 2 "led_to" (top 3) bz zd) (F_led_from : Cal P w K mg base 2 "led_from" (top 4) bz ze) : Cal P w K mg base 3 "group_of" (top 6) bz zg:=by
 refine ⟨f,fd,g,?_⟩
 refine fn3 g.fn ji (fun ts H Q h => ?_) (fun cdv A outer s H E ts H3 Q hr h => ?_)
 ·
  obtain ⟨W,t,rfl,_⟩:=h; rfl
 ·
  have hu30:=Room.u30 hr
  have hu31:=Room.u31 hr
  have hu1:=Room.u1 hr
  obtain ⟨W,t,rfl,hW,k⟩:=h
  refine ⟨_,(ag (aF (aD F_in_both hr rfl (aa (v3 0) (aa (aD F_led_to hr rfl (aa (v3 0) (aa (v3 1) ac))) (aa (aD F_led_from hr rfl (aa (v3 0) (aa (v3 1) ac))) ac)))))),?_⟩
  rw [show ay bz [W.enc,T.str t] = [some (W.enc),some (T.str t)] from rfl]
  walk_at "rd"
  refine ⟨W,t,rfl,hW,fun p ka hp hka => ?_⟩
  try dsimp only
  refine ⟨W,t,rfl,hW,fun q kb hq hkb => ?_⟩
  obtain ⟨n1,hq0⟩:=ap hq
  try dsimp only
  refine ⟨W,p,q,ka,kb,rfl,hW,by rw [aj (Ne.symm n1)]; exact ai,ai,?_⟩
  refine Fin3.of (fun a o e => by rw [aj (a5 e hq0),aj (a5 e hp)]; exact e) ?_
  rw [show (W.tasks.map (·.1)).filter (fun x => (av x ka).isSome && (av x kb).isSome) = bd W t from ?_]
  ·
   exact k
  ·
   unfold bd
   refine List.filter_congr fun x hx => ?_
   rw [Bool.eq_iff_iff,Bool.and_eq_true,@decide_eq_true_iff _ (Classical.propDecidable _),hka x,hkb x]
abbrev dU : List Str:=["works","groups","task","group"]
theorem sc_groups_of : FnScope dU ["works"] (ah (top 7)):=aR
theorem ik {f : Addr} {fd : FuncData} (g : G3 K mg "groups_of" (top 7) ["works"] f fd) (B : Bl mg) (F_group_of : Cal P w K mg base 3 "group_of" (top 6) ["works","task"] zg) : Cal P w K mg base 4 "groups_of" (top 7) ["works"] zh:=by
 refine ⟨f,fd,g,?_⟩
 refine fn3 g.fn sc_groups_of (fun ts H Q h => ?_) (fun cdv A outer s H E ts H3 Q hr h => ?_)
 ·
  obtain ⟨W,rfl,_⟩:=h; rfl
 ·
  have hu30:=Room.u30 hr
  have hu31:=Room.u31 hr
  have hu1:=Room.u1 hr
  obtain ⟨⟨tk,ors,prs,row⟩,rfl,hW,k⟩:=h
  refine ⟨_,(ae (ak (i:=1) sc_groups_of.nd (bb ac))
    (ae (aP PassesOwn.never rfl (bn (aw ix3 (v3 0) af)) (ao (i:=2) sc_groups_of.nd) (ae (ak (i:=3) sc_groups_of.nd (aD F_group_of hr rfl (aa (v3 0) (aa (aw ix3 (v3 2) af) ac))))
     (ag (a8 (aU (bG hu30) (aw ix3 (v3 3) af) (aw ix3 (v3 2) af)) (ag (ba (br PySem.F.plainAttrs_list PySem.F.slot_list_append PySem.F.type_list_append aX (v3 1) (aa (v3 3) ac)))) aG))))
    (ag (aF (aI bD rfl B.tuple_ bE (aa (v3 1) ac)))))),?_⟩
  rw [show ay dU [Wk.enc ⟨tk,ors,prs,row⟩] = [some (T.tup [T.tup (tk.map tkT),T.tup (ors.map orT),T.tup (prs.map prT),T.tup (row.map T.str)]),none,none,none] from rfl]
  have hsz : sizeLine = 16777216:=rfl
  have t8 : tk.length <= 8:=hW.t8
  walk_at "rd"
  refine ⟨by omega,fun p hp => ?_⟩
  refine aS tkT tk (fun A σ H => ∃ (v2 v3 : Option T),σ = [some (T.tup [T.tup (tk.map tkT),T.tup (ors.map orT),T.tup (prs.map prT),T.tup (row.map T.str)]),some (.ref p),v2,v3] /\ H = up3 H3 p (.lst ((((A.map (·.1)).filter fun t => decide ((bd ⟨tk,ors,prs,row⟩ t).head? = some t)).map (bd ⟨tk,ors,prs,row⟩)).map sT))) ⟨none,none,rfl,rfl⟩ ?_ ?_
  ·
   rintro σ H ⟨v2,v3,rfl,rfl⟩
   refine ⟨trivial,?_⟩
   walk_at "rd"
   exact Fin3.of (Sub3.new hp) k
  ·
   rintro A ⟨nm,len,ks⟩ B σ H N e ⟨v2,v3,rfl,rfl⟩ hN
   have hA : A.length <= 8:=by
    have:=congrArg List.length e
    simp only [List.length_append,List.length_cons] at this
    omega
   have hm : nm ∈ (⟨tk,ors,prs,row⟩ : Wk).tasks.map (·.1):=by
    show nm ∈ tk.map (·.1)
    rw [e]; simp
   have hg:=dI hm
   have hfl : (((A.map (·.1)).filter fun t => decide ((bd ⟨tk,ors,prs,row⟩ t).head? = some t)).map (bd ⟨tk,ors,prs,row⟩)).length <= 8:=by
    rw [List.length_map]
    exact Nat.le_trans (List.length_filter_le _ _) (by rw [List.length_map]; exact hA)
   have fin : ∀ v2 v3,N [some (T.tup [T.tup (tk.map tkT),T.tup (ors.map orT),T.tup (prs.map prT),T.tup (row.map T.str)]),some (.ref p),v2,v3] (up3 H3 p (.lst ((((A.map (·.1)).filter fun t => decide ((bd ⟨tk,ors,prs,row⟩ t).head? = some t)).map (bd ⟨tk,ors,prs,row⟩)).map sT ++ (if (bd ⟨tk,ors,prs,row⟩ nm).head? = some nm then [sT (bd ⟨tk,ors,prs,row⟩ nm)] else [])))):=fun v2 v3 => by
    refine hN _ _ ⟨v2,v3,rfl,?_⟩
    rw [List.map_append,List.filter_append,List.map_append,List.map_append]
    by_cases h : (bd ⟨tk,ors,prs,row⟩ nm).head? = some nm
    ·
     simp [h]
    ·
     simp [h]
   generalize (((A.map (·.1)).filter fun t => decide ((bd ⟨tk,ors,prs,row⟩ t).head? = some t)).map (bd ⟨tk,ors,prs,row⟩)) = cur at fin hfl
   replace fin:=Box.mk fin
   refine ⟨trivial,?_⟩
   clear hN e k
   simp only [tkT]
   walk_at "rd"
   refine ⟨⟨tk,ors,prs,row⟩,nm,rfl,hW,?_⟩
   cases eg : bd ⟨tk,ors,prs,row⟩ nm with
   | nil => rw [eg] at hg; cases hg
   | cons y r =>
    rw [eg] at fin
    clear hg hm
    simp only [sT,List.map_cons] at fin ⊢
    walk_at "rd"
    by_cases hy : y = nm
    ·
     simp only [hy,decide_true,if_true,List.head?_cons] at fin ⊢
     exact ⟨⟨trivial,trivial⟩,by omega,fin.out _ _⟩
    ·
     have hy' : ¬ some y = some nm:=fun z => hy (Option.some.inj z)
     simp only [hy,hy',decide_false,Bool.false_eq_true,if_false,List.head?_cons,List.append_nil] at fin ⊢
     exact fin.out _ _
end
noncomputable def kk (a b : Str) : List Key:=[Sum.inr a,Sum.inr b]
theorem kk_eq {a b c d : Str} : kk a b = kk c d ↔ a = c /\ b = d:=by
 unfold kk
 constructor
 ·
  intro h
  injection h with h1 h2
  injection h2 with h3 _
  injection h1 with h1
  injection h3 with h3
  exact ⟨h1,h3⟩
 ·
  rintro ⟨rfl,rfl⟩; rfl
structure Far (ns : List Str) (kvs : List (List Key × T)) (f : Str -> Str -> Bool) : Prop where
 at' : ∀ a ∈ ns,∀ b ∈ ns,bc (kk a b) kvs = some (.bl (f a b))
 len : kvs.length <= 64
theorem Far.put {ns : List Str} {kvs : List (List Key × T)} {f : Str -> Str -> Bool} (F : Far ns kvs f) {a b : Str} (ha : a ∈ ns) (hb : b ∈ ns) (v : Bool) : Far ns (c6 (kk a b) (.bl v) kvs) (fun x y => if x = a /\ y = b then v else f x y):=by
 refine ⟨fun x hx y hy => ?_,?_⟩
 ·
  rw [f9]
  by_cases h : x = a /\ y = b
  ·
   obtain ⟨rfl,rfl⟩:=h
   simp
  ·
   have h' : ¬ kk a b = kk x y:=fun e => h (by obtain ⟨h1,h2⟩:=kk_eq.mp e; exact ⟨h1.symm,h2.symm⟩)
   rw [if_neg h',if_neg h,F.at' x hx y hy]
 ·
  rw [lQ _ _ _ (F.at' a ha b hb)]
  exact F.len
theorem Far.congr {ns : List Str} {kvs : List (List Key × T)} {f g : Str -> Str -> Bool} (F : Far ns kvs f) (h : ∀ a ∈ ns,∀ b ∈ ns,f a b = g a b) : Far ns kvs g:=⟨fun a ha b hb => by rw [F.at' a ha b hb,h a ha b hb],F.len⟩
structure Fil (A : List Str) (x : Str) (B : List Str) (ns : List Str) (kvs : List (List Key × T)) (f : Str -> Str -> Bool) : Prop where
 at' : ∀ a b,b ∈ ns -> (a ∈ A \/ (a = x /\ b ∈ B)) -> bc (kk a b) kvs = some (.bl (f a b))
 len : kvs.length <= A.length * ns.length + B.length
theorem Fil.put {A : List Str} {x : Str} {B ns : List Str} {kvs : List (List Key × T)} {f : Str -> Str -> Bool} (F : Fil A x B ns kvs f) (y : Str) : Fil A x (B ++ [y]) ns (c6 (kk x y) (.bl (f x y)) kvs) f:=by
 refine ⟨fun a b hb h => ?_,?_⟩
 ·
  rw [f9]
  by_cases e : kk x y = kk a b
  ·
   obtain ⟨rfl,rfl⟩:=kk_eq.mp e
   simp
  ·
   rw [if_neg e]
   refine F.at' a b hb ?_
   rcases h with h | ⟨h1,h2⟩
   ·
    exact .inl h
   ·
    subst h1
    rcases List.mem_append.mp h2 with h2 | h2
    ·
     exact .inr ⟨rfl,h2⟩
    ·
     rw [List.mem_singleton] at h2
     subst h2
     exact absurd rfl e
 ·
  have h1:=nS (kk x y) (.bl (f x y)) kvs
  have h2:=F.len
  rw [List.length_append,List.length_singleton]
  omega
theorem Fil.next {A : List Str} {x z : Str} {ns : List Str} {kvs : List (List Key × T)} {f : Str -> Str -> Bool} (F : Fil A x ns ns kvs f) : Fil (A ++ [x]) z [] ns kvs f:=by
 refine ⟨fun a b hb h => F.at' a b hb ?_,?_⟩
 ·
  rcases h with h | ⟨_,h⟩
  ·
   rcases List.mem_append.mp h with h | h
   ·
    exact .inl h
   ·
    exact .inr ⟨List.mem_singleton.mp h,hb⟩
  ·
   cases h
 ·
  have h2:=F.len
  rw [List.length_append,List.length_singleton,List.length_nil,Nat.add_mul,Nat.one_mul]
  omega
theorem Fil.far {ns : List Str} {x : Str} {kvs : List (List Key × T)} {f : Str -> Str -> Bool} (F : Fil ns x [] ns kvs f) (h8 : ns.length <= 8) : Far ns kvs f:=by
 refine ⟨fun a ha b hb => F.at' a b hb (.inl ha),?_⟩
 have h:=F.len
 rw [List.length_nil,Nat.add_zero] at h
 exact Nat.le_trans h (Nat.mul_le_mul h8 h8)
noncomputable def fwM (f : Str -> Str -> Bool) (m : Str) (A : List Str) (x : Str) (B : List Str) : Str -> Str -> Bool:=fun a b => if a ∈ A \/ (a = x /\ b ∈ B) then fwS f m a b else f a b
theorem zi (f : Str -> Str -> Bool) (m : Str) (A : List Str) (x : Str) (B : List Str) (a : Str) : fwM f m A x B a m = f a m:=by
 unfold fwM fwS
 split
 ·
  cases f a m <;> simp
 ·
  rfl
theorem zj (f : Str -> Str -> Bool) (m : Str) (A : List Str) (x : Str) (B : List Str) (b : Str) : fwM f m A x B m b = f m b:=by
 unfold fwM fwS
 split
 ·
  cases f m b <;> simp
 ·
  rfl
theorem rP (f : Str -> Str -> Bool) (m : Str) (A : List Str) (x : Str) (B : List Str) (y : Str) (h : f x m = true /\ f m y = true) (a b : Str) : (if a = x /\ b = y then true else fwM f m A x B a b) = fwM f m A x (B ++ [y]) a b:=by
 unfold fwM
 by_cases e : a = x /\ b = y
 ·
  obtain ⟨rfl,rfl⟩:=e
  rw [if_pos ⟨rfl,rfl⟩,if_pos (.inr ⟨rfl,by simp⟩)]
  unfold fwS
  rw [h.1,h.2]
  simp
 ·
  rw [if_neg e]
  by_cases e2 : a ∈ A \/ (a = x /\ b ∈ B)
  ·
   rw [if_pos e2,if_pos (e2.imp id fun z => ⟨z.1,List.mem_append_left _ z.2⟩)]
  ·
   rw [if_neg e2,if_neg]
   rintro (z | ⟨z1,z2⟩)
   ·
    exact e2 (.inl z)
   ·
    rcases List.mem_append.mp z2 with z2 | z2
    ·
     exact e2 (.inr ⟨z1,z2⟩)
    ·
     exact e ⟨z1,List.mem_singleton.mp z2⟩
theorem pF (f : Str -> Str -> Bool) (m : Str) (A : List Str) (x : Str) (B : List Str) (y : Str) (h : ¬ (f x m = true /\ f m y = true)) (a b : Str) : fwM f m A x B a b = fwM f m A x (B ++ [y]) a b:=by
 unfold fwM
 by_cases e2 : a ∈ A \/ (a = x /\ b ∈ B)
 ·
  rw [if_pos e2,if_pos (e2.imp id fun z => ⟨z.1,List.mem_append_left _ z.2⟩)]
 ·
  rw [if_neg e2]
  by_cases e : a = x /\ b = y
  ·
   obtain ⟨rfl,rfl⟩:=e
   rw [if_pos (.inr ⟨rfl,by simp⟩)]
   unfold fwS
   cases e1 : f a m <;> cases e3 : f m b <;> simp_all
  ·
   rw [if_neg]
   rintro (z | ⟨z1,z2⟩)
   ·
    exact e2 (.inl z)
   ·
    rcases List.mem_append.mp z2 with z2 | z2
    ·
     exact e2 (.inr ⟨z1,z2⟩)
    ·
     exact e ⟨z1,List.mem_singleton.mp z2⟩
theorem pG (f : Str -> Str -> Bool) (m : Str) (A : List Str) (x z : Str) {ns : List Str} (a : Str) {b : Str} (hb : b ∈ ns) : fwM f m A x ns a b = fwM f m (A ++ [x]) z [] a b:=by
 unfold fwM
 have : (a ∈ A \/ (a = x /\ b ∈ ns)) ↔ (a ∈ A ++ [x] \/ (a = z /\ b ∈ ([] : List Str))):=by
  simp [hb]
 simp only [this]
theorem rQ (f : Str -> Str -> Bool) (m : Str) (x : Str) {ns : List Str} {a : Str} (ha : a ∈ ns) (b : Str) : fwM f m ns x [] a b = fwS f m a b:=by
 unfold fwM
 rw [if_pos (.inl ha)]
theorem zk (f : Str -> Str -> Bool) (m : Str) (x : Str) (a b : Str) : fwM f m [] x [] a b = f a b:=by
 unfold fwM
 rw [if_neg (by simp)]
noncomputable def bF (ws : List Str) (W : Wk) (a b : Str) : Bool:=@decide (TC (lkR ws W) a b) (Classical.propDecidable _)
theorem rR {ws : List Str} {W : Wk} (h : WkOk W) (a b : Str) : fw (fun a b => decide ((a,b) ∈ lkW ws W)) (W.tasks.map (·.1)) a b = bF ws W a b:=by
 unfold bF
 rw [Bool.eq_iff_iff,wn fun a b hab => (wo h (of_decide_eq_true hab)).2,@decide_eq_true_iff _ (Classical.propDecidable _)]
 have : (fun x y => decide ((x,y) ∈ lkW ws W) = true) = lkR ws W:=by
  funext x y
  exact propext decide_eq_true_iff
 rw [this]
section
variable {P : Program} {w : World} {K : PySem.W.Frag} {mg : Str -> Option Value} {base : Heap}
def sU : Sp3:=fun ts H Q => ∃ (W : Wk) (ws : List Str),ts = [W.enc,sT ws] /\ WkOk W /\ ∀ (p : Addr) (kvs : List (List Key × T)),H p = none -> Far (W.tasks.map (·.1)) kvs (bF ws W) -> Q (.ref p) (up3 H p (.dcp kvs))
abbrev il : List Str:=["_law_works_here","_law_words","_law_names_here","_law_far","_law_one","_law_other","_law_word","_law_amid"]
theorem sc_reach : FnScope il ["_law_works_here","_law_words"] (ah (top 38)):=aR
theorem pH {f : Addr} {fd : FuncData} (g : G3 K mg "_law_reach" (top 38) ["_law_works_here","_law_words"] f fd) (B : Bl mg) : Cal P w K mg base 1 "_law_reach" (top 38) ["_law_works_here","_law_words"] sU:=by
 refine ⟨f,fd,g,?_⟩
 refine fn3 g.fn sc_reach (fun ts H Q h => ?_) (fun cdv A outer s H E ts H3 Q hr h => ?_)
 ·
  obtain ⟨W,ws,rfl,_⟩:=h; rfl
 ·
  have hu30:=Room.u30 hr
  have hu31:=Room.u31 hr
  have hu1:=Room.u1 hr
  obtain ⟨⟨tk,ors,prs,row⟩,ws,rfl,hW,k⟩:=h
  refine ⟨_,(ae (d5 (i:=2) rfl sc_reach.nd (bS (n0:=(ah (top 38)).names) (N:=il) (N':=["_law_task"]) (nt:=1) (cap:=[]) rfl rfl (by decide +kernel)) (bn (aw ix3 (v3 0) af)) (fun cl pins s H C0 fp => ⟨(ao (i:=0) (show List.Nodup [("_law_task" : Str)] by decide +kernel)),b7,(aw ix3 (v3 0) af)⟩))
    (ae (ak (i:=3) sc_reach.nd nM)
    (ae (aP PassesOwn.never rfl (bo (v3 2)) (ao (i:=4) sc_reach.nd) (ag (aP PassesOwn.never rfl (bo (v3 2)) (ao (i:=5) sc_reach.nd) (ag (dk hu1 (v3 3) (aa (v3 4) (aa (v3 5) ac)) (bQ (dP hu31) (aL (aa (v3 4) (aa (v3 5) ac))) (aw ix3 (v3 0) af) rfl))))))
    (ae (aP PassesOwn.never rfl (bn (aw ix3 (v3 0) af)) (cg (n:=3) rfl (ax (ao (i:=6) sc_reach.nd) (ax (ao (i:=4) sc_reach.nd) (ax (ao (i:=5) sc_reach.nd) bM)))) (ag (a8 (aU (dP hu31) (v3 6) (v3 1) rfl) (ae (dk hu1 (v3 3) (aa (v3 4) (aa (v3 5) ac)) dc)
      (ag (dk hu1 (v3 3) (aa (v3 5) (aa (v3 4) ac)) dc))) aG)))
    (ae (aP PassesOwn.never rfl (bo (v3 2)) (ao (i:=7) sc_reach.nd) (ag (aP PassesOwn.never rfl (bo (v3 2)) (ao (i:=4) sc_reach.nd) (ag (aP PassesOwn.never rfl (bo (v3 2)) (ao (i:=5) sc_reach.nd) (ag (a8 (PW3.pt (ce (bj (bY hu1 (v3 3) (aa (v3 4) (aa (v3 7) ac)))) (b6 (bj (bY hu1 (v3 3) (aa (v3 7) (aa (v3 5) ac))))))) (ag (dk hu1 (v3 3) (aa (v3 4) (aa (v3 5) ac)) dc)) aG)))))))
    (ag (aF (v3 3)))))))),?_⟩
  rw [show ay il [Wk.enc ⟨tk,ors,prs,row⟩,sT ws] = [some (T.tup [T.tup (tk.map tkT),T.tup (ors.map orT),T.tup (prs.map prT),T.tup (row.map T.str)]),some (T.tup (ws.map T.str)),none,none,none,none,none,none] from rfl]
  have hsz : sizeLine = 16777216:=rfl
  have t8 : tk.length <= 8:=hW.t8
  walk_at "rd"
  walk_at "cp"
  refine bw tkT (fun t => T.str t.1) tk [] trivial (by omega) (fun t ht Q' hq => ?_) (fun pn hpn => ?_)
  ·
   simp only [tkT]
   walk_at "rd"
   try exact hq
  have enm : (tk.map fun t => T.str t.1) = (tk.map (·.1)).map T.str:=by rw [List.map_map]; rfl
  have nnd : (tk.map (·.1)).Nodup:=hW.nd
  have nl : (tk.map (·.1)).length <= 8:=by rw [List.length_map]; exact t8
  have hFW:=fun a b => rR (ws:=ws) hW a b
  have hoo : ∀ o ∈ ors,o.1 ∈ tk.map (·.1) /\ o.2 ∈ tk.map (·.1):=fun o ho => (hW.oo o ho).2
  have hpp : ∀ o ∈ prs,o.2.1 ∈ tk.map (·.1) /\ o.2.2 ∈ tk.map (·.1):=fun o ho => (hW.pp o ho).2.2
  have elk : lkW ws ⟨tk,ors,prs,row⟩ = ors ++ prs.flatMap (lkP ws):=rfl
  rw [elk] at hFW
  rw [show (⟨tk,ors,prs,row⟩ : Wk).tasks = tk from rfl] at k hFW
  generalize bF ws ⟨tk,ors,prs,row⟩ = fin at k hFW
  rw [enm]
  generalize tk.map (·.1) = ns at *
  clear enm elk hW
  walk_at "rd"
  intro p hp
  obtain ⟨npn,hp0⟩:=ap hp
  have npn':=Ne.symm npn
  have hst : ∀ o,bh pn (ns.map T.str) (up3 (up3 H3 pn (.lst (ns.map T.str))) p o):=fun o => .inl (by rw [aj npn',ai])
  have hpn1 : ∀ o,up3 (up3 H3 pn (.lst (ns.map T.str))) p o pn = some (.lst (ns.map T.str)):=fun o => by rw [aj npn',ai]
  have hpnv : up3 H3 pn (.lst (ns.map T.str)) pn = some (.lst (ns.map T.str)):=ai
  generalize hHp : up3 H3 pn (.lst (ns.map T.str)) = HP at *
  rw [hpn1,iQ]
  clear hpn1
  refine aS T.str ns (fun A σ H => ∃ (v4 v5 v6 v7 : Option T) (kvs : List (List Key × T)),σ = [some (T.tup [T.tup (tk.map tkT),T.tup (ors.map orT),T.tup (prs.map prT),T.tup (row.map T.str)]),some (T.tup (ws.map T.str)),some (.ref pn),some (.ref p),v4,v5,v6,v7] /\ H = up3 HP p (.dcp kvs) /\ Fil A "" [] ns kvs (fun a b => decide ((a,b) ∈ ors))) ⟨none,none,none,none,[],rfl,rfl,⟨fun a b _ h => by simp at h,by simp⟩⟩ ?_ ?_
  rotate_left
  ·
   rintro A x B σ H N e ⟨v4,v5,v6,v7,kvs,rfl,rfl,hF⟩ hN
   refine ⟨hst _,?_⟩
   have hlA : A.length + 1 <= 8:=by
    have:=congrArg List.length e
    simp only [List.length_append,List.length_cons] at this
    omega
   have fin1 : ∀ (v5 v6 v7 : Option T) (kvs : List (List Key × T)),Fil A x ns ns kvs (fun a b => decide ((a,b) ∈ ors)) -> N [some (T.tup [T.tup (tk.map tkT),T.tup (ors.map orT),T.tup (prs.map prT),T.tup (row.map T.str)]),some (T.tup (ws.map T.str)),some (.ref pn),some (.ref p),some (.str x),v5,v6,v7] (up3 HP p (.dcp kvs)):=fun v5 v6 v7 kvs h => hN _ _ ⟨_,v5,v6,v7,kvs,rfl,rfl,h.next⟩
   replace fin1:=Box.mk fin1
   clear hN k hFW e
   walk_at "rd"
   refine aS T.str ns (fun B σ H => ∃ (v5 v6 v7 : Option T) (kvs : List (List Key × T)),σ = [some (T.tup [T.tup (tk.map tkT),T.tup (ors.map orT),T.tup (prs.map prT),T.tup (row.map T.str)]),some (T.tup (ws.map T.str)),some (.ref pn),some (.ref p),some (.str x),v5,v6,v7] /\ H = up3 HP p (.dcp kvs) /\ Fil A x B ns kvs (fun a b => decide ((a,b) ∈ ors))) ⟨v5,v6,v7,kvs,rfl,rfl,⟨fun a b hb h => hF.at' a b hb (by simpa using h),by simpa using hF.len⟩⟩ ?_ ?_
   ·
    rintro σ H ⟨v5,v6,v7,kvs,rfl,rfl,hF'⟩
    exact ⟨hst _,fin1.out v5 v6 v7 kvs hF'⟩
   ·
    rintro B y C σ H N' e' ⟨v5,v6,v7,kvs,rfl,rfl,hF'⟩ hN'
    refine ⟨hst _,?_⟩
    have hm : bR false (T.tup [T.str x,T.str y]) (ors.map orT) = decide ((x,y) ∈ ors):=by
     rw [Bool.eq_iff_iff,decide_eq_true_iff]
     exact rj (f:=orT) rg (x:=(x,y))
    have i1 : pl 20 (T.tup [T.str x,T.str y]) = true:=rfl
    have i2:=oN ors
    have hl2 : kvs.length < sizeLine:=by
     have:=hF'.len
     have h1 : A.length * ns.length <= 8 * 8:=Nat.mul_le_mul (by omega) nl
     have h2 : B.length <= 8:=by
      have:=congrArg List.length e'
      simp only [List.length_append,List.length_cons] at this
      omega
     omega
    have hfin:=hN' _ _ ⟨some (T.str y),v6,v7,_,rfl,rfl,hF'.put y⟩
    replace hfin:=Box.mk hfin
    clear hN' fin1 hF hF' e'
    walk_at "rd"
    exact ⟨by omega,by first | trivial | omega,by first | trivial | omega,by omega,by omega,hfin.out⟩
  ·
   rintro σ H ⟨v4,v5,v6,v7,kvs,rfl,rfl,hF⟩
   refine ⟨hst _,?_⟩
   have hF:=hF.far nl
   walk_at "rd"
   refine aS prT prs (fun A σ H => ∃ (v4 v5 v6 v7 : Option T) (kvs : List (List Key × T)),σ = [some (T.tup [T.tup (tk.map tkT),T.tup (ors.map orT),T.tup (prs.map prT),T.tup (row.map T.str)]),some (T.tup (ws.map T.str)),some (.ref pn),some (.ref p),v4,v5,v6,v7] /\ H = up3 HP p (.dcp kvs) /\ Far ns kvs (fun a b => decide ((a,b) ∈ ors ++ A.flatMap (lkP ws)))) ⟨v4,v5,v6,v7,kvs,rfl,rfl,by simpa using hF⟩ ?_ ?_
   rotate_left
   ·
    rintro A ⟨wd,a,b⟩ B σ H N e ⟨v4,v5,v6,v7,kvs,rfl,rfl,hF⟩ hN
    refine ⟨trivial,?_⟩
    obtain ⟨ha,hb⟩:=hpp (wd,a,b) (by rw [e]; simp)
    dsimp only at ha hb
    have hm : bR false (T.str wd) (ws.map T.str) = decide (wd ∈ ws):=by
     rw [Bool.eq_iff_iff,decide_eq_true_iff]
     exact rj (f:=T.str) cH
    have i1 : pl 20 (T.str wd) = true:=rfl
    have i2:=bV ws
    have hl1:=hF.len
    have finN : ∀ kvs,Far ns kvs (fun x y => decide ((x,y) ∈ ors ++ A.flatMap (lkP ws) ++ lkP ws (wd,a,b))) -> N [some (T.tup [T.tup (tk.map tkT),T.tup (ors.map orT),T.tup (prs.map prT),T.tup (row.map T.str)]),some (T.tup (ws.map T.str)),some (.ref pn),some (.ref p),some (.str a),some (.str b),some (.str wd),v7] (up3 HP p (.dcp kvs)):=fun kvs h => hN _ _ ⟨_,_,_,v7,kvs,rfl,rfl,by
     refine h.congr fun x _ y _ => ?_
     rw [List.flatMap_append,List.append_assoc]
     simp⟩
    have l2:=(hF.put ha hb true).len
    have fY : wd ∈ ws -> Far ns (c6 (kk b a) (.bl true) (c6 (kk a b) (.bl true) kvs)) (fun x y => decide ((x,y) ∈ ors ++ A.flatMap (lkP ws) ++ lkP ws (wd,a,b))):=fun hw => by
     refine ((hF.put ha hb true).put hb ha true).congr fun x _ y _ => ?_
     have e1 : lkP ws (wd,a,b) = [(a,b),(b,a)]:=by unfold lkP; simp [hw]
     rw [e1,Bool.eq_iff_iff]
     by_cases h1 : x = b /\ y = a
     ·
      obtain ⟨rfl,rfl⟩:=h1; simp
     ·
      by_cases h2 : x = a /\ y = b
      ·
       obtain ⟨rfl,rfl⟩:=h2; simp
      ·
       simp [h1,h2]
    have fN : wd ∉ ws -> Far ns kvs (fun x y => decide ((x,y) ∈ ors ++ A.flatMap (lkP ws) ++ lkP ws (wd,a,b))):=fun hw => by
     refine hF.congr fun x _ y _ => ?_
     have e1 : lkP ws (wd,a,b) = []:=by unfold lkP; simp [hw]
     rw [e1,List.append_nil]
    have nY:=Box.mk fun hw => finN _ (fY hw)
    have nN:=Box.mk fun hw => finN _ (fN hw)
    clear hN finN fY fN hF e k hFW ha hb
    unfold kk at nY l2
    simp only [prT]
    walk_at "rd"
    refine ⟨trivial,trivial,trivial,?_⟩
    by_cases hw : wd ∈ ws
    ·
     simp only [hw,decide_true,if_true]
     exact ⟨by omega,by omega,by omega,by omega,nY.out hw⟩
    ·
     simp only [hw,decide_false,Bool.false_eq_true,if_false]
     exact nN.out hw
   ·
    rintro σ H ⟨v4,v5,v6,v7,kvs,rfl,rfl,hF⟩
    refine ⟨trivial,?_⟩
    clear hpp hoo
    generalize hf0 : (fun a b => decide ((a,b) ∈ ors ++ prs.flatMap (lkP ws))) = f0 at hF hFW
    walk_at "rd"
    refine aS T.str ns (fun A σ H => ∃ (v4 v5 v6 v7 : Option T) (kvs : List (List Key × T)),σ = [some (T.tup [T.tup (tk.map tkT),T.tup (ors.map orT),T.tup (prs.map prT),T.tup (row.map T.str)]),some (T.tup (ws.map T.str)),some (.ref pn),some (.ref p),v4,v5,v6,v7] /\ H = up3 HP p (.dcp kvs) /\ Far ns kvs (fw f0 A)) ⟨v4,v5,v6,v7,kvs,rfl,rfl,hF⟩ ?_ ?_
    ·
     rintro σ H ⟨v4,v5,v6,v7,kvs,rfl,rfl,hF⟩
     refine ⟨hst _,?_⟩
     have hk:=k p kvs hp0 (hF.congr fun a _ b _ => hFW a b)
     walk_at "rd"
     refine Fin3.of (fun a o e => ?_) hk
     subst hHp
     by_cases h : a = p
     ·
      subst h; rw [ai] at e ⊢; exact e
     ·
      rw [aj h] at e ⊢
      rw [aj (a5 e hpn)]
      exact e
    ·
     rintro A m B σ H N e ⟨v4,v5,v6,v7,kvs,rfl,rfl,hF⟩ hN
     refine ⟨hst _,?_⟩
     have hmn : m ∈ ns:=by rw [e]; simp
     have fin2 : ∀ (v4 v5 v6 : Option T) (kvs : List (List Key × T)),Far ns kvs (fwS (fw f0 A) m) -> N [some (T.tup [T.tup (tk.map tkT),T.tup (ors.map orT),T.tup (prs.map prT),T.tup (row.map T.str)]),some (T.tup (ws.map T.str)),some (.ref pn),some (.ref p),v4,v5,v6,some (.str m)] (up3 HP p (.dcp kvs)):=fun v4 v5 v6 kvs h => hN _ _ ⟨v4,v5,v6,_,kvs,rfl,rfl,by rw [lj]; exact h⟩
     replace fin2:=Box.mk fin2
     generalize fw f0 A = f at *
     clear hN k hFW hf0 e
     walk_at "rd"
     refine aS T.str ns (fun A σ H => ∃ (v4 v5 v6 : Option T) (kvs : List (List Key × T)),σ = [some (T.tup [T.tup (tk.map tkT),T.tup (ors.map orT),T.tup (prs.map prT),T.tup (row.map T.str)]),some (T.tup (ws.map T.str)),some (.ref pn),some (.ref p),v4,v5,v6,some (.str m)] /\ H = up3 HP p (.dcp kvs) /\ Far ns kvs (fwM f m A "" [])) ⟨v4,v5,v6,kvs,rfl,rfl,hF.congr fun a _ b _ => (zk f m "" a b).symm⟩ ?_ ?_
     ·
      rintro σ H ⟨v4,v5,v6,kvs,rfl,rfl,hF⟩
      exact ⟨hst _,fin2.out v4 v5 v6 kvs (hF.congr fun a ha b _ => rQ f m "" ha b)⟩
     ·
      rintro A x B σ H N e ⟨v4,v5,v6,kvs,rfl,rfl,hF⟩ hN
      refine ⟨hst _,?_⟩
      have hxn : x ∈ ns:=by rw [e]; simp
      have fin3 : ∀ (v5 v6 : Option T) (kvs : List (List Key × T)),Far ns kvs (fwM f m A x ns) -> N [some (T.tup [T.tup (tk.map tkT),T.tup (ors.map orT),T.tup (prs.map prT),T.tup (row.map T.str)]),some (T.tup (ws.map T.str)),some (.ref pn),some (.ref p),some (.str x),v5,v6,some (.str m)] (up3 HP p (.dcp kvs)):=fun v5 v6 kvs h => hN _ _ ⟨_,v5,v6,kvs,rfl,rfl,h.congr fun a _ b hb => pG f m A x "" a hb⟩
      replace fin3:=Box.mk fin3
      clear hN fin2 e
      walk_at "rd"
      refine aS T.str ns (fun B σ H => ∃ (v5 v6 : Option T) (kvs : List (List Key × T)),σ = [some (T.tup [T.tup (tk.map tkT),T.tup (ors.map orT),T.tup (prs.map prT),T.tup (row.map T.str)]),some (T.tup (ws.map T.str)),some (.ref pn),some (.ref p),some (.str x),v5,v6,some (.str m)] /\ H = up3 HP p (.dcp kvs) /\ Far ns kvs (fwM f m A x B)) ⟨v5,v6,kvs,rfl,rfl,hF.congr fun a _ b _ => by unfold fwM; simp⟩ ?_ ?_
      ·
       rintro σ H ⟨v5,v6,kvs,rfl,rfl,hF⟩
       exact ⟨hst _,fin3.out v5 v6 kvs hF⟩
      ·
       rintro B y C σ H N e ⟨v5,v6,kvs,rfl,rfl,hF⟩ hN
       refine ⟨hst _,?_⟩
       have hyn : y ∈ ns:=by rw [e]; simp
       have g1:=hF.at' x hxn m hmn
       have g2:=hF.at' m hmn y hyn
       rw [zi] at g1
       rw [zj] at g2
       have hl1:=hF.len
       have nY:=Box.mk fun (h : f x m = true /\ f m y = true) => hN [some (T.tup [T.tup (tk.map tkT),T.tup (ors.map orT),T.tup (prs.map prT),T.tup (row.map T.str)]),some (T.tup (ws.map T.str)),some (.ref pn),some (.ref p),some (.str x),some (.str y),v6,some (.str m)] _ ⟨_,v6,_,rfl,rfl,(hF.put hxn hyn true).congr fun a _ b _ => rP f m A x B y h a b⟩
       have nN:=Box.mk fun (h : ¬ (f x m = true /\ f m y = true)) => hN [some (T.tup [T.tup (tk.map tkT),T.tup (ors.map orT),T.tup (prs.map prT),T.tup (row.map T.str)]),some (T.tup (ws.map T.str)),some (.ref pn),some (.ref p),some (.str x),some (.str y),v6,some (.str m)] _ ⟨_,v6,kvs,rfl,rfl,hF.congr fun a _ b _ => pF f m A x B y h a b⟩
       clear hN fin3 hF e
       unfold kk at nY g1 g2
       walk_at "rd"
       refine ⟨by omega,?_⟩
       cases e1 : f x m
       ·
        simp only [Bool.false_eq_true,if_false]
        exact nN.out (by simp [e1])
       ·
        simp only [if_true]
        refine ⟨by omega,?_⟩
        cases e2 : f m y
        ·
         simp only [Bool.false_eq_true,if_false]
         exact nN.out (by simp [e2])
        ·
         simp only [if_true]
         exact ⟨by omega,by omega,nY.out ⟨e1,e2⟩⟩
end
theorem e7 (k z : Str) (v : T) : ∀ kvs : List (Str × T),(kvs.any fun kv => decide (kv.1 = k)) = true -> av z (kvs.map fun kv => if kv.1 = k then (kv.1,v) else kv) = if z = k then some v else av z kvs
 | (a,u) :: r,h => by
  by_cases ha : a = k
  ·
   subst ha
   by_cases hz : z = a
   ·
    subst hz
    simp [av]
   ·
    have hz' : ¬ a = z:=fun e => hz e.symm
    simp only [List.map_cons,if_true,av,if_neg hz',if_neg hz]
    cases hr : r.any fun kv => decide (kv.1 = a) with
    | true => rw [e7 a z v r hr,if_neg hz]
    | false =>
     have : r.map (fun kv => if kv.1 = a then (kv.1,v) else kv) = r:=by
      conv => rhs; rw [<- List.map_id r]
      refine List.map_congr_left fun q hq => ?_
      rw [if_neg (fun e => by have:=List.any_eq_false.mp hr q hq; simp [e] at this)]
      rfl
     rw [this]
  ·
   have hr : (r.any fun kv => decide (kv.1 = k)) = true:=by simpa [ha] using h
   simp only [List.map_cons,if_neg ha,av]
   by_cases hz : a = z
   ·
    subst hz
    rw [if_pos rfl,if_pos rfl,if_neg ha]
   ·
    rw [if_neg hz,if_neg hz,e7 k z v r hr]
theorem jk (k z : Str) (v : T) : ∀ kvs : List (Str × T),(kvs.any fun kv => decide (kv.1 = k)) = false -> av z (kvs ++ [(k,v)]) = if z = k then some v else av z kvs
 | [],_ => by
  by_cases hz : z = k
  ·
   subst hz; simp [av]
  ·
   have hz' : ¬ k = z:=fun e => hz e.symm
   simp [av,hz,hz']
 | (a,u) :: r,h => by
  simp only [List.any_cons,Bool.or_eq_false_iff,decide_eq_false_iff_not] at h
  simp only [List.cons_append,av]
  by_cases hz : a = z
  ·
   subst hz
   rw [if_pos rfl,if_pos rfl,if_neg h.1]
  ·
   rw [if_neg hz,if_neg hz,jk k z v r h.2]
theorem e8 (k z : Str) (v : T) (kvs : List (Str × T)) : av z (put3 k v kvs) = if z = k then some v else av z kvs:=by
 unfold put3
 cases h : kvs.any fun kv => decide (kv.1 = k) with
 | true => rw [if_pos rfl]; exact e7 k z v kvs h
 | false => rw [if_neg Bool.false_ne_true]; exact jk k z v kvs h
theorem lp (k : Str) (v : T) (kvs : List (Str × T)) : (put3 k v kvs).length <= kvs.length + 1:=by
 unfold put3
 split
 ·
  rw [List.length_map]; exact Nat.le_succ _
 ·
  rw [List.length_append]; exact Nat.le_refl _
def Chn (O : List (Str × Str)) : List Str -> Prop
 | a :: b :: r => (a,b) ∈ O /\ Chn O (b :: r)
 | _ => True
theorem Chn.tail {O : List (Str × Str)} {a : Str} : ∀ {l : List Str},Chn O (a :: l) -> Chn O l
 | [],_ => trivial
 | _ :: _,h => h.2
theorem Chn.drop {O : List (Str × Str)} : ∀ {l : List Str} (n : Nat),Chn O l -> Chn O (l.drop n)
 | _,0,h => h
 | [],_ + 1,_ => trivial
 | _ :: l,n + 1,h => Chn.drop (l:=l) n h.tail
theorem Chn.snoc {O : List (Str × Str)} {a b : Str} (hab : (a,b) ∈ O) : ∀ {l : List Str},Chn O (l ++ [a]) -> Chn O (l ++ [a] ++ [b])
 | [],_ => ⟨hab,trivial⟩
 | [c],h => ⟨h.1,hab,trivial⟩
 | c :: d :: l,h => ⟨h.1,Chn.snoc hab (l:=d :: l) h.2⟩
theorem Chn.at' {O : List (Str × Str)} {a b : Str} : ∀ {l : List Str} {i : Nat},Chn O l -> l[i]? = some a -> l[i + 1]? = some b -> (a,b) ∈ O
 | _ :: _ :: _,0,h,e1,e2 => by cases e1; cases e2; exact h.1
 | _ :: l,i + 1,h,e1,e2 => Chn.at' (l:=l) (i:=i) h.tail e1 e2
 | [],_,_,e1,_ => nomatch e1
 | [_],0,_,_,e2 => nomatch e2
def im (O : List (Str × Str)) (R : List Str) : Prop:=R.Nodup /\ 2 <= R.length /\ ∃ c r,R = c :: r /\ Chn O (R ++ [c])
abbrev inO (O : List (Str × Str)) (a b : Str) : Prop:=(a,b) ∈ O
def Ry (O : List (Str × Str)) : Prop:=∃ o ∈ O,RT (inO O) o.2 o.1
structure Stp (O A : List (Str × Str)) (kvs : List (Str × T)) : Prop where
 snd : ∀ k v,av k kvs = some v -> ∃ b,v = .str b /\ (k,b) ∈ O /\ RT (inO O) b k
 all : ∀ o ∈ A,RT (inO O) o.2 o.1 -> (av o.1 kvs).isSome = true
 len : kvs.length <= A.length
theorem Stp.nil {O : List (Str × Str)} : Stp O [] []:=⟨(fun _ _ h => nomatch h),(fun _ h => nomatch h),Nat.le_refl _⟩
theorem Stp.put {O A : List (Str × Str)} {kvs : List (Str × T)} (S : Stp O A kvs) {a b : Str} (ho : (a,b) ∈ O) (hr : RT (inO O) b a) : Stp O (A ++ [(a,b)]) (put3 a (.str b) kvs):=by
 refine ⟨fun k v e => ?_,fun o h r => ?_,?_⟩
 ·
  rw [e8] at e
  by_cases hk : k = a
  ·
   subst hk
   rw [if_pos rfl] at e
   cases e
   exact ⟨b,rfl,ho,hr⟩
  ·
   rw [if_neg hk] at e
   exact S.snd k v e
 ·
  rw [e8]
  by_cases hk : o.1 = a
  ·
   rw [if_pos hk]; rfl
  ·
   rw [if_neg hk]
   rcases List.mem_append.mp h with h | h
   ·
    exact S.all o h r
   ·
    rw [List.mem_singleton.mp h] at hk; exact absurd rfl hk
 ·
  have:=lp a (.str b) kvs
  have:=S.len
  rw [List.length_append,List.length_singleton]
  omega
theorem Stp.skip {O A : List (Str × Str)} {kvs : List (Str × T)} (S : Stp O A kvs) {a b : Str} (hr : ¬ RT (inO O) b a) : Stp O (A ++ [(a,b)]) kvs:=by
 refine ⟨S.snd,fun o h r => ?_,by rw [List.length_append]; exact Nat.le_trans S.len (Nat.le_add_right _ _)⟩
 rcases List.mem_append.mp h with h | h
 ·
  exact S.all o h r
 ·
  rw [List.mem_singleton.mp h] at r; exact absurd r hr
theorem TC.first {α : Type} {R : α -> α -> Prop} {a b : α} (h : TC R a b) : ∃ c,R a c /\ RT R c b:=by
 induction h with
 | base r => exact ⟨_,r,.refl⟩
 | step _ r ih => obtain ⟨c,h1,h2⟩:=ih; exact ⟨c,h1,.step h2 r⟩
theorem RT.tc {α : Type} {R : α -> α -> Prop} {a b c : α} (h : RT R a b) (r : R b c) : TC R a c:=by
 rcases rt_iff.mp h with e | t
 ·
  rw [e] at r; exact .base r
 ·
  exact .step t r
theorem Stp.next {O : List (Str × Str)} {kvs : List (Str × T)} (S : Stp O O kvs) {k : Str} (h : (av k kvs).isSome = true) : ∃ b,av k kvs = some (.str b) /\ (k,b) ∈ O /\ (av b kvs).isSome = true:=by
 obtain ⟨v,e⟩:=Option.isSome_iff_exists.mp h
 obtain ⟨b,rfl,h1,h2⟩:=S.snd k v e
 obtain ⟨u,hu,hr⟩:=(RT.tc h2 (show inO O k b from h1)).first
 exact ⟨b,e,h1,S.all (b,u) hu hr⟩
theorem Stp.ry {O : List (Str × Str)} {kvs : List (Str × T)} (S : Stp O O kvs) : kvs ≠ [] ↔ Ry O:=by
 constructor
 ·
  intro h
  cases kvs with
  | nil => exact absurd rfl h
  | cons q r =>
   obtain ⟨b,_,h1,h2⟩:=S.snd q.1 q.2 (by simp [av])
   exact ⟨(q.1,b),h1,h2⟩
 ·
  rintro ⟨o,ho,hr⟩ e
  have:=S.all o ho hr
  rw [e] at this
  cases this
theorem dt {k : Str} : ∀ {kvs : List (Str × T)},(av k kvs).isSome = true -> k ∈ kvs.map (·.1)
 | [],h => nomatch h
 | (a,u) :: r,h => by
  by_cases e : a = k
  ·
   subst e; exact List.mem_cons_self
  ·
   rw [av,if_neg e] at h
   exact List.mem_cons_of_mem _ (dt h)
theorem wy {W : Wk} (t : Str) : bF [] W t t = true -> Ry W.orders:=by
 intro h
 have h' : TC (lkR [] W) t t:=by unfold bF at h; simpa using h
 have h2 : TC (inO W.orders) t t:=h'.mono fun a b hab => by
  unfold lkR lkW at hab
  rcases List.mem_append.mp hab with h | h
  ·
   exact h
  ·
   obtain ⟨p,_,hp⟩:=List.mem_flatMap.mp h
   unfold lkP at hp
   simp at hp
 obtain ⟨c,h3,h4⟩:=h2.first
 exact ⟨(t,c),h3,h4⟩
theorem wz {W : Wk} (h : WkOk W) (r : Ry W.orders) : ∃ t ∈ W.tasks.map (·.1),bF [] W t t = true:=by
 obtain ⟨o,ho,hr⟩:=r
 refine ⟨o.1,(h.oo o ho).2.1,?_⟩
 have m : ∀ a b,inO W.orders a b -> lkR [] W a b:=fun a b hab => List.mem_append_left _ hab
 have : TC (lkR [] W) o.1 o.1:=by
  have h1 : RT (lkR [] W) o.2 o.1:=hr.mono m
  have h0 : lkR [] W o.1 o.2:=m _ _ ho
  rcases rt_iff.mp h1 with e | t
  ·
   rw [<- e] at h0; exact .base h0
  ·
   exact TC.trans (.base h0) t
 unfold bF
 simpa using this
theorem jl {c : Str} : ∀ {l : List Str},c ∈ l -> ∃ j : Nat,l[j]? = some c /\ ∀ m,m < j -> ¬ l[m]? = some c
 | a :: r,h => by
  by_cases e : a = c
  ·
   subst e; exact ⟨0,rfl,fun m hm => absurd hm (Nat.not_lt_zero _)⟩
  ·
   obtain ⟨j,h1,h2⟩:=jl (l:=r) (by rcases List.mem_cons.mp h with h | h; exact absurd h.symm e; exact h)
   refine ⟨j + 1,h1,fun m hm => ?_⟩
   cases m with
   | zero => exact fun z => e (Option.some.inj z)
   | succ m => exact h2 m (Nat.lt_of_succ_lt_succ hm)
theorem rS {O : List (Str × Str)} (hO : ∀ o ∈ O,o.1 ≠ o.2) {l : List Str} {c : Str} {j : Nat} (nd : l.Nodup) (hc : Chn O (l ++ [c])) (hj : l[j]? = some c) : im O (l.drop j):=by
 have hlt : j < l.length:=by
  have:=List.getElem?_eq_some_iff.mp hj
  exact this.1
 have hd : l.drop j = c :: l.drop (j + 1):=by
  rw [List.drop_eq_getElem_cons hlt]
  have:=(List.getElem?_eq_some_iff.mp hj).2
  rw [this]
 have hch : Chn O (l.drop j ++ [c]):=by
  have:=hc.drop j
  rw [List.drop_append_of_le_length (Nat.le_of_lt hlt)] at this
  exact this
 refine ⟨nd.sublist (List.drop_sublist _ _),?_,c,l.drop (j + 1),hd,hch⟩
 rw [hd] at hch ⊢
 cases hr : l.drop (j + 1) with
 | nil =>
  rw [hr] at hch
  exact absurd rfl (hO _ hch.1)
 | cons a r => simp
section
variable {P : Program} {w : World} {K : PySem.W.Frag} {mg : Str -> Option Value} {base : Heap}
theorem pI {H H2 : Hp3} {p : Addr} {o o' : O3} (h : Sub3 (up3 H p o) H2) : Sub3 (up3 H p o') (up3 H2 p o'):=fun x u e => by
 by_cases hx : x = p
 ·
  subst hx; rw [ai] at e ⊢; exact e
 ·
  rw [aj hx] at e ⊢; exact h x u (by rw [aj hx]; exact e)
def zl : Sp3:=fun ts H Q => ∃ (O : List (Str × Str)),ts = [.tup (O.map orT)] /\ O.length <= 100 /\ ∀ p kvs,H p = none -> Stp O O kvs -> Q (.ref p) (up3 H p (.dct kvs))
def zm : Sp3:=fun ts H Q => ∃ (O : List (Str × Str)) (p : Addr) (kvs : List (Str × T)) (s : Str),ts = [.ref p,.str s] /\ H p = some (.dct kvs) /\ Stp O O kvs /\ O.length <= 100 /\ (∀ o ∈ O,o.1 ≠ o.2) /\ (av s kvs).isSome = true /\ ∀ R,im O R -> Q (sT R) H
def sV (C : Addr) : dZ:=fun ts H Q E => ∃ (W : Wk),ts = [W.enc] /\ WkOk W /\ (¬ Ry W.orders -> Q .non H) /\ (Ry W.orders -> ∀ R,im W.orders R -> E C [("ring",sT R)] H)
abbrev cx : List Str:=["orders","steps","one","other"]
theorem sc_steps_on_rings : FnScope cx ["orders"] (ah (top 19)):=aR
theorem du {f : Addr} {fd : FuncData} (g : G3 K mg "steps_on_rings" (top 19) ["orders"] f fd) (B : Bl mg) (F_reached : Cal P w K mg base 1 "reached" (top 2) ["links","start"] rO) : Cal P w K mg base 2 "steps_on_rings" (top 19) ["orders"] zl:=by
 refine ⟨f,fd,g,?_⟩
 refine fn3 g.fn sc_steps_on_rings (fun ts H Q h => ?_) (fun cdv A outer s H E ts H3 Q hr h => ?_)
 ·
  obtain ⟨O,rfl,_⟩:=h; rfl
 ·
  have hu30:=Room.u30 hr
  have hu31:=Room.u31 hr
  have hu1:=Room.u1 hr
  obtain ⟨O,rfl,hO,k⟩:=h
  refine ⟨_,(ae (ak (i:=1) sc_steps_on_rings.nd kT)
    (ae (aP PassesOwn.never rfl (bn (v3 0)) (cg (n:=2) rfl (ax (ao (i:=2) sc_steps_on_rings.nd) (ax (ao (i:=3) sc_steps_on_rings.nd) bM))) (ag (a8 (gZ hu1 (v3 2) (aD F_reached hr rfl (aa (v3 0) (aa (v3 3) ac)))) (ag (gN hu1 (v3 1) (v3 2) (v3 3))) aG)))
    (ag (aF (v3 1))))),?_⟩
  rw [show ay cx [T.tup (O.map orT)] = [some (T.tup (O.map orT)),none,none,none] from rfl]
  have hsz : sizeLine = 16777216:=rfl
  have k':=Box.mk k
  clear k
  walk_at "rd"
  intro p hp
  refine aS orT O (fun A σ H => ∃ (kvs : List (Str × T)) (v2 v3 : Option T),σ = [some (.tup (O.map orT)),some (.ref p),v2,v3] /\ Stp O A kvs /\ H p = some (.dct kvs) /\ Sub3 (up3 H3 p (.dct kvs)) H) ⟨[],_,_,rfl,Stp.nil,ai,Sub3.refl⟩ ?_ ?_
  ·
   rintro σ H ⟨kvs,v2,v3,rfl,S,hH,hS⟩
   refine ⟨trivial,?_⟩
   have kq:=k'.out p kvs hp S
   clear k'
   walk_at "rd"
   exact Fin3.of hS kq
  ·
   rintro A ⟨a,b⟩ B σ H N e ⟨kvs,v2,v3,rfl,S,hH,hS⟩ hN
   refine ⟨trivial,?_⟩
   have hl : A.length < O.length:=by rw [e,List.length_append]; simp
   have hk : kvs.length <= 100:=Nat.le_trans S.len (by omega)
   have ho : (a,b) ∈ O:=by rw [e]; simp
   have hN':=Box.mk hN
   clear hN e k'
   simp only [orT]
   walk_at "rd"
   refine ⟨trivial,_,O,b,rfl,.inr rfl,hO,fun q F hq hF => ?_⟩
   have hpq : p ≠ q:=a5 hH hq
   have hS2 : Sub3 (up3 H3 p (.dct kvs)) (up3 H q (.dct F)):=hS.trans (Sub3.new hq)
   have hF':=hF a
   have g1 : up3 H q (.dct F) q = some (.dct F):=ai
   have g2 : up3 H q (.dct F) p = some (.dct kvs):=by rw [aj hpq]; exact hH
   generalize up3 H q (.dct F) = H2 at g1 g2 hS2
   clear hF hH hS
   cases hs : (av a F).isSome with
   | true =>
    have hr : RT (inO O) b a:=hF'.mp hs
    have hn:=Box.mk (hN'.out [some (.tup (O.map orT)),some (.ref p),some (.str a),some (.str b)] (up3 H2 p (.dct (put3 a (.str b) kvs))) ⟨_,_,_,rfl,S.put ho hr,ai,pI hS2⟩)
    clear hN' hF'
    walk_at "rd"
    exact ⟨by omega,hn.out⟩
   | false =>
    have hr : ¬ RT (inO O) b a:=fun h => by rw [hF'.mpr h] at hs; cases hs
    have hn:=Box.mk (hN'.out [some (.tup (O.map orT)),some (.ref p),some (.str a),some (.str b)] H2 ⟨_,_,_,rfl,S.skip hr,g2,hS2⟩)
    clear hN' hF'
    walk_at "rd"
    exact hn.out
abbrev dW : List Str:=["steps","start","walked","task"]
theorem sc_ring_from : FnScope dW ["steps","start"] (ah (top 20)):=aR
theorem io {f : Addr} {fd : FuncData} (g : G3 K mg "ring_from" (top 20) ["steps","start"] f fd) (B : Bl mg) : Cal P w K mg base 1 "ring_from" (top 20) ["steps","start"] zm:=by
 refine ⟨f,fd,g,?_⟩
 refine fn3 g.fn sc_ring_from (fun ts H Q h => ?_) (fun cdv A outer s H E ts H3 Q hr h => ?_)
 ·
  obtain ⟨O,p,kvs,s,rfl,_⟩:=h; rfl
 ·
  have hu30:=Room.u30 hr
  have hu31:=Room.u31 hr
  have hu1:=Room.u1 hr
  obtain ⟨O,p,kvs,s0,rfl,hp,S,hO,hne,hs,k⟩:=h
  refine ⟨_,(ae (ak (i:=2) sc_ring_from.nd (bb ac))
    (ae (ak (i:=3) sc_ring_from.nd (v3 1))
    (ae (eL PassesOwn.never (aU (eQ hu31) (v3 3) (v3 2) rfl) (ae (ba (br PySem.F.plainAttrs_list PySem.F.slot_list_append PySem.F.type_list_append aX (v3 2) (aa (v3 3) ac)))
     (ag (ak (i:=3) sc_ring_from.nd (gM hu1 (v3 0) (v3 3))))))
    (ag (aF (aI bD rfl B.tuple_ bE (aa (cw (v3 2) (cu (br PySem.F.plainAttrs_list PySem.F.slot_list_index PySem.F.type_list_index qY (v3 2) (aa (v3 3) ac))) cr) ac))))))),?_⟩
  rw [show ay dW [T.ref p,T.str s0] = [some (T.ref p),some (T.str s0),none,none] from rfl]
  have hsz : sizeLine = 16777216:=rfl
  have k':=Box.mk k
  clear k
  walk_at "rd"
  refine ⟨by omega,fun q hq => ?_⟩
  have hpq : p ≠ q:=a5 hp hq
  refine ⟨fun m σ H => ∃ (l : List Str) (c : Str),σ = [some (.ref p),some (.str s0),some (.ref q),some (.str c)] /\ H = up3 H3 q (.lst (l.map T.str)) /\ l.Nodup /\ Chn O (l ++ [c]) /\ (∀ x ∈ l,(av x kvs).isSome = true) /\ (av c kvs).isSome = true /\ m = kvs.length + 1 - l.length,⟨_,[],s0,rfl,rfl,List.nodup_nil,trivial,(fun _ h => nomatch h),hs,rfl⟩,?_⟩
  rintro m σ H ⟨l,c,rfl,rfl,nd,hc,hin,hcs,rfl⟩
  have hll : l.length <= kvs.length:=by
   have:=j5 (m:=kvs.map (·.1)) nd fun x hx => dt (hin x hx)
   rwa [List.length_map] at this
  have hk1:=S.len
  have g1 : up3 H3 q (.lst (l.map T.str)) q = some (.lst (l.map T.str)):=ai
  have g2 : up3 H3 q (.lst (l.map T.str)) p = some (.dct kvs):=by rw [aj hpq]; exact hp
  have i1 : pl 20 (T.str c) = true:=rfl
  have i2:=bV l
  have e1 : bR true (T.str c) (l.map T.str) = !decide (c ∈ l):=by
   unfold bR
   have : (T.str c ∈ l.map T.str) ↔ c ∈ l:=bO cH
   simp only [this]
   simp
  obtain ⟨b,hb1,hb2,hb3⟩:=S.next hcs
  have nd':=Box.mk nd
  have hc':=Box.mk hc
  have hin':=Box.mk hin
  clear nd hc hin
  walk_at "rd"
  refine ⟨trivial,trivial,?_⟩
  by_cases hm : c ∈ l
  ·
   rw [if_neg (by simp [hm])]
   refine ⟨⟨trivial,trivial⟩,?_⟩
   rw [dC,b5]
   obtain ⟨j,hj,hjm⟩:=jl hm
   refine ⟨j,hj,hjm,fun p2 hp2 => ?_⟩
   rw [cK,<- List.map_drop]
   exact Fin3.of ((Sub3.new hq).trans (Sub3.new hp2)) (k'.out _ (rS hne nd'.out hc'.out hj))
  ·
   rw [if_pos (by simp [hm])]
   have hlt : l.length + 1 <= kvs.length:=by
    have:=j5 (m:=kvs.map (·.1)) (cA nd'.out hm) fun x hx => by
     rcases List.mem_append.mp hx with hx | hx
     ·
      exact dt (hin'.out x hx)
     ·
      rw [List.mem_singleton.mp hx]; exact dt hcs
    rwa [List.length_map,List.length_append] at this
   refine ⟨⟨trivial,trivial⟩,by omega,_,?_,l ++ [c],b,rfl,by rw [List.map_append]; rfl,cA nd'.out hm,hc'.out.snoc hb2,fun x hx => ?_,hb3,rfl⟩
   ·
    rw [List.length_append,List.length_singleton]; omega
   ·
    rcases List.mem_append.mp hx with hx | hx
    ·
     exact hin'.out x hx
    ·
     rw [List.mem_singleton.mp hx]; exact hcs
abbrev cY : List Str:=["works","steps"]
theorem sc_check_rings : FnScope cY ["works"] (ah (top 21)):=aR
theorem e9 {f : Addr} {fd : FuncData} (g : G3 K mg "check_rings" (top 21) ["works"] f fd) (B : Bl mg) {C_Ring : Addr} (X_Ring : ExcC P w K mg base "Ring" C_Ring ["ring"]) (F_steps_on_rings : Cal P w K mg base 2 "steps_on_rings" (top 19) ["orders"] zl) (F_ring_from : Cal P w K mg base 1 "ring_from" (top 20) ["steps","start"] zm) : CalX P w K mg base 3 "check_rings" (top 21) ["works"] (sV C_Ring):=by
 refine ⟨f,fd,g,?_⟩
 refine fnX g.fn sc_check_rings (fun ts H Q E h => ?_) (fun cdv A outer s H E ts H3 Q E3 hr h hM => ?_)
 ·
  obtain ⟨W,rfl,_⟩:=h; rfl
 ·
  have hu30:=Room.u30 hr
  have hu31:=Room.u31 hr
  have hu1:=Room.u1 hr
  obtain ⟨⟨tk,ors,prs,row⟩,rfl,hW,k1,k2⟩:=h
  refine ⟨_,(ae (ak (i:=1) sc_check_rings.nd (aD F_steps_on_rings hr rfl (aa (aw ix3 (v3 0) af) ac)))
    (ag (a8 (aU xE (aB qW rfl B.len_ bX (aa (v3 1) ac)) af) (ag (dG X_Ring hM (hr.mono (by decide)) rfl rfl (aa (aD F_ring_from hr rfl (aa (v3 1) (aa (aw ix3 (aI (nV hr) rfl B.list_ d8 (aa (v3 1) ac)) af) ac))) ac))) aG))),?_⟩
  rw [show ay cY [Wk.enc ⟨tk,ors,prs,row⟩] = [some (T.tup [T.tup (tk.map tkT),T.tup (ors.map orT),T.tup (prs.map prT),T.tup (row.map T.str)]),none] from rfl]
  have hsz : sizeLine = 16777216:=rfl
  have k1':=Box.mk k1
  have k2':=Box.mk k2
  clear k1 k2
  have hos : ors.length <= 100:=Nat.le_trans hW.os (by decide)
  have hoo : ∀ o ∈ ors,o.1 ≠ o.2:=fun o ho => (hW.oo o ho).1
  refine au fun R0 hR0 => ?_
  walk_at "rd"
  refine ⟨ors,rfl,hos,fun p kvs hp S => ?_⟩
  walk_at "nx"
  have g1 : up3 H3 p (.dct kvs) p = some (.dct kvs):=ai
  have hS : Sub3 H3 (up3 H3 p (.dct kvs)):=Sub3.new hp
  generalize up3 H3 p (.dct kvs) = H4 at g1 hS
  have hry:=S.ry
  walk_at "rd"
  cases kvs with
  | nil =>
   rw [if_neg (by decide)]
   exact Fin3.of hS (k1'.out fun r => absurd rfl (hry.mpr r))
  | cons q0 r0 =>
   rw [if_pos (decide_eq_true (by simp only [List.length_cons]; omega))]
   intro p2 hp2
   rw [List.map_cons,at0,b5]
   refine ⟨ors,p,q0 :: r0,q0.1,rfl,by rw [aj (a5 g1 hp2)]; exact g1,S,hos,hoo,by simp [av],fun R hR => ⟨trivial,H3,hS.trans (Sub3.new hp2),k2'.out (hry.mp (by simp)) R hR⟩⟩
noncomputable def shg (gs : List (List Str)) (a b : Str) : Bool:=gs.any fun g => decide (a ∈ g) && decide (b ∈ g)
noncomputable def trn (gs : List (List Str)) (ps : List (Str × Str × Str)) : Option (Str × Str × Str):=ps.find? fun p => decide (p.1 = ("apart" : Str)) && shg gs p.2.1 p.2.2
theorem ei {α : Type} {p : α -> Bool} {A B : List α} {x : α} (h : ∀ y ∈ A,p y = false) (hx : p x = true) : (A ++ x :: B).find? p = some x:=by
 rw [List.find?_append,List.find?_eq_none.mpr (fun y hy => by rw [h y hy]; exact Bool.false_ne_true),Option.none_or,List.find?_cons_of_pos hx]
theorem er {α : Type} {p : α -> Bool} {A : List α} (h : ∀ y ∈ A,p y = false) : A.find? p = none:=List.find?_eq_none.mpr fun y hy => by rw [h y hy]; exact Bool.false_ne_true
theorem iq (a : Str) (g : List Str) : bR false (T.str a) (g.map T.str) = decide (a ∈ g):=by
 unfold bR
 have : (T.str a ∈ g.map T.str) ↔ a ∈ g:=bO cH
 simp only [this]
 simp
def sW : Sp3:=fun ts H Q => ∃ (gs : List (List Str)) (a b : Str),ts = [.tup (gs.map sT),.str a,.str b] /\ gs.length <= 100 /\ Q (.bl (shg gs a b)) H
def pJ (C : Addr) : dZ:=fun ts H Q E => ∃ (W : Wk) (gs : List (List Str)),ts = [W.enc,.tup (gs.map sT)] /\ WkOk W /\ gs.length <= 100 /\ (trn gs W.pairs = none -> Q .non H) /\ ∀ p,trn gs W.pairs = some p -> E C [("one",.str p.2.1),("other",.str p.2.2)] H
abbrev bi : List Str:=["groups","one","other"]
theorem fb : FnScope bi bi (ah (top 22)):=aR
theorem fc {f : Addr} {fd : FuncData} (g : G3 K mg "share_group" (top 22) bi f fd) (B : Bl mg) : Cal P w K mg base 1 "share_group" (top 22) bi sW:=by
 refine ⟨f,fd,g,?_⟩
 refine fn3 g.fn fb (fun ts H Q h => ?_) (fun cdv A outer s H E ts H3 Q hr h => ?_)
 ·
  obtain ⟨gs,a,b,rfl,_⟩:=h; rfl
 ·
  have hu30:=Room.u30 hr
  have hu31:=Room.u31 hr
  have hu1:=Room.u1 hr
  obtain ⟨gs,a,b,rfl,hl,k⟩:=h
  refine ⟨_,(ag (aF (aB (jU rfl) rfl B.any_ jF (aa (b8 rfl (bS (n0:=(ah (top 22)).names) (N:=bi) (N':=["group","one","other"]) (nt:=1) (cap:=[1,2]) rfl rfl (by decide +kernel)) (bn (v3 0)) (fun cl pins s H C0 fp => ⟨(ao (i:=0) (show List.Nodup [("group" : Str),("one" : Str),("other" : Str)] by decide +kernel)),b7,(mO (bQ (dP hu31) (v3 1) (v3 0) rfl) (gG (bQ (dP hu31) (v3 2) (v3 0) rfl)))⟩)) ac)))),?_⟩
  rw [show ay bi [T.tup (gs.map sT),T.str a,T.str b] = [some (T.tup (gs.map sT)),some (T.str a),some (T.str b)] from rfl]
  have hsz : sizeLine = 16777216:=rfl
  have k':=Box.mk k
  clear k
  walk_at "rd"
  walk_at "cp"
  refine bw sT (fun g => .bl (decide (a ∈ g) && decide (b ∈ g))) gs [some (.str a),some (.str b)] trivial (by omega) (fun g hg Q' hq => ?_) (fun p hp => ?_)
  ·
   have i1 : pl 20 (T.str a) = true:=rfl
   have i3 : pl 20 (T.str b) = true:=rfl
   have i2:=bV g
   have m1:=iq a g
   have m2:=iq b g
   clear k'
   simp only [sT]
   walk_at "rd"
   cases ha : decide (a ∈ g) with
   | true =>
    rw [ha] at hq
    simp only [Bool.true_and] at hq
    walk_at "rd"
    exact ⟨trivial,trivial,trivial,trivial,trivial⟩
   | false =>
    rw [ha] at hq
    simp only [Bool.false_and] at hq
    walk_at "rd"
    exact ⟨trivial,trivial,trivial⟩
  ·
   rw [show gs.map (fun g => T.bl (decide (a ∈ g) && decide (b ∈ g))) = (gs.map fun g => decide (a ∈ g) && decide (b ∈ g)).map T.bl by rw [List.map_map]; rfl]
   walk_at "rd"
   rw [bx,b5,List.any_map]
   exact Fin3.of (Sub3.new hp) k'.out
end
structure Hs (H : Hp3) (fs : List (Addr × O3)) : Prop where
 at' : ∀ q ∈ fs,H q.1 = some q.2
 nd : (fs.map (·.1)).Nodup
theorem Hs.nil {H : Hp3} : Hs H []:=⟨fun _ h => (nomatch h),List.nodup_nil⟩
theorem Hs.hd {H : Hp3} {p : Addr} {o : O3} {fs : List (Addr × O3)} (w : Hs H ((p,o) :: fs)) : H p = some o:=w.at' (p,o) List.mem_cons_self
theorem Hs.tl {H : Hp3} {p : Addr × O3} {fs : List (Addr × O3)} (w : Hs H (p :: fs)) : Hs H fs:=⟨fun q hq => w.at' q (List.mem_cons_of_mem _ hq),(List.nodup_cons.mp w.nd).2⟩
theorem Hs.new {H : Hp3} {fs : List (Addr × O3)} (w : Hs H fs) {p : Addr} {o : O3} (hp : H p = none) : Hs (up3 H p o) ((p,o) :: fs):=by
 have ne : ∀ q ∈ fs,q.1 ≠ p:=fun q hq e => by have:=w.at' q hq; rw [e,hp] at this; cases this
 refine ⟨fun q hq => ?_,?_⟩
 ·
  rcases List.mem_cons.mp hq with rfl | hq
  ·
   exact ai
  ·
   rw [aj (ne q hq)]; exact w.at' q hq
 ·
  rw [List.map_cons,List.nodup_cons]
  refine ⟨fun h => ?_,w.nd⟩
  obtain ⟨q,hq,e⟩:=List.mem_map.mp h
  exact ne q hq e
theorem Hs.set {H : Hp3} {fs : List (Addr × O3)} {p : Addr} {o : O3} (w : Hs H ((p,o) :: fs)) (o' : O3) : Hs (up3 H p o') ((p,o') :: fs):=by
 have nd:=w.nd
 rw [List.map_cons,List.nodup_cons] at nd
 refine ⟨fun q hq => ?_,by rw [List.map_cons,List.nodup_cons]; exact nd⟩
 rcases List.mem_cons.mp hq with rfl | hq
 ·
  exact ai
 ·
  have ne : q.1 ≠ p:=fun e => nd.1 (List.mem_map.mpr ⟨q,hq,e⟩)
  rw [aj ne]; exact w.at' q (List.mem_cons_of_mem _ hq)
theorem Hs.sub {H : Hp3} {fs gs : List (Addr × O3)} (w : Hs H fs) (h : gs.Sublist fs) : Hs H gs:=⟨fun q hq => w.at' q (h.subset hq),List.Nodup.sublist (h.map _) w.nd⟩
theorem Hs.of {H : Hp3} {p : Addr} {o : O3} (h : H p = some o) : Hs H [(p,o)]:=⟨fun q hq => by rw [List.mem_singleton.mp hq]; exact h,by simp⟩
theorem Hs.le {H H' : Hp3} {fs : List (Addr × O3)} (w : Hs H fs) (h : Sub3 H H') : Hs H' fs:=⟨fun q hq => h _ _ (w.at' q hq),w.nd⟩
noncomputable def dJ (ks : List Str) (k : Str) : Bool:=decide (ks = []) || decide (k ∈ ks)
section
variable {P : Program} {w : World} {K : PySem.W.Frag} {mg : Str -> Option Value} {base : Heap}
def sX : Sp3:=fun ts H Q => ∃ (ks : List Str) (k : Str),ts = [sT ks,.str k] /\ Q (.bl (dJ ks k)) H
noncomputable def mal (W : Wk) (g : List Str) (kd : Str) : Bool:=((W.tasks.filter fun t => decide (t.1 ∈ g)).map fun t => dJ t.2.2 kd).all id
noncomputable def nst (W : Wk) (gs : List (List Str)) : Option (List Str):=gs.find? fun g => !(W.row.any fun kd => mal W g kd)
def sY : Sp3:=fun ts H Q => ∃ (W : Wk) (g : List Str) (kd : Str),ts = [W.enc,sT g,.str kd] /\ WkOk W /\ Q (.bl (mal W g kd)) H
def sZ (C : Addr) : dZ:=fun ts H Q E => ∃ (W : Wk) (gs : List (List Str)),ts = [W.enc,.tup (gs.map sT)] /\ WkOk W /\ gs.length <= 100 /\ (nst W gs = none -> Q .non H) /\ ∀ g,nst W gs = some g -> E C [("tasks",sT g)] H
def zn (CR CT CN : Addr) : dZ:=fun ts H Q E => ∃ (W : Wk),ts = [W.enc] /\ WkOk W /\ (Ry W.orders -> ∀ R,im W.orders R -> E CR [("ring",sT R)] H) /\
 (¬ Ry W.orders -> (∀ p,trn (bp W) W.pairs = some p -> E CT [("one",.str p.2.1),("other",.str p.2.2)] H) /\ (trn (bp W) W.pairs = none -> (∀ g,nst W (bp W) = some g -> E CN [("tasks",sT g)] H) /\ (nst W (bp W) = none -> Q .non H)))
theorem rT (W : Wk) : (bp W).length <= W.tasks.length:=by
 unfold bp
 rw [List.length_map]
 exact Nat.le_trans (List.length_filter_le _ _) (by rw [List.length_map]; exact Nat.le_refl _)
abbrev bt : List Str:=["kinds","kind"]
theorem ff : FnScope bt bt (ah (top 24)):=aR
theorem fg {f : Addr} {fd : FuncData} (g : G3 K mg "may_be_done" (top 24) bt f fd) (B : Bl mg) : Cal P w K mg base 1 "may_be_done" (top 24) bt sX:=by
 refine ⟨f,fd,g,?_⟩
 refine fn3 g.fn ff (fun ts H Q h => ?_) (fun cdv A outer s H E ts H3 Q hr h => ?_)
 ·
  obtain ⟨ks,k,rfl,_⟩:=h; rfl
 ·
  have hu30:=Room.u30 hr
  have hu31:=Room.u31 hr
  have hu1:=Room.u1 hr
  obtain ⟨ks,kd,rfl,k⟩:=h
  refine ⟨_,(ag (aF (sy (bQ (bG hu30) (aB ci rfl B.len_ bX (aa (v3 0) ac)) af) (gG (bQ (dP hu31) (v3 1) (v3 0) rfl))))),?_⟩
  rw [show ay bt [sT ks,T.str kd] = [some (T.tup (ks.map T.str)),some (T.str kd)] from rfl]
  have i1 : pl 20 (T.str kd) = true:=rfl
  have i2:=bV ks
  have e1 : bR false (T.str kd) (ks.map T.str) = decide (kd ∈ ks):=by
   unfold bR
   have : (T.str kd ∈ ks.map T.str) ↔ kd ∈ ks:=bO cH
   simp only [this]
   simp
  walk_at "rd"
  unfold dJ at k
  cases ks with
  | nil =>
   simp only [decide_true,Bool.true_or,List.length_nil,if_true] at k ⊢
   exact Fin3.of Sub3.refl k
  | cons y r =>
   have : ¬ (((r.length + 1 : Nat)) : Int) = 0:=by omega
   simp only [List.length_cons,this,decide_false,Bool.false_eq_true,if_false] at k ⊢
   exact ⟨trivial,trivial,Fin3.of Sub3.refl (by simpa using k)⟩
abbrev aM : List Str:=["works","group","kind"]
theorem c8 : FnScope aM aM (ah (top 25)):=aR
theorem c9 {f : Addr} {fd : FuncData} (g : G3 K mg "may_all_be_done" (top 25) aM f fd) (B : Bl mg) (F_may_be_done : Cal P w K mg base 1 "may_be_done" (top 24) ["kinds","kind"] sX) : Cal P w K mg base 2 "may_all_be_done" (top 25) aM sY:=by
 refine ⟨f,fd,g,?_⟩
 refine fn3 g.fn c8 (fun ts H Q h => ?_) (fun cdv A outer s H E ts H3 Q hr h => ?_)
 ·
  obtain ⟨W,g,kd,rfl,_⟩:=h; rfl
 ·
  have hu30:=Room.u30 hr
  have hu31:=Room.u31 hr
  have hu1:=Room.u1 hr
  obtain ⟨⟨tk,ors,prs,row⟩,g,kd,rfl,hW,k⟩:=h
  refine ⟨_,(ag (aF (aB (nE rfl) rfl B.all_ nk (aa (b8 rfl (bS (n0:=(ah (top 25)).names) (N:=aM) (N':=["task","kind","group"]) (nt:=1) (cap:=[2,1]) rfl rfl (by decide +kernel)) (bn (aw ix3 (v3 0) af)) (fun cl pins s H C0 fp => ⟨(ao (i:=0) (show List.Nodup [("task" : Str),("kind" : Str),("group" : Str)] by decide +kernel)),(d4 (aU (dP hu31) (aw ix3 (v3 0) af) (v3 2) rfl)),(aD F_may_be_done hr rfl (aa (aw ix3 (v3 0) af) (aa (v3 1) ac)))⟩)) ac)))),?_⟩
  rw [show ay aM [Wk.enc ⟨tk,ors,prs,row⟩,sT g,T.str kd] = [some (T.tup [T.tup (tk.map tkT),T.tup (ors.map orT),T.tup (prs.map prT),T.tup (row.map T.str)]),some (T.tup (g.map T.str)),some (T.str kd)] from rfl]
  have hsz : sizeLine = 16777216:=rfl
  have t8 : tk.length <= 8:=hW.t8
  have k':=Box.mk k
  clear k
  walk_at "rd"
  walk_at "cp"
  refine c7 tkT (fun t => T.bl (dJ t.2.2 kd)) (fun t => decide (t.1 ∈ g)) tk [some (.str kd),some (.tup (g.map T.str))] trivial (by omega) (fun t ht Q' hq => ?_) (fun t ht hpt Q' hq => ?_) (fun p hp => ?_)
  ·
   obtain ⟨nm,len,ks⟩:=t
   have i1 : pl 20 (T.str nm) = true:=rfl
   have i2:=bV g
   have m1:=iq nm g
   clear k'
   simp only [tkT]
   dsimp only at hq
   walk_at "rd"
   exact ⟨trivial,trivial,trivial⟩
  ·
   obtain ⟨nm,len,ks⟩:=t
   clear k'
   simp only [tkT]
   walk_at "rd"
   exact ⟨ks,kd,rfl,hq⟩
  ·
   rw [show (tk.filter fun t => decide (t.1 ∈ g)).map (fun t => T.bl (dJ t.2.2 kd)) = ((tk.filter fun t => decide (t.1 ∈ g)).map fun t => dJ t.2.2 kd).map T.bl by rw [List.map_map]; rfl]
   walk_at "rd"
   rw [bx,b5]
   exact Fin3.of (Sub3.new hp) k'.out
abbrev bZ : List Str:=["works","groups","group"]
theorem sc_check_stands : FnScope bZ ["works","groups"] (ah (top 26)):=aR
theorem d0 {f : Addr} {fd : FuncData} (g : G3 K mg "check_stands" (top 26) ["works","groups"] f fd) (B : Bl mg) {C_NoStand : Addr} (X_NoStand : ExcC P w K mg base "NoStand" C_NoStand ["tasks"]) (F_may_all_be_done : Cal P w K mg base 2 "may_all_be_done" (top 25) ["works","group","kind"] sY) : CalX P w K mg base 3 "check_stands" (top 26) ["works","groups"] (sZ C_NoStand):=by
 refine ⟨f,fd,g,?_⟩
 refine fnX g.fn sc_check_stands (fun ts H Q E h => ?_) (fun cdv A outer s H E ts H3 Q E3 hr h hM => ?_)
 ·
  obtain ⟨W,gs,rfl,_⟩:=h; rfl
 ·
  have hu30:=Room.u30 hr
  have hu31:=Room.u31 hr
  have hu1:=Room.u1 hr
  obtain ⟨⟨tk,ors,prs,row⟩,gs,rfl,hW,hl,k1,k2⟩:=h
  refine ⟨_,(ag (aP PassesOwn.leaving rfl (bn (v3 1)) (ao (i:=2) sc_check_stands.nd) (ag (a8 (jz (bj (aB (jU rfl) rfl B.any_ jF (aa (b8 rfl (bS (n0:=(ah (top 26)).names) (N:=bZ) (N':=["kind","works","group"]) (nt:=1) (cap:=[0,2]) rfl rfl (by decide +kernel)) (bn (aw ix3 (v3 0) af)) (fun cl pins s H C0 fp => ⟨(ao (i:=0) (show List.Nodup [("kind" : Str),("works" : Str),("group" : Str)] by decide +kernel)),b7,(aD F_may_all_be_done hr rfl (aa (v3 1) (aa (v3 2) (aa (v3 0) ac))))⟩)) ac)))) (ag (dG X_NoStand hM (hr.mono (by decide)) rfl rfl (aa (v3 2) ac))) aG)))),?_⟩
  rw [show ay bZ [Wk.enc ⟨tk,ors,prs,row⟩,T.tup (gs.map sT)] = [some (T.tup [T.tup (tk.map tkT),T.tup (ors.map orT),T.tup (prs.map prT),T.tup (row.map T.str)]),some (T.tup (gs.map sT)),none] from rfl]
  have hsz : sizeLine = 16777216:=rfl
  have r8 : row.length <= 8:=hW.r8
  have k1':=Box.mk k1
  have k2':=Box.mk k2
  clear k1 k2
  walk_at "rd"
  refine aS sT gs (fun A σ H => ∃ (v2 : Option T),σ = [some (T.tup [T.tup (tk.map tkT),T.tup (ors.map orT),T.tup (prs.map prT),T.tup (row.map T.str)]),some (.tup (gs.map sT)),v2] /\ Sub3 H3 H /\ ∀ y ∈ A,(!(row.any fun kd => mal ⟨tk,ors,prs,row⟩ y kd)) = false) ⟨_,rfl,Sub3.refl,(fun _ h => nomatch h)⟩ ?_ ?_
  ·
   rintro σ H ⟨v2,rfl,hS,hno⟩
   exact ⟨trivial,Fin3.of hS (k1'.out (er hno))⟩
  ·
   rintro A g B σ H N e ⟨v2,rfl,hS,hno⟩ hN
   refine ⟨trivial,?_⟩
   have hN':=Box.mk hN
   have hno':=Box.mk hno
   have e':=Box.mk e
   clear hN hno e
   simp only [sT]
   walk_at "rd"
   walk_at "cp"
   refine bw T.str (fun kd => .bl (mal ⟨tk,ors,prs,row⟩ g kd)) row [some (T.tup [T.tup (tk.map tkT),T.tup (ors.map orT),T.tup (prs.map prT),T.tup (row.map T.str)]),some (.tup (g.map T.str))] trivial (by omega) (fun kd hkd Q' hq => ?_) (fun p hp => ?_)
   ·
    clear hN' hno' e' k1' k2'
    walk_at "rd"
    exact ⟨⟨tk,ors,prs,row⟩,g,kd,rfl,hW,hq⟩
   ·
    rw [show row.map (fun kd => T.bl (mal ⟨tk,ors,prs,row⟩ g kd)) = (row.map fun kd => mal ⟨tk,ors,prs,row⟩ g kd).map T.bl by rw [List.map_map]; rfl,bx,b5,List.any_map]
    have hS2:=hS.trans (Sub3.new (o:=.lst ((row.map fun kd => mal ⟨tk,ors,prs,row⟩ g kd).map T.bl)) hp)
    generalize up3 H p (.lst ((row.map fun kd => mal ⟨tk,ors,prs,row⟩ g kd).map T.bl)) = H2 at hS2
    show if (!(row.any fun kd => mal ⟨tk,ors,prs,row⟩ g kd)) = true then _ else _
    cases hb : row.any fun kd => mal ⟨tk,ors,prs,row⟩ g kd with
    | true =>
     rw [if_neg (by decide)]
     exact hN'.out _ _ ⟨_,rfl,hS2,fun y hy => by
      rcases List.mem_append.mp hy with hy | hy
      ·
       exact hno'.out y hy
      ·
       rw [List.mem_singleton.mp hy,hb]; rfl⟩
    | false =>
     rw [if_pos (by decide)]
     have kq:=k2'.out g (by show List.find? _ gs = _; rw [e'.out]; exact ei hno'.out (by show (!(row.any fun kd => mal ⟨tk,ors,prs,row⟩ g kd)) = true; rw [hb]; rfl))
     clear hN' hno' e' k1' k2'
     walk_at "rd"
     exact ⟨trivial,H3,hS2,kq⟩
abbrev dw : List Str:=["works","groups","word","one","other"]
theorem sc_check_torn : FnScope dw ["works","groups"] (ah (top 23)):=aR
theorem fy {f : Addr} {fd : FuncData} (g : G3 K mg "check_torn" (top 23) ["works","groups"] f fd) (B : Bl mg) {C_Torn : Addr} (X_Torn : ExcC P w K mg base "Torn" C_Torn ["one","other"]) (F_share_group : Cal P w K mg base 1 "share_group" (top 22) ["groups","one","other"] sW) : CalX P w K mg base 3 "check_torn" (top 23) ["works","groups"] (pJ C_Torn):=by
 refine ⟨f,fd,g,?_⟩
 refine fnX g.fn sc_check_torn (fun ts H Q E h => ?_) (fun cdv A outer s H E ts H3 Q E3 hr h hM => ?_)
 ·
  obtain ⟨W,gs,rfl,_⟩:=h; rfl
 ·
  have hu30:=Room.u30 hr
  have hu31:=Room.u31 hr
  have hu1:=Room.u1 hr
  obtain ⟨⟨tk,ors,prs,row⟩,gs,rfl,hW,hl,k1,k2⟩:=h
  refine ⟨_,(ag (aP PassesOwn.leaving rfl (bn (aw ix3 (v3 0) af)) (cg (n:=3) rfl (ax (ao (i:=2) sc_check_torn.nd) (ax (ao (i:=3) sc_check_torn.nd) (ax (ao (i:=4) sc_check_torn.nd) bM)))) (ag (a8 (PW3.pt (ce (aU (bG hu30) (v3 2) bf) (b6 (bj (aD F_share_group hr rfl (aa (v3 1) (aa (v3 3) (aa (v3 4) ac)))))))) (ag (dG X_Torn hM (hr.mono (by decide)) rfl rfl (aa (v3 3) (aa (v3 4) ac)))) aG)))),?_⟩
  rw [show ay dw [Wk.enc ⟨tk,ors,prs,row⟩,T.tup (gs.map sT)] = [some (T.tup [T.tup (tk.map tkT),T.tup (ors.map orT),T.tup (prs.map prT),T.tup (row.map T.str)]),some (T.tup (gs.map sT)),none,none,none] from rfl]
  have hsz : sizeLine = 16777216:=rfl
  have k1':=Box.mk k1
  have k2':=Box.mk k2
  clear k1 k2
  walk_at "rd"
  refine aS prT prs (fun A σ H => ∃ (v2 v3 v4 : Option T),σ = [some (T.tup [T.tup (tk.map tkT),T.tup (ors.map orT),T.tup (prs.map prT),T.tup (row.map T.str)]),some (.tup (gs.map sT)),v2,v3,v4] /\ H = H3 /\ ∀ y ∈ A,(decide (y.1 = ("apart" : Str)) && shg gs y.2.1 y.2.2) = false) ⟨_,_,_,rfl,rfl,(fun _ h => nomatch h)⟩ ?_ ?_
  ·
   rintro σ H ⟨v2,v3,v4,rfl,rfl,hno⟩
   exact ⟨trivial,Fin3.of Sub3.refl (k1'.out (er hno))⟩
  ·
   rintro A ⟨wd,one,other⟩ B σ H N e ⟨v2,v3,v4,rfl,rfl,hno⟩ hN
   refine ⟨trivial,?_⟩
   have hN':=Box.mk hN
   have hno':=Box.mk hno
   have e':=Box.mk e
   clear hN hno e
   simp only [prT]
   walk_at "rd"
   refine ⟨trivial,?_⟩
   have no : (decide (wd = ("apart" : Str)) && shg gs one other) = false -> N [some (T.tup [T.tup (tk.map tkT),T.tup (ors.map orT),T.tup (prs.map prT),T.tup (row.map T.str)]),some (T.tup (gs.map sT)),some (T.str wd),some (T.str one),some (T.str other)] H:=fun h => hN'.out _ _ ⟨_,_,_,rfl,rfl,fun y hy => by
    rcases List.mem_append.mp hy with hy | hy
    ·
     exact hno'.out y hy
    ·
     rw [List.mem_singleton.mp hy]; exact h⟩
   by_cases hw : wd = ("apart" : Str)
   ·
    rw [if_pos (decide_eq_true hw)]
    refine ⟨gs,one,other,rfl,hl,?_⟩
    cases hsg : shg gs one other with
    | true =>
     have kq:=k2'.out (wd,one,other) (by show List.find? _ prs = _; rw [e'.out]; exact ei hno'.out (by rw [decide_eq_true hw,hsg]; rfl))
     clear no
     walk_at "rd"
     exact ⟨trivial,H,Sub3.refl,kq⟩
    | false =>
     have hn:=Box.mk (no (by rw [hsg,Bool.and_false]))
     clear no hw
     walk_at "rd"
     exact hn.out
   ·
    rw [if_neg (by rw [decide_eq_false hw]; exact Bool.false_ne_true)]
    exact no (by rw [decide_eq_false hw]; rfl)
abbrev bN : List Str:=["works","groups"]
theorem sc_check_works : FnScope bN ["works"] (ah (top 27)):=aR
theorem fh {f : Addr} {fd : FuncData} (g : G3 K mg "check_works" (top 27) ["works"] f fd) (B : Bl mg) {C_Ring C_Torn C_NoStand : Addr} (F_groups_of : Cal P w K mg base 4 "groups_of" (top 7) ["works"] zh) (F_check_rings : CalX P w K mg base 3 "check_rings" (top 21) ["works"] (sV C_Ring)) (F_check_torn : CalX P w K mg base 3 "check_torn" (top 23) bN (pJ C_Torn)) (F_check_stands : CalX P w K mg base 3 "check_stands" (top 26) bN (sZ C_NoStand)) : CalX P w K mg base 5 "check_works" (top 27) ["works"] (zn C_Ring C_Torn C_NoStand):=by
 refine ⟨f,fd,g,?_⟩
 refine fnX g.fn sc_check_works (fun ts H Q E h => ?_) (fun cdv A outer s H E ts H3 Q E3 hr h hM => ?_)
 ·
  obtain ⟨W,rfl,_⟩:=h; rfl
 ·
  have hu30:=Room.u30 hr
  have hu31:=Room.u31 hr
  have hu1:=Room.u1 hr
  obtain ⟨⟨tk,ors,prs,row⟩,rfl,hW,k1,k2⟩:=h
  refine ⟨_,(ae (ba (ic F_check_rings hM (hr.mono (by decide)) rfl (aa (v3 0) ac)))
    (ae (ak (i:=1) sc_check_works.nd (aD F_groups_of hr rfl (aa (v3 0) ac)))
    (ae (ba (ic F_check_torn hM (hr.mono (by decide)) rfl (aa (v3 0) (aa (v3 1) ac))))
    (ag (ba (ic F_check_stands hM (hr.mono (by decide)) rfl (aa (v3 0) (aa (v3 1) ac)))))))),?_⟩
  rw [show ay bN [Wk.enc ⟨tk,ors,prs,row⟩] = [some (T.tup [T.tup (tk.map tkT),T.tup (ors.map orT),T.tup (prs.map prT),T.tup (row.map T.str)]),none] from rfl]
  have hsz : sizeLine = 16777216:=rfl
  have k1':=Box.mk k1
  have k2':=Box.mk k2
  clear k1 k2
  have hg : (bp ⟨tk,ors,prs,row⟩).length <= 100:=Nat.le_trans (rT _) (Nat.le_trans hW.t8 (by decide))
  walk_at "rd"
  refine ⟨⟨tk,ors,prs,row⟩,rfl,hW,fun nr => ?_,fun r R hR => ⟨H3,Sub3.refl,k1'.out r R hR⟩⟩
  refine ⟨⟨tk,ors,prs,row⟩,rfl,hW,?_⟩
  refine ⟨⟨tk,ors,prs,row⟩,_,rfl,hW,hg,fun nt => ?_,fun p hp => ⟨H3,Sub3.refl,(k2'.out nr).1 p hp⟩⟩
  refine ⟨⟨tk,ors,prs,row⟩,_,rfl,hW,hg,fun ns => ?_,fun g hg => ⟨H3,Sub3.refl,((k2'.out nr).2 nt).1 g hg⟩⟩
  exact Fin3.of Sub3.refl (((k2'.out nr).2 nt).2 ns)
end
theorem WkOk.order {tk : List (Str × Int × List Str)} {ors : List (Str × Str)} {prs : List (Str × Str × Str)} {row : List Str} (h : WkOk ⟨tk,ors,prs,row⟩) {a b : Str} (ha : a ∈ tk.map (·.1)) (hb : b ∈ tk.map (·.1)) (hab : a ≠ b) (hn : (a,b) ∉ ors) (hl : ors.length < 28) : WkOk ⟨tk,ors ++ [(a,b)],prs,row⟩:=by
 obtain ⟨h1,h2,h3,h4,h5,h6,h7,h8,h9,h10,h11,h12,h13⟩:=h
 refine ⟨h1,h2,h3,h4,?_,cA h6 hn,fun o ho => ?_,h8,h9,h10,h11,h12,h13⟩
 ·
  show (ors ++ [(a,b)]).length <= 28
  rw [List.length_append,List.length_singleton]
  omega
 ·
  rcases List.mem_append.mp ho with ho | ho
  ·
   exact h7 o ho
  ·
   rw [List.mem_singleton.mp ho]
   exact ⟨hab,ha,hb⟩
theorem rU {W : Wk} (t : Str) : ((W.tasks.map (·.1)).filter fun x => decide (x = t) || (bF ["with"] W t x && bF ["with"] W x t)) = bd W t:=by
 unfold bd bF
 refine List.filter_congr fun x _ => ?_
 rw [Bool.eq_iff_iff,Bool.or_eq_true,Bool.and_eq_true,decide_eq_true_iff,@decide_eq_true_iff _ (Classical.propDecidable _),@decide_eq_true_iff _ (Classical.propDecidable _),@decide_eq_true_iff _ (Classical.propDecidable _),rt_iff,rt_iff]
 constructor
 ·
  rintro (h | ⟨h1,h2⟩)
  ·
   subst h; exact ⟨.inl rfl,.inl rfl⟩
  ·
   exact ⟨.inr h1,.inr h2⟩
 ·
  rintro ⟨h1,h2⟩
  rcases h1 with h | h1
  ·
   exact .inl h
  ·
   rcases h2 with h | h2
   ·
    exact .inl h.symm
   ·
    exact .inr ⟨h1,h2⟩
theorem s9 {α : Type} {f : α -> Str} : ∀ {l : List α},(l.map f).Nodup -> ∀ {x y : α},x ∈ l -> y ∈ l -> f x = f y -> x = y
 | a :: l,nd,x,y,hx,hy,e => by
  rw [List.map_cons,List.nodup_cons] at nd
  rcases List.mem_cons.mp hx with e1 | h1
  ·
   rcases List.mem_cons.mp hy with e2 | h2
   ·
    rw [e1,e2]
   ·
    exact absurd (List.mem_map.mpr ⟨y,h2,by rw [<- e,e1]⟩) nd.1
  ·
   rcases List.mem_cons.mp hy with e2 | h2
   ·
    exact absurd (List.mem_map.mpr ⟨x,h1,by rw [e,e2]⟩) nd.1
   ·
    exact s9 nd.2 h1 h2 e
theorem grp_mem {W : Wk} {t x : Str} : x ∈ bd W t ↔ x ∈ W.tasks.map (·.1) /\ RT (lkR ["with"] W) t x /\ RT (lkR ["with"] W) x t:=by
 unfold bd
 rw [List.mem_filter,@decide_eq_true_iff _ (Classical.propDecidable _)]
theorem pK {W : Wk} {a t : Str} (h : t ∈ bd W a) : bd W t = bd W a:=by
 obtain ⟨_,h1,h2⟩:=grp_mem.mp h
 unfold bd
 refine List.filter_congr fun x _ => ?_
 rw [Bool.eq_iff_iff,@decide_eq_true_iff _ (Classical.propDecidable _),@decide_eq_true_iff _ (Classical.propDecidable _)]
 exact ⟨fun ⟨a1,a2⟩ => ⟨h1.trans a1,a2.trans h2⟩,fun ⟨a1,a2⟩ => ⟨h2.trans a1,a2.trans h1⟩⟩
theorem wA {W : Wk} {a : Str} (ha : a ∈ W.tasks.map (·.1)) : bd W a ∈ bp W:=by
 have hs:=dI (W:=W) ha
 cases hg : bd W a with
 | nil => rw [hg] at hs; cases hs
 | cons t r =>
  have ht : t ∈ bd W a:=by rw [hg]; exact List.mem_cons_self
  have e:=pK ht
  unfold bp
  refine List.mem_map.mpr ⟨t,List.mem_filter.mpr ⟨(grp_mem.mp ht).1,?_⟩,e.trans hg⟩
  rw [decide_eq_true_iff,e,hg]
  rfl
theorem rV {W : Wk} {g : List Str} (h : g ∈ bp W) : ∀ x ∈ g,x ∈ W.tasks.map (·.1):=by
 unfold bp at h
 obtain ⟨t,_,rfl⟩:=List.mem_map.mp h
 exact fun x hx => (grp_mem.mp hx).1
theorem rW {W : Wk} {a b : Str} (ha : a ∈ W.tasks.map (·.1)) (hb : b ∈ W.tasks.map (·.1)) (hab : a ≠ b) : shg (bp W) a b = (bF ["with"] W a b && bF ["with"] W b a):=by
 unfold shg bF
 rw [Bool.eq_iff_iff,List.any_eq_true,Bool.and_eq_true,@decide_eq_true_iff _ (Classical.propDecidable _),@decide_eq_true_iff _ (Classical.propDecidable _)]
 constructor
 ·
  rintro ⟨g,hg,h⟩
  rw [Bool.and_eq_true,decide_eq_true_iff,decide_eq_true_iff] at h
  unfold bp at hg
  obtain ⟨t,_,rfl⟩:=List.mem_map.mp hg
  obtain ⟨_,a1,a2⟩:=grp_mem.mp h.1
  obtain ⟨_,b1,b2⟩:=grp_mem.mp h.2
  constructor
  ·
   rcases rt_iff.mp (a2.trans b1) with e | t
   ·
    exact absurd e.symm hab
   ·
    exact t
  ·
   rcases rt_iff.mp (b2.trans a1) with e | t
   ·
    exact absurd e hab
   ·
    exact t
 ·
  rintro ⟨h1,h2⟩
  refine ⟨bd W a,wA ha,?_⟩
  rw [Bool.and_eq_true,decide_eq_true_iff,decide_eq_true_iff]
  exact ⟨grp_mem.mpr ⟨ha,.refl,.refl⟩,grp_mem.mpr ⟨hb,h1.rt,h2.rt⟩⟩
noncomputable def kdW (W : Wk) (n : Str) : List Str:=((W.tasks.find? fun t => decide (t.1 = n)).map (·.2.2)).getD []
theorem j9 {W : Wk} (h : WkOk W) {t : Str × Int × List Str} (ht : t ∈ W.tasks) : kdW W t.1 = t.2.2:=by
 unfold kdW
 cases hf : W.tasks.find? fun u => decide (u.1 = t.1) with
 | none => exact absurd (List.find?_eq_none.mp hf t ht) (by simp)
 | some u =>
  have h1:=List.find?_some hf
  have h2:=List.mem_of_find?_eq_some hf
  rw [decide_eq_true_iff] at h1
  rw [s9 h.nd h2 ht h1]
  rfl
theorem rX {W : Wk} (h : WkOk W) {g : List Str} (hg : ∀ x ∈ g,x ∈ W.tasks.map (·.1)) (kd : Str) : (g.all fun n => dJ (kdW W n) kd) = mal W g kd:=by
 unfold mal
 rw [Bool.eq_iff_iff,List.all_eq_true,List.all_eq_true]
 constructor
 ·
  intro h1 b hb
  obtain ⟨t,ht,rfl⟩:=List.mem_map.mp hb
  rw [List.mem_filter,decide_eq_true_iff] at ht
  have:=h1 t.1 ht.2
  rw [j9 h ht.1] at this
  exact this
 ·
  intro h1 n hn
  obtain ⟨t,ht,rfl⟩:=List.mem_map.mp (hg n hn)
  rw [j9 h ht]
  exact h1 _ (List.mem_map.mpr ⟨t,List.mem_filter.mpr ⟨ht,by rw [decide_eq_true_iff]; exact hn⟩,rfl⟩)
theorem pL {W : Wk} {g : List Str} (h : g ∈ bp W) : g.length <= W.tasks.length:=by
 unfold bp at h
 obtain ⟨t,_,rfl⟩:=List.mem_map.mp h
 exact je W t
theorem pM {α : Type} (g : α -> Bool) (xs : List α) : (xs.map fun x => T.bl (g x)) = (xs.map g).map T.bl:=by rw [List.map_map]; rfl
theorem wB {gs : List (List Str)} {ps A B : List (Str × Str × Str)} {x : Str × Str × Str} (e : ps = A ++ x :: B) (h : ∀ y ∈ A,(decide (y.1 = ("apart" : Str)) && shg gs y.2.1 y.2.2) = false) (hx : (decide (x.1 = ("apart" : Str)) && shg gs x.2.1 x.2.2) = true) : trn gs ps = some x:=by
 rw [e]
 exact ei h hx
theorem wC {W : Wk} {gs A B : List (List Str)} {x : List Str} (e : gs = A ++ x :: B) (h : ∀ y ∈ A,(!(W.row.any fun kd => mal W y kd)) = false) (hx : (!(W.row.any fun kd => mal W x kd)) = true) : nst W gs = some x:=by
 rw [e]
 exact ei h hx
def zo : Sp3:=fun ts H Q => ∃ (W : Wk) (pn pf : Addr) (kvs : List (List Key × T)),ts = [.ref pn,.ref pf] /\ WkOk W /\ H pn = some (.lst ((W.tasks.map (·.1)).map T.str)) /\ H pf = some (.dcp kvs) /\ Far (W.tasks.map (·.1)) kvs (bF ["with"] W) /\ ∀ p,H p = none -> Q (.ref p) (up3 H p (.lst ((bp W).map sT)))
def pN : Sp3:=fun ts H Q => ∃ (W : Wk),ts = [W.enc] /\ WkOk W /\ (Ry W.orders -> Q (.tup [.str "ring"]) H) /\
 (¬ Ry W.orders -> (∀ p,trn (bp W) W.pairs = some p -> Q (.tup [.str "torn",.str p.2.1,.str p.2.2]) H) /\ (trn (bp W) W.pairs = none -> (∀ g,nst W (bp W) = some g -> Q (.tup [.str "stand",sT g]) H) /\ (nst W (bp W) = none -> Q (.tup [.str "none"]) H)))
section
variable {P : Program} {w : World} {K : PySem.W.Frag} {mg : Str -> Option Value} {base : Heap}
abbrev fi : List Str:=["_law_names_here","_law_far","_law_groups_here","_law_name","_law_group"]
theorem sc_groups : FnScope fi ["_law_names_here","_law_far"] (ah (top 39)):=aR
theorem md {f : Addr} {fd : FuncData} (g : G3 K mg "_law_groups" (top 39) ["_law_names_here","_law_far"] f fd) (B : Bl mg) : Cal P w K mg base 1 "_law_groups" (top 39) ["_law_names_here","_law_far"] zo:=by
 refine ⟨f,fd,g,?_⟩
 refine fn3 g.fn sc_groups (fun ts H Q h => ?_) (fun cdv A outer s H E ts H3 Q hr h => ?_)
 ·
  obtain ⟨W,pn,pf,kvs,rfl,_⟩:=h; rfl
 ·
  have hu30:=Room.u30 hr
  have hu31:=Room.u31 hr
  have hu1:=Room.u1 hr
  obtain ⟨⟨tk,ors,prs,row⟩,pn,pf,kvs,rfl,hW,hpn,hpf,hF,k⟩:=h
  refine ⟨_,(ae (ak (i:=2) sc_groups.nd (bb ac))
    (ae (aP PassesOwn.never rfl (bo (v3 0)) (ao (i:=3) sc_groups.nd) (ae (ak (i:=4) sc_groups.nd (aI bD rfl B.tuple_ bE (aa (b8 rfl (bS (n0:=(ah (top 39)).names) (N:=fi) (N':=["_law_one","_law_name","_law_far"]) (nt:=1) (cap:=[3,1]) rfl rfl (by decide +kernel)) (bo (v3 0)) (fun cl pins s H C0 fp => ⟨(ao (i:=0) (show List.Nodup [("_law_one" : Str),("_law_name" : Str),("_law_far" : Str)] by decide +kernel)),(d4 (PW3.pt (sv (aU (bG hu30) (v3 0) (v3 1)) (mL (PW3.pt (ce (bj (bY hu1 (v3 2) (aa (v3 1) (aa (v3 0) ac)))) (b6 (bj (bY hu1 (v3 2) (aa (v3 0) (aa (v3 1) ac))))))))))),(v3 0)⟩)) ac)))
     (ag (a8 (aU (bG hu30) (aw ix3 (v3 4) af) (v3 3)) (ag (ba (br PySem.F.plainAttrs_list PySem.F.slot_list_append PySem.F.type_list_append aX (v3 2) (aa (v3 4) ac)))) aG))))
    (ag (aF (v3 2))))),?_⟩
  rw [show ay fi [T.ref pn,T.ref pf] = [some (T.ref pn),some (T.ref pf),none,none,none] from rfl]
  have hsz : sizeLine = 16777216:=rfl
  have t8 : tk.length <= 8:=hW.t8
  have k':=Box.mk k
  clear k
  replace hF : Far (tk.map (·.1)) kvs (bF ["with"] ⟨tk,ors,prs,row⟩):=hF
  replace hpn : H3 pn = some (.lst ((tk.map (·.1)).map T.str)):=hpn
  have hG : ∀ t,((tk.map (·.1)).filter fun x => decide (x = t) || (bF ["with"] ⟨tk,ors,prs,row⟩ t x && bF ["with"] ⟨tk,ors,prs,row⟩ x t)) = bd ⟨tk,ors,prs,row⟩ t:=fun t => rU (W:=⟨tk,ors,prs,row⟩) t
  have hself : ∀ t ∈ tk.map (·.1),t ∈ bd ⟨tk,ors,prs,row⟩ t:=fun t ht => dI (W:=⟨tk,ors,prs,row⟩) ht
  have hgl : ∀ t,(bd ⟨tk,ors,prs,row⟩ t).length <= 8:=fun t => Nat.le_trans (je _ t) t8
  have hgs : bp ⟨tk,ors,prs,row⟩ = ((tk.map (·.1)).filter fun t => decide ((bd ⟨tk,ors,prs,row⟩ t).head? = some t)).map (bd ⟨tk,ors,prs,row⟩):=rfl
  have nl : (tk.map (·.1)).length <= 8:=by rw [List.length_map]; exact t8
  have kq : ∀ pd,H3 pd = none -> Q (.ref pd) (up3 H3 pd (.lst ((((tk.map (·.1)).filter fun t => decide ((bd ⟨tk,ors,prs,row⟩ t).head? = some t)).map (bd ⟨tk,ors,prs,row⟩)).map sT))):=fun pd h => by rw [<- hgs]; exact k'.out pd h
  clear hgs k'
  generalize tk.map (·.1) = names at *
  generalize bF ["with"] ⟨tk,ors,prs,row⟩ = f at hF hG
  generalize bd ⟨tk,ors,prs,row⟩ = gr at hG hself hgl kq
  have kq':=Box.mk kq
  have hG':=Box.mk hG
  have hself':=Box.mk hself
  have hgl':=Box.mk hgl
  clear kq hG hself hgl
  refine au fun R0 hR0 => ?_
  walk_at "rd"
  refine ⟨by omega,fun pd hpd => ?_⟩
  have npn : pn ≠ pd:=a5 hpn hpd
  have npf : pf ≠ pd:=a5 hpf hpd
  walk_at "nx"
  refine au fun R1 hR1 => ?_
  have g0 : up3 H3 pd (.lst []) pn = some (.lst (names.map T.str)):=by rw [aj npn]; exact hpn
  walk_at "rd"
  refine aS T.str names (fun A σ H => ∃ (v3 v4 : Option T),σ = [some (.ref pn),some (.ref pf),some (.ref pd),v3,v4] /\ Sub3 (up3 H3 pd (.lst (((A.filter fun t => decide ((gr t).head? = some t)).map gr).map sT))) H) ⟨_,_,rfl,Sub3.refl⟩ ?_ ?_
  ·
   rintro σ H ⟨v3,v4,rfl,hS⟩
   refine ⟨.inl (hS _ _ (by rw [aj npn]; exact hpn)),?_⟩
   walk_at "nx"
   have kf:=kq'.out pd hpd
   clear kq'
   try dsimp only
   walk_at "rd"
   exact Fin3.of hS kf
  ·
   rintro A t B σ H N e ⟨v3,v4,rfl,hS⟩ hN
   have gn : H pn = some (.lst (names.map T.str)):=hS _ _ (by rw [aj npn]; exact hpn)
   have gf : H pf = some (.dcp kvs):=hS _ _ (by rw [aj npf]; exact hpf)
   refine ⟨.inl gn,?_⟩
   have htn : t ∈ names:=by rw [e]; simp
   have hA : A.length <= 8:=by
    have:=congrArg List.length e
    simp only [List.length_append,List.length_cons] at this
    omega
   have hN':=Box.mk hN
   clear hN e hR1 kq'
   refine au fun R2 hR2 => ?_
   walk_at "rd"
   walk_at "cp"
   refine c7 T.str T.str (fun x => decide (x = t) || (f t x && f x t)) names [some (.str t),some (.ref pf)] (.inl gn) (by omega) (fun x hx Q' hq => ?_) (fun x hx hpx Q' hq => ?_) (fun pg hpg => ?_)
   ·
    have g1:=hF.at' t htn x hx
    have g2:=hF.at' x hx t htn
    unfold kk at g1 g2
    clear hN' hR2 hS hF hG' hself' hgl'
    cases e1 : decide (x = t) <;> cases e2 : f t x <;> cases e3 : f x t <;> simp only [e1,e2,e3,Bool.or_true,Bool.or_false,Bool.false_or,Bool.true_or,Bool.and_true,Bool.and_false] at hq g1 g2 <;> walk_at "rd" <;> (try simp only [true_and]) <;> first | done | exact trivial | exact ⟨by omega,trivial⟩ | exact ⟨by omega,by omega,trivial⟩ | exact hq | exact ⟨by omega,hq⟩ | exact ⟨by omega,by omega,hq⟩
   ·
    walk_at "rd"
    try exact hq
   ·
    rw [hG'.out t]
    walk_at "nx"
    have hgt:=hself'.out t htn
    have hgl:=hgl'.out t
    have hS2:=hS.trans (Sub3.new (o:=.lst ((gr t).map T.str)) hpg)
    have d2 : up3 H pg (.lst ((gr t).map T.str)) pd = some (.lst (((A.filter fun t => decide ((gr t).head? = some t)).map gr).map sT)):=hS2 _ _ ai
    have d1 : up3 H pg (.lst ((gr t).map T.str)) pg = some (.lst ((gr t).map T.str)):=ai
    generalize up3 H pg (.lst ((gr t).map T.str)) = H8 at hS2 d1 d2
    have hlen : (((A.filter fun t => decide ((gr t).head? = some t)).map gr).map sT).length <= 8:=by
     rw [List.length_map,List.length_map]
     exact Nat.le_trans (List.length_filter_le _ _) hA
    have eY : (gr t).head? = some t -> (((A ++ [t]).filter fun t => decide ((gr t).head? = some t)).map gr).map sT = ((A.filter fun t => decide ((gr t).head? = some t)).map gr).map sT ++ [sT (gr t)]:=fun h => by
     rw [List.filter_append,List.map_append,List.map_append]
     simp [h]
    have eN : ¬ (gr t).head? = some t -> (((A ++ [t]).filter fun t => decide ((gr t).head? = some t)).map gr).map sT = ((A.filter fun t => decide ((gr t).head? = some t)).map gr).map sT:=fun h => by
     rw [List.filter_append,List.map_append,List.map_append]
     simp [h]
    have fY : Box ((gr t).head? = some t -> N [some (.ref pn),some (.ref pf),some (.ref pd),some (.str t),some (sT (gr t))] (up3 H8 pd (.lst (((A.filter fun t => decide ((gr t).head? = some t)).map gr).map sT ++ [sT (gr t)])))):=⟨fun h => hN'.out _ _ ⟨_,_,rfl,by rw [eY h]; exact pI hS2⟩⟩
    have fN : Box (¬ (gr t).head? = some t -> N [some (.ref pn),some (.ref pf),some (.ref pd),some (.str t),some (sT (gr t))] H8):=⟨fun h => hN'.out _ _ ⟨_,_,rfl,by rw [eN h]; exact hS2⟩⟩
    clear eY eN hN' hS hS2 hF hG' hself' hgl'
    cases eg : gr t with
    | nil => rw [eg] at hgt; cases hgt
    | cons y r =>
     rw [eg] at fY fN d1 hgl
     clear hgt
     simp only [List.map_cons] at d1
     generalize (((A.filter fun t => decide ((gr t).head? = some t)).map gr).map sT) = cur at *
     walk_at "rd"
     by_cases hy : y = t
     ·
      simp only [hy,decide_true,if_true,List.head?_cons,sT,List.map_cons] at fY ⊢
      have fo:=fY.out trivial
      exact ⟨⟨trivial,trivial⟩,by omega,fo⟩
     ·
      have hy' : ¬ some y = some t:=fun z => hy (Option.some.inj z)
      simp only [hy,decide_false,Bool.false_eq_true,if_false,List.head?_cons,sT,List.map_cons] at fN ⊢
      exact fN.out hy'
abbrev jm : List Str:=["_law_works_here","_law_alone","_law_names_here","_law_far","_law_word","_law_one","_law_other","_law_kinds","_law_name","_law_length","_law_some","_law_group","_law_fits"]
theorem sc_due : FnScope jm ["_law_works_here"] (ah (top 40)):=aR
theorem wD {f : Addr} {fd : FuncData} (g : G3 K mg "_law_due" (top 40) ["_law_works_here"] f fd) (B : Bl mg) (F_reach : Cal P w K mg base 1 "_law_reach" (top 38) ["_law_works_here","_law_words"] sU) (F_groups : Cal P w K mg base 1 "_law_groups" (top 39) ["_law_names_here","_law_far"] zo) : Cal P w K mg base 2 "_law_due" (top 40) ["_law_works_here"] pN:=by
 refine ⟨f,fd,g,?_⟩
 refine fn3 g.fn sc_due (fun ts H Q h => ?_) (fun cdv A outer s H E ts H3 Q hr h => ?_)
 ·
  obtain ⟨W,rfl,_⟩:=h; rfl
 ·
  have hu30:=Room.u30 hr
  have hu31:=Room.u31 hr
  have hu1:=Room.u1 hr
  obtain ⟨⟨tk,ors,prs,row⟩,rfl,hW,k1,k2⟩:=h
  refine ⟨_,(ae (ak (i:=1) sc_due.nd (aD F_reach hr rfl (aa (v3 0) (aa (aL ac) ac))))
    (ae (d5 (i:=2) rfl sc_due.nd (bS (n0:=(ah (top 40)).names) (N:=jm) (N':=["_law_task"]) (nt:=1) (cap:=[]) rfl rfl (by decide +kernel)) (bn (aw ix3 (v3 0) af)) (fun cl pins s H C0 fp => ⟨(ao (i:=0) (show List.Nodup [("_law_task" : Str)] by decide +kernel)),b7,(aw ix3 (v3 0) af)⟩))
    (ae (a8 (bj (aB (jU rfl) rfl B.any_ jF (aa (b8 rfl (bS (n0:=(ah (top 40)).names) (N:=jm) (N':=["_law_name","_law_alone"]) (nt:=1) (cap:=[1]) rfl rfl (by decide +kernel)) (bo (v3 2)) (fun cl pins s H C0 fp => ⟨(ao (i:=0) (show List.Nodup [("_law_name" : Str),("_law_alone" : Str)] by decide +kernel)),b7,(bY hu1 (v3 1) (aa (v3 0) (aa (v3 0) ac)))⟩)) ac))) (ag (aF (aL (aa bf ac)))) aG)
    (ae (ak (i:=3) sc_due.nd (aD F_reach hr rfl (aa (v3 0) (aa (aL (aa bf ac)) ac))))
    (ae (aP PassesOwn.never rfl (bn (aw ix3 (v3 0) af)) (cg (n:=3) rfl (ax (ao (i:=4) sc_due.nd) (ax (ao (i:=5) sc_due.nd) (ax (ao (i:=6) sc_due.nd) bM)))) (ag (a8 (PW3.pt (ce (aU (bG hu30) (v3 4) bf) (ce (bj (bY hu1 (v3 3) (aa (v3 5) (aa (v3 6) ac)))) (b6 (bj (bY hu1 (v3 3) (aa (v3 6) (aa (v3 5) ac)))))))) (ag (aF (aL (aa bf (aa (v3 5) (aa (v3 6) ac)))))) aG)))
    (ae (ak (i:=7) sc_due.nd kT)
    (ae (aP PassesOwn.never rfl (bn (aw ix3 (v3 0) af)) (cg (n:=3) rfl (ax (ao (i:=8) sc_due.nd) (ax (ao (i:=9) sc_due.nd) (ax (ao (i:=10) sc_due.nd) bM)))) (ag (gN hu1 (v3 7) (v3 8) (v3 10))))
    (ae (aP PassesOwn.never rfl (bo (aD F_groups hr rfl (aa (v3 2) (aa (v3 3) ac)))) (ao (i:=11) sc_due.nd) (ae (d5 (i:=12) rfl sc_due.nd (bS (n0:=(ah (top 40)).names) (N:=jm) (N':=["_law_kind","_law_group","_law_kinds"]) (nt:=1) (cap:=[11,7]) rfl rfl (by decide +kernel)) (bn (aw ix3 (v3 0) af)) (fun cl pins s H C0 fp => ⟨(ao (i:=0) (show List.Nodup [("_law_kind" : Str),("_law_group" : Str),("_law_kinds" : Str)] by decide +kernel)),(d4 (bj (aB (nE rfl) rfl B.all_ nk (aa (b8 rfl (qG (n00:=(ah (top 40)).names) (N:=["_law_kind","_law_group","_law_kinds"]) (N':=["_law_one","_law_kind","_law_kinds"]) (nt:=1) (cap:=[0,2]) rfl rfl rfl (by decide +kernel)) (bn (v3 1)) (fun cl pins s H C0 fp => ⟨(ao (i:=0) (show List.Nodup [("_law_one" : Str),("_law_kind" : Str),("_law_kinds" : Str)] by decide +kernel)),b7,(sy (bQ (bG hu30) (gM hu1 (v3 2) (v3 0)) (aL ac)) (gG (bQ (dP hu31) (v3 1) (gM hu1 (v3 2) (v3 0)) rfl)))⟩)) ac)))),(v3 0)⟩))
     (ag (a8 (aU (bG hu30) (v3 12) (bb ac)) (ag (aF (aL (aa bf (aa (v3 11) ac))))) aG))))
    (ag (aF (aL (aa bf ac)))))))))))),?_⟩
  rw [show ay jm [Wk.enc ⟨tk,ors,prs,row⟩] = [some (T.tup [T.tup (tk.map tkT),T.tup (ors.map orT),T.tup (prs.map prT),T.tup (row.map T.str)]),none,none,none,none,none,none,none,none,none,none,none,none] from rfl]
  have hsz : sizeLine = 16777216:=rfl
  have t8 : tk.length <= 8:=hW.t8
  have r8 : row.length <= 8:=hW.r8
  have k1':=Box.mk k1
  have k2':=Box.mk k2
  clear k1 k2
  refine au fun R0 hR0 => ?_
  walk_at "rd"
  refine ⟨by decide,⟨tk,ors,prs,row⟩,[],rfl,hW,fun pa ka hpa FA => ?_⟩
  replace FA : Far (tk.map (·.1)) ka (bF [] ⟨tk,ors,prs,row⟩):=FA
  have hS0 : Sub3 H3 (up3 H3 pa (.dcp ka)):=Sub3.new hpa
  have w0 : Hs (up3 H3 pa (.dcp ka)) [(pa,.dcp ka)]:=Hs.of ai
  generalize up3 H3 pa (.dcp ka) = H4 at hS0 w0
  walk_at "nx"
  refine au fun R1 hR1 => ?_
  walk_at "rd"
  walk_at "cp"
  refine bw tkT (fun t => T.str t.1) tk [] trivial (by omega) (fun t ht Q' hq => ?_) (fun pn hpn => ?_)
  ·
   simp only [tkT]
   walk_at "rd"
   try exact hq
  have enm : (tk.map fun t => T.str t.1) = (tk.map (·.1)).map T.str:=by rw [List.map_map]; rfl
  rw [enm]
  have w1:=w0.new (o:=.lst ((tk.map (·.1)).map T.str)) hpn
  have hS1:=hS0.trans (Sub3.new (o:=.lst ((tk.map (·.1)).map T.str)) hpn)
  generalize up3 H4 pn (.lst ((tk.map (·.1)).map T.str)) = H5 at w1 hS1
  clear w0 hS0 enm hpn hpa
  have nl : (tk.map (·.1)).length <= 8:=by rw [List.length_map]; exact t8
  have gn:=w1.hd
  have ga:=w1.tl.hd
  walk_at "nx"
  refine au fun R2 hR2 => ?_
  walk_at "rd"
  walk_at "cp"
  refine bw T.str (fun n => T.bl (bF [] ⟨tk,ors,prs,row⟩ n n)) (tk.map (·.1)) [some (.ref pa)] ?_ ?_ ?_ ?_
  ·
   exact .inl gn
  ·
   omega
  ·
   intro n hn Q' hq
   have e1:=FA.at' n hn n hn
   clear hR2 FA
   unfold kk at e1
   walk_at "rd"
   first | exact ⟨by decide,hq⟩ | exact ⟨by decide,trivial⟩
  intro pd hpd
  rw [pM (fun n => bF [] ⟨tk,ors,prs,row⟩ n n),bx,b5]
  obtain ⟨d,hd⟩ : ∃ d : Bool,(((tk.map (·.1)).map fun n => bF [] ⟨tk,ors,prs,row⟩ n n).any id) = d:=⟨_,rfl⟩
  rw [hd]
  have hry : d = true ↔ Ry ors:=by
   rw [<- hd,List.any_map]
   constructor
   ·
    intro h
    obtain ⟨t,_,ht⟩:=List.any_eq_true.mp h
    exact wy (W:=⟨tk,ors,prs,row⟩) t ht
   ·
    intro h
    obtain ⟨t,ht,h2⟩:=wz hW h
    exact List.any_eq_true.mpr ⟨t,ht,h2⟩
  have hS2:=hS1.trans (Sub3.new (o:=.lst (((tk.map (·.1)).map fun n => bF [] ⟨tk,ors,prs,row⟩ n n).map T.bl)) hpd)
  have w2:=(w1.new (o:=.lst (((tk.map (·.1)).map fun n => bF [] ⟨tk,ors,prs,row⟩ n n).map T.bl)) hpd).tl
  generalize up3 H5 pd (.lst (((tk.map (·.1)).map fun n => bF [] ⟨tk,ors,prs,row⟩ n n).map T.bl)) = H6 at hS2 w2
  clear hd FA gn ga hpd w1 hS1
  cases d with
  | true =>
   have kq:=k1'.out (hry.mp rfl)
   clear k1' k2' hry
   walk_at "rd"
   exact ⟨by decide,Fin3.of hS2 kq⟩
  | false =>
  have nr : ¬ Ry ors:=fun h => nomatch hry.mpr h
  obtain ⟨k3,k4⟩:=k2'.out nr
  have k3':=Box.mk k3
  have k4':=Box.mk k4
  clear k1' k2' hry k3 k4
  walk_at "rd"
  walk_at "nx"
  refine au fun R3 hR3 => ?_
  walk_at "rd"
  refine ⟨by decide,⟨tk,ors,prs,row⟩,["with"],rfl,hW,fun pf kf hpf FF => ?_⟩
  replace FF : Far (tk.map (·.1)) kf (bF ["with"] ⟨tk,ors,prs,row⟩):=FF
  have w3:=w2.new (o:=.dcp kf) hpf
  have hS3:=hS2.trans (Sub3.new (o:=.dcp kf) hpf)
  generalize up3 H6 pf (.dcp kf) = H7 at w3 hS3
  clear w2 hS2 hpf
  walk_at "nx"
  refine au fun R4 hR4 => ?_
  have gf:=w3.hd
  walk_at "rd"
  refine aS prT prs (fun A σ H => ∃ (v4 v5 v6 : Option T),σ = [some (T.tup [T.tup (tk.map tkT),T.tup (ors.map orT),T.tup (prs.map prT),T.tup (row.map T.str)]),some (.ref pa),some (.ref pn),some (.ref pf),v4,v5,v6,none,none,none,none,none,none] /\ H = H7 /\ ∀ y ∈ A,(decide (y.1 = ("apart" : Str)) && shg (bp ⟨tk,ors,prs,row⟩) y.2.1 y.2.2) = false) ⟨_,_,_,rfl,rfl,(fun _ h => nomatch h)⟩ ?_ ?_
  rotate_left
  ·
   rintro A ⟨wd,one,other⟩ B σ H N e ⟨v4,v5,v6,rfl,rfl,hno⟩ hN
   refine ⟨trivial,?_⟩
   have hp0 : (wd,one,other) ∈ prs:=by rw [e]; simp
   obtain ⟨_,hne,ho1,ho2⟩:=hW.pp _ hp0
   have es:=rW (W:=⟨tk,ors,prs,row⟩) ho1 ho2 hne
   have e1:=FF.at' one ho1 other ho2
   have e2:=FF.at' other ho2 one ho1
   unfold kk at e1 e2
   have hN':=Box.mk hN
   have hno':=Box.mk hno
   have e':=Box.mk e
   have no : (decide (wd = ("apart" : Str)) && shg (bp ⟨tk,ors,prs,row⟩) one other) = false -> N [some (T.tup [T.tup (tk.map tkT),T.tup (ors.map orT),T.tup (prs.map prT),T.tup (row.map T.str)]),some (.ref pa),some (.ref pn),some (.ref pf),some (.str wd),some (.str one),some (.str other),none,none,none,none,none,none] H:=fun h => hN'.out _ _ ⟨_,_,_,rfl,rfl,fun y hy => by
    rcases List.mem_append.mp hy with hy | hy
    ·
     exact hno'.out y hy
    ·
     rw [List.mem_singleton.mp hy]; exact h⟩
   have no':=Box.mk no
   have yes : (decide (wd = ("apart" : Str)) && shg (bp ⟨tk,ors,prs,row⟩) one other) = true -> Q (.tup [.str "torn",.str one,.str other]) H3:=fun h => k3'.out (wd,one,other) (wB e'.out hno'.out h)
   have yes':=Box.mk yes
   rw [es] at no' yes'
   clear hN hno e no yes hR4 hN' hno' e' k3' k4' FF w3 hp0 hne ho1 ho2 es
   simp only [prT]
   generalize bF ["with"] ⟨tk,ors,prs,row⟩ one other = x1 at *
   generalize bF ["with"] ⟨tk,ors,prs,row⟩ other one = x2 at *
   walk_at "rd"
   refine ⟨trivial,?_⟩
   by_cases hw : wd = ("apart" : Str)
   ·
    rw [if_pos (decide_eq_true hw)]
    refine ⟨by decide,?_⟩
    rw [decide_eq_true hw] at no' yes'
    cases x1 with
    | false => rw [if_neg Bool.false_ne_true]; exact no'.out rfl
    | true =>
     rw [if_pos rfl]
     refine ⟨by decide,?_⟩
     cases x2 with
     | false => rw [if_neg Bool.false_ne_true]; exact no'.out rfl
     | true => rw [if_pos rfl]; exact ⟨by decide,Fin3.of hS3 (yes'.out rfl)⟩
   ·
    rw [if_neg (by rw [decide_eq_false hw]; exact Bool.false_ne_true)]
    exact no'.out (by rw [decide_eq_false hw]; rfl)
  rintro σ H ⟨v4,v5,v6,rfl,rfl,hno⟩
  refine ⟨trivial,?_⟩
  obtain ⟨k5,k6⟩:=k4'.out (er hno)
  have k5':=Box.mk k5
  have k6':=Box.mk k6
  clear k3' k4' k5 k6 hno gf
  walk_at "nx"
  refine au fun R5 hR5 => ?_
  walk_at "rd"
  intro pk hpk
  have hpk0:=none_of hS3 hpk
  have w4:=w3.new (o:=.dct []) hpk
  have hS4:=hS3.trans (Sub3.new (o:=.dct []) hpk)
  generalize up3 H pk (.dct []) = H8 at w4 hS4
  clear hpk w3 hS3
  walk_at "nx"
  refine au fun R6 hR6 => ?_
  walk_at "rd"
  refine aS tkT tk (fun A σ H => ∃ (kvs : List (Str × T)) (v8 v9 v10 : Option T),σ = [some (T.tup [T.tup (tk.map tkT),T.tup (ors.map orT),T.tup (prs.map prT),T.tup (row.map T.str)]),some (.ref pa),some (.ref pn),some (.ref pf),v4,v5,v6,some (.ref pk),v8,v9,v10,none,none] /\ Sub3 H3 H /\ Hs H [(pk,.dct kvs),(pf,.dcp kf),(pn,.lst ((tk.map (·.1)).map T.str)),(pa,.dcp ka)] /\ kvs.length <= A.length /\ ∀ t ∈ A,av t.1 kvs = some (sT (kdW ⟨tk,ors,prs,row⟩ t.1))) ⟨[],_,_,_,rfl,hS4,w4,Nat.le_refl _,(fun _ h => nomatch h)⟩ ?_ ?_
  rotate_left
  ·
   rintro A ⟨nm,len,ks⟩ B σ H N e ⟨kvs,v8,v9,v10,rfl,hS,w,hkl,hk⟩ hN
   refine ⟨trivial,?_⟩
   have hA : A.length <= 8:=by
    have:=congrArg List.length e
    simp only [List.length_append,List.length_cons] at this
    omega
   have ht : (nm,len,ks) ∈ tk:=by rw [e]; simp
   have ek:=j9 hW ht
   dsimp only at ek
   have hn:=Box.mk (hN [some (T.tup [T.tup (tk.map tkT),T.tup (ors.map orT),T.tup (prs.map prT),T.tup (row.map T.str)]),some (.ref pa),some (.ref pn),some (.ref pf),v4,v5,v6,some (.ref pk),some (.str nm),some (.int len),some (.tup (ks.map T.str)),none,none] (up3 H pk (.dct (put3 nm (.tup (ks.map T.str)) kvs))) ⟨_,_,_,_,rfl,aZ hpk0 hS,w.set _,by have:=lp nm (.tup (ks.map T.str)) kvs; rw [List.length_append,List.length_singleton]; omega,fun t ht' => by
    rw [e8]
    by_cases hx : t.1 = nm
    ·
     rw [if_pos hx,hx,ek]; rfl
    ·
     rw [if_neg hx]
     rcases List.mem_append.mp ht' with h | h
     ·
      exact hk t h
     ·
      rw [List.mem_singleton.mp h] at hx; exact absurd rfl hx⟩)
   have gk:=w.hd
   clear hN hk e hR6 k5' k6' w4 hS4 ht ek
   simp only [tkT,sT]
   walk_at "rd"
   exact ⟨trivial,by omega,hn.out⟩
  rintro σ H ⟨kvs,v8,v9,v10,rfl,hS,w,hkl,hk⟩
  refine ⟨trivial,?_⟩
  walk_at "nx"
  clear w4 hS4
  try dsimp only
  refine au fun R7 hR7 => ?_
  walk_at "rd"
  refine ⟨⟨tk,ors,prs,row⟩,pn,pf,kf,rfl,hW,w.tl.tl.hd,w.tl.hd,FF,fun pg hpg => ?_⟩
  have w5:=w.new (o:=.lst ((bp ⟨tk,ors,prs,row⟩).map sT)) hpg
  have hS5:=hS.trans (Sub3.new (o:=.lst ((bp ⟨tk,ors,prs,row⟩).map sT)) hpg)
  generalize up3 H pg (.lst ((bp ⟨tk,ors,prs,row⟩).map sT)) = H9 at w5 hS5
  clear w hS hpg
  have gg:=w5.hd
  have gk:=w5.tl.hd
  have hk':=Box.mk hk
  clear hk
  walk_at "rd"
  refine aS sT (bp ⟨tk,ors,prs,row⟩) (fun A σ H => ∃ (v11 v12 : Option T),σ = [some (T.tup [T.tup (tk.map tkT),T.tup (ors.map orT),T.tup (prs.map prT),T.tup (row.map T.str)]),some (.ref pa),some (.ref pn),some (.ref pf),v4,v5,v6,some (.ref pk),v8,v9,v10,v11,v12] /\ Sub3 H9 H /\ ∀ y ∈ A,(!(row.any fun kd => mal ⟨tk,ors,prs,row⟩ y kd)) = false) ⟨_,_,rfl,Sub3.refl,(fun _ h => nomatch h)⟩ ?_ ?_
  ·
   rintro σ H ⟨v11,v12,rfl,hS,hno⟩
   refine ⟨.inl (hS _ _ gg),?_⟩
   have kq:=k6'.out (er hno)
   clear k5' k6' hno hk'
   walk_at "nx"
   walk_at "rd"
   exact ⟨by decide,Fin3.of (hS5.trans hS) kq⟩
  ·
   rintro A g B σ H N e ⟨v11,v12,rfl,hS,hno⟩ hN
   have hgg:=hS _ _ gg
   have hgk:=hS _ _ gk
   refine ⟨.inl hgg,?_⟩
   have hsub : ∀ x ∈ g,x ∈ tk.map (·.1):=rV (W:=⟨tk,ors,prs,row⟩) (by rw [e]; simp)
   have hgl : g.length <= 8:=Nat.le_trans (pL (W:=⟨tk,ors,prs,row⟩) (g:=g) (by rw [e]; simp)) t8
   have hN':=Box.mk hN
   have hno':=Box.mk hno
   have e':=Box.mk e
   clear hN hno e hR7 gg gk
   refine au fun R8 hR8 => ?_
   simp only [sT]
   walk_at "rd"
   walk_at "cp"
   refine gb T.str row (fun A ys σ H2 => ∃ v : Option T,σ = [v,some (.tup (g.map T.str)),some (.ref pk)] /\ Sub3 H H2 /\ ys = (A.filter fun kd => mal ⟨tk,ors,prs,row⟩ g kd).map T.str) ⟨_,rfl,Sub3.refl,rfl⟩ ?_ ?_
   ·
    rintro ys σ H2 ⟨v,rfl,hS2,rfl⟩
    refine ⟨trivial,by rw [List.length_map]; exact Nat.le_trans (List.length_filter_le _ _) (by omega),fun pz hpz => ?_⟩
    walk_at "nx"
    have hS3:=hS.trans (hS2.trans (Sub3.new (o:=.lst ((row.filter fun kd => mal ⟨tk,ors,prs,row⟩ g kd).map T.str)) hpz))
    have gz : up3 H2 pz (.lst ((row.filter fun kd => mal ⟨tk,ors,prs,row⟩ g kd).map T.str)) pz = some (.lst ((row.filter fun kd => mal ⟨tk,ors,prs,row⟩ g kd).map T.str)):=ai
    generalize up3 H2 pz (.lst ((row.filter fun kd => mal ⟨tk,ors,prs,row⟩ g kd).map T.str)) = H10 at hS3 gz
    have no:=Box.mk (fun h : (!(row.any fun kd => mal ⟨tk,ors,prs,row⟩ g kd)) = false => fun Hx (hx : Sub3 H9 Hx) => hN'.out [some (T.tup [T.tup (tk.map tkT),T.tup (ors.map orT),T.tup (prs.map prT),T.tup (row.map T.str)]),some (.ref pa),some (.ref pn),some (.ref pf),v4,v5,v6,some (.ref pk),v8,v9,v10,some (.tup (g.map T.str)),some (.ref pz)] Hx ⟨_,_,rfl,hx,fun y hy => by
     rcases List.mem_append.mp hy with hy | hy
     ·
      exact hno'.out y hy
     ·
      rw [List.mem_singleton.mp hy]; exact h⟩)
    have yes:=Box.mk (fun h : (!(row.any fun kd => mal ⟨tk,ors,prs,row⟩ g kd)) = true => k5'.out g (wC (W:=⟨tk,ors,prs,row⟩) e'.out hno'.out h))
    have ef : (row.any fun kd => mal ⟨tk,ors,prs,row⟩ g kd) = !decide ((row.filter fun kd => mal ⟨tk,ors,prs,row⟩ g kd) = []):=by
     rw [Bool.eq_iff_iff,List.any_eq_true,Bool.not_eq_true',decide_eq_false_iff_not]
     constructor
     ·
      rintro ⟨x,hx,h⟩ z
      have:=List.mem_filter.mpr ⟨hx,h⟩
      rw [z] at this
      cases this
     ·
      intro h
      cases hf : row.filter fun kd => mal ⟨tk,ors,prs,row⟩ g kd with
      | nil => exact absurd hf h
      | cons x r =>
       have : x ∈ row.filter fun kd => mal ⟨tk,ors,prs,row⟩ g kd:=by rw [hf]; exact List.mem_cons_self
       exact ⟨x,(List.mem_filter.mp this).1,(List.mem_filter.mp this).2⟩
    rw [ef] at no yes
    have ip:=bV (row.filter fun kd => mal ⟨tk,ors,prs,row⟩ g kd)
    generalize (row.filter fun kd => mal ⟨tk,ors,prs,row⟩ g kd) = fs at *
    clear hN' hno' e' k5' k6' ef hk'
    walk_at "rd"
    refine ⟨by decide,fun pe hpe => ?_⟩
    have hne : pz ≠ pe:=a5 gz hpe
    have hS4:=hS3.trans (Sub3.new (o:=.lst []) hpe)
    rw [aj hne,gz]
    generalize up3 H10 pe (.lst []) = H11 at hS4
    walk_at "rd"
    refine ⟨trivial,trivial,rfl,?_⟩
    cases fs with
    | nil =>
     rw [if_pos (by simp)]
     exact ⟨by decide,Fin3.of (hS5.trans hS4) (yes.out rfl)⟩
    | cons y r =>
     rw [if_neg (by simp)]
     exact no.out (by simp) H11 hS4
   ·
    rintro A2 kd B2 ys σ H2 N2 e2 ⟨v,rfl,hS2,rfl⟩ hN2
    refine ⟨trivial,?_⟩
    have hA2 : A2.length <= 8:=by
     have:=congrArg List.length e2
     simp only [List.length_append,List.length_cons] at this
     omega
    have yes:=Box.mk (fun h : mal ⟨tk,ors,prs,row⟩ g kd = true => fun Hx (hx : Sub3 H Hx) => hN2 ((A2.filter fun kd => mal ⟨tk,ors,prs,row⟩ g kd).map T.str ++ [T.str kd]) [some (.str kd),some (.tup (g.map T.str)),some (.ref pk)] Hx ⟨_,rfl,hx,by rw [List.filter_append,List.map_append]; simp [h]⟩)
    have no:=Box.mk (fun h : mal ⟨tk,ors,prs,row⟩ g kd = false => fun Hx (hx : Sub3 H Hx) => hN2 ((A2.filter fun kd => mal ⟨tk,ors,prs,row⟩ g kd).map T.str) [some (.str kd),some (.tup (g.map T.str)),some (.ref pk)] Hx ⟨_,rfl,hx,by rw [List.filter_append,List.map_append]; simp [h]⟩)
    have hfl : ((A2.filter fun kd => mal ⟨tk,ors,prs,row⟩ g kd).map T.str).length <= 8:=by rw [List.length_map]; exact Nat.le_trans (List.length_filter_le _ _) hA2
    have gk2:=hS2 _ _ hgk
    clear hN2 hN' hno' e' k5' k6' hR8 e2
    generalize (A2.filter fun kd => mal ⟨tk,ors,prs,row⟩ g kd).map T.str = cur at *
    walk_at "rd"
    walk_at "cp"
    refine bw T.str (fun n => T.bl (dJ (kdW ⟨tk,ors,prs,row⟩ n) kd)) g [some (.str kd),some (.ref pk)] trivial (by omega) (fun n hn Q' hq => ?_) (fun pq hpq => ?_)
    ·
     obtain ⟨t,ht,rfl⟩:=List.mem_map.mp (hsub n hn)
     have el:=hk'.out t ht
     have m1:=iq kd (kdW ⟨tk,ors,prs,row⟩ t.1)
     have i1 : pl 20 (T.str kd) = true:=rfl
     have i2:=bV (kdW ⟨tk,ors,prs,row⟩ t.1)
     have i3 : ([] : List T).all (pl 20) = true:=rfl
     unfold dJ at hq
     generalize kdW ⟨tk,ors,prs,row⟩ t.1 = ks at *
     clear yes no hk'
     simp only [sT] at el
     walk_at "rd"
     refine ⟨by decide,trivial,trivial,?_⟩
     cases ks with
     | nil =>
      rw [if_pos (by simp)]
      exact hq
     | cons y r =>
      rw [if_neg (by simp)]
      rw [decide_eq_false (show ¬ y :: r = [] from fun z => nomatch z),Bool.false_or] at hq
      exact ⟨trivial,trivial,hq⟩
    ·
     rw [pM (fun n => dJ (kdW ⟨tk,ors,prs,row⟩ n) kd),bx,b5,List.all_map]
     have hS4:=hS2.trans (Sub3.new (o:=.lst ((g.map fun n => dJ (kdW ⟨tk,ors,prs,row⟩ n) kd).map T.bl)) hpq)
     generalize up3 H2 pq (.lst ((g.map fun n => dJ (kdW ⟨tk,ors,prs,row⟩ n) kd).map T.bl)) = H11 at hS4
     have em : (g.all (id ∘ fun n => dJ (kdW ⟨tk,ors,prs,row⟩ n) kd)) = mal ⟨tk,ors,prs,row⟩ g kd:=rX hW hsub kd
     rw [em]
     cases hm : mal ⟨tk,ors,prs,row⟩ g kd with
     | true =>
      have y:=yes.out hm H11 hS4
      rw [if_pos rfl]
      exact ⟨by omega,y⟩
     | false =>
      rw [if_neg Bool.false_ne_true]
      exact no.out hm H11 hS4
theorem wF {sp : dZ} {ts : List T} {H : Hp3} {Q : VK3} {E : YK3} (h : ∀ E',Shut (E' = E) -> sp ts H Q E') : sp ts H Q E:=h E ⟨rfl⟩
def ir : Sp3:=fun ts H Q => ∃ (W : Wk),ts = [W.enc] /\ WkOk W /\ (Ry W.orders -> Q (.tup [.str "ring"]) H) /\
 (¬ Ry W.orders -> (∀ p,trn (bp W) W.pairs = some p -> Q (.tup [.str "torn",.str p.2.1,.str p.2.2]) H) /\ (trn (bp W) W.pairs = none -> (∀ g,nst W (bp W) = some g -> Q (.tup [.str "stand",sT g]) H) /\ (nst W (bp W) = none -> Q (.tup [.str "none"]) H)))
abbrev pO : List Str:=["_law_works_here","_law_told_here","e"]
theorem sc_told : FnScope pO ["_law_works_here"] (ah (top 41)):=aR
theorem rY {f : Addr} {fd : FuncData} (g : G3 K mg "_law_told" (top 41) ["_law_works_here"] f fd) (B : Bl mg) {C_RowError C_NoRoom C_NoRow C_NoTask C_TooLong C_Twice C_Ring C_Torn C_NoStand : Addr} (A_RowError : AskC K mg "RowError" C_RowError) (m_NoRoom : mg "NoRoom" = some (.ref C_NoRoom)) (m_NoRow : mg "NoRow" = some (.ref C_NoRow)) (m_NoTask : mg "NoTask" = some (.ref C_NoTask)) (m_TooLong : mg "TooLong" = some (.ref C_TooLong)) (m_Twice : mg "Twice" = some (.ref C_Twice)) (m_Ring : mg "Ring" = some (.ref C_Ring)) (m_Torn : mg "Torn" = some (.ref C_Torn)) (m_NoStand : mg "NoStand" = some (.ref C_NoStand)) (b_ValueError : mg "ValueError" = none) (G_Ring : XIs K C_Ring) (hR_Ring : PySem.W.mroIn K C_Ring (.ref C_RowError) = some true) (hA_Ring : PySem.W.kitAny K (.ref C_Ring) [.ref C_NoRoom,.ref C_NoRow,.ref C_NoTask,.ref C_TooLong,.ref C_Twice] = some false) (hV_Ring : PySem.W.kitOne K (.ref C_Ring) (.type "ValueError") = some true) (h_Ring_Torn : PySem.W.kitOne K (.ref C_Ring) (.ref C_Torn) = some false) (h_Ring_NoStand : PySem.W.kitOne K (.ref C_Ring) (.ref C_NoStand) = some false) (G_Torn : XIs K C_Torn) (hR_Torn : PySem.W.mroIn K C_Torn (.ref C_RowError) = some true) (hA_Torn : PySem.W.kitAny K (.ref C_Torn) [.ref C_NoRoom,.ref C_NoRow,.ref C_NoTask,.ref C_TooLong,.ref C_Twice] = some false) (hV_Torn : PySem.W.kitOne K (.ref C_Torn) (.type "ValueError") = some true) (h_Torn_Ring : PySem.W.kitOne K (.ref C_Torn) (.ref C_Ring) = some false) (h_Torn_NoStand : PySem.W.kitOne K (.ref C_Torn) (.ref C_NoStand) = some false) (G_NoStand : XIs K C_NoStand) (hR_NoStand : PySem.W.mroIn K C_NoStand (.ref C_RowError) = some true) (hA_NoStand : PySem.W.kitAny K (.ref C_NoStand) [.ref C_NoRoom,.ref C_NoRow,.ref C_NoTask,.ref C_TooLong,.ref C_Twice] = some false) (hV_NoStand : PySem.W.kitOne K (.ref C_NoStand) (.type "ValueError") = some true) (h_NoStand_Ring : PySem.W.kitOne K (.ref C_NoStand) (.ref C_Ring) = some false) (h_NoStand_Torn : PySem.W.kitOne K (.ref C_NoStand) (.ref C_Torn) = some false) (f_one : PySem.W.findIn K (.ref C_Torn) "one" = some none) (f_other : PySem.W.findIn K (.ref C_Torn) "other" = some none) (f_tasks : PySem.W.findIn K (.ref C_NoStand) "tasks" = some none) (F_check_works : CalX P w K mg base 5 "check_works" (top 27) ["works"] (zn C_Ring C_Torn C_NoStand)) : Cal P w K mg base 6 "_law_told" (top 41) ["_law_works_here"] ir:=by
 refine ⟨f,fd,g,?_⟩
 refine fn3 g.fn sc_told (fun ts H Q h => ?_) (fun cdv A outer s H E ts H3 Q hr h => ?_)
 ·
  obtain ⟨W,rfl,_⟩:=h; rfl
 ·
  have hu30:=Room.u30 hr
  have hu31:=Room.u31 hr
  have hu1:=Room.u1 hr
  obtain ⟨⟨tk,ors,prs,row⟩,rfl,hW,k1,k2⟩:=h
  refine ⟨_,(ae (ak (i:=1) sc_told.nd (aL (aa bf ac)))
    (ae (rb 2 A_RowError sc_told.nd rfl rfl rfl rfl rfl (fun xe pn H0 E3 hM => (ag (a8 (aU l5 (ic F_check_works hM (hr.mono (by decide)) rfl (aa (v3 0) ac)) uh) (ag (ak (i:=1) sc_told.nd (aL (aa bf ac)))) aG))) (fun ea => (ae (ak (i:=1) sc_told.nd (aL (aa bf ac)))
     (ae (a8 (PW3.pt (sv (bj (aB (cG (K:=K) rfl) rfl B.isinstance_ a7 (aa (v3 2) (aa (aL (aa (cj rfl m_NoRoom) (aa (cj rfl m_NoRow) (aa (cj rfl m_NoTask) (aa (cj rfl m_TooLong) (aa (cj rfl m_Twice) ac)))))) ac)))) (mL (jz (bj (aB (cG (K:=K) rfl) rfl B.isinstance_ a7 (aa (v3 2) (aa (xG rfl b_ValueError fv) ac)))))))) (ag (aF (v3 1))) aG)
     (ae (a8 (aU (m9 hu30) (br PySem.F.plainAttrs_list PySem.F.slot_list_count PySem.F.type_list_count qZ (bb (aa (aB (cG (K:=K) rfl) rfl B.isinstance_ a7 (aa (v3 2) (aa (cj rfl m_Ring) ac))) (aa (aB (cG (K:=K) rfl) rfl B.isinstance_ a7 (aa (v3 2) (aa (cj rfl m_Torn) ac))) (aa (aB (cG (K:=K) rfl) rfl B.isinstance_ a7 (aa (v3 2) (aa (cj rfl m_NoStand) ac))) ac)))) (aa dc ac)) af) (ag (aF (v3 1))) aG)
     (ag (a8 (bj (aB (cG (K:=K) rfl) rfl B.isinstance_ a7 (aa (v3 2) (aa (cj rfl m_Ring) ac)))) (ag (ak (i:=1) sc_told.nd (aL (aa bf ac)))) (ag (a8 (bj (aB (cG (K:=K) rfl) rfl B.isinstance_ a7 (aa (v3 2) (aa (cj rfl m_Torn) ac)))) (ag (ak (i:=1) sc_told.nd (aL (aa bf (aa (jX (K:=K) rfl (v3 2)) (aa (jX (K:=K) rfl (v3 2)) ac)))))) (ag (ak (i:=1) sc_told.nd (aL (aa bf (aa (jX (K:=K) rfl (v3 2)) ac))))))))))))))
    (ag (aF (v3 1))))),?_⟩
  rw [show ay pO [Wk.enc ⟨tk,ors,prs,row⟩] = [some (T.tup [T.tup (tk.map tkT),T.tup (ors.map orT),T.tup (prs.map prT),T.tup (row.map T.str)]),none,none] from rfl]
  have hsz : sizeLine = 16777216:=rfl
  have k1':=Box.mk k1
  have k2':=Box.mk k2
  clear k1 k2
  refine au fun R0 hR0 => ?_
  walk_at "rd"
  refine ⟨by decide,?_⟩
  walk_at "nx"
  refine au fun R1 hR1 => ?_
  walk_at "rd"
  refine wF fun YE hYE => ?_
  have rest : ∀ (v : T) (H : Hp3),Sub3 H3 H -> Q v H3 -> R1 { nx:=fun x H' => Fin3 Q T.non H',rt:=Fin3 Q } [some (T.tup [T.tup (tk.map tkT),T.tup (ors.map orT),T.tup (prs.map prT),T.tup (row.map T.str)]),some v,none] H:=by
   intro v H hS q
   clear hYE
   walk_at "nx"
   walk_at "rd"
   exact Fin3.of hS q
  have rest':=Box.mk rest
  clear rest hR1
  have hand : ∀ (C : Addr) (fs : List (Str × T)) (b1 b2 b3 : Bool) (v : T),XIs K C -> PySem.W.mroIn K C (.ref C_RowError) = some true -> PySem.W.kitAny K (.ref C) [.ref C_NoRoom,.ref C_NoRow,.ref C_NoTask,.ref C_TooLong,.ref C_Twice] = some false -> PySem.W.kitOne K (.ref C) (.type "ValueError") = some true -> PySem.W.kitOne K (.ref C) (.ref C_Ring) = some b1 -> PySem.W.kitOne K (.ref C) (.ref C_Torn) = some b2 -> PySem.W.kitOne K (.ref C) (.ref C_NoStand) = some b3 ->
    ((b1 = true /\ b2 = false /\ b3 = false /\ v = .tup [.str "ring"]) \/ (b1 = false /\ b2 = true /\ b3 = false /\ C = C_Torn /\ ∃ x y,fs = [(("one" : Str),.str x),(("other" : Str),.str y)] /\ v = .tup [.str "torn",.str x,.str y]) \/ (b1 = false /\ b2 = false /\ b3 = true /\ C = C_NoStand /\ ∃ g,fs = [(("tasks" : Str),sT g)] /\ v = .tup [.str "stand",sT g])) -> Q v H3 -> YE C fs H3:=by
   intro C fs b1 b2 b3 v G hM hA hV h1 h2 h3 hc q
   obtain ⟨hYE⟩:=hYE
   subst hYE
   refine ⟨hM,fun ea dx e1 e2 e3 => ?_⟩
   have g1 : up3 (up3 H3 dx (.xdt fs)) ea (.exc C dx) ea = some (.exc C dx):=ai
   have g2 : up3 (up3 H3 dx (.xdt fs)) ea (.exc C dx) dx = some (.xdt fs):=by rw [aj (Ne.symm e3)]; exact ai
   have hS : Sub3 H3 (up3 (up3 H3 dx (.xdt fs)) ea (.exc C dx)):=(Sub3.new e2).trans (Sub3.new (by rw [aj e3]; exact e1))
   generalize up3 (up3 H3 dx (.xdt fs)) ea (.exc C dx) = H7 at g1 g2 hS
   have ty : TyX K H7 (.ref ea) (.ref C):=.inr ⟨ea,C,dx,_,rfl,g1,g2,G,rfl⟩
   have fin:=Box.mk (fun H' (h : Sub3 H7 H') => rest'.out v H' (hS.trans h) q)
   clear rest' hS q e1 e2 e3
   refine au fun R2 hR2 => ?_
   walk_at "rd"
   refine ⟨by decide,?_⟩
   walk_at "nx"
   refine au fun R3 hR3 => ?_
   walk_at "rd"
   refine ⟨by decide,.ref ea,_,.ref C,false,rfl,ty,.inr ⟨_,_,rfl,rfl,hA⟩,?_⟩
   walk_at "rd"
   refine ⟨.ref ea,_,.ref C,true,rfl,ty,.inl ⟨_,rfl,hV⟩,?_⟩
   walk_at "rd"
   walk_at "nx"
   refine au fun R4 hR4 => ?_
   walk_at "rd"
   refine ⟨.ref ea,_,.ref C,b1,rfl,ty,.inl ⟨_,rfl,h1⟩,?_⟩
   try dsimp only
   refine ⟨.ref ea,_,.ref C,b2,rfl,ty,.inl ⟨_,rfl,h2⟩,?_⟩
   try dsimp only
   refine ⟨.ref ea,_,.ref C,b3,rfl,ty,.inl ⟨_,rfl,h3⟩,?_⟩
   try dsimp only
   refine ⟨by decide,fun p hp => ⟨⟨trivial,trivial⟩,?_⟩⟩
   rw [show aK [T.bl b1,T.bl b2,T.bl b3] = some [b1,b2,b3] from bx [b1,b2,b3],b5]
   have hS8 : Sub3 H7 (up3 H7 p (.lst [T.bl b1,T.bl b2,T.bl b3])):=Sub3.new hp
   generalize up3 H7 p (.lst [T.bl b1,T.bl b2,T.bl b3]) = H8 at hS8
   replace g1:=hS8 _ _ g1
   replace g2:=hS8 _ _ g2
   have ty8 : TyX K H8 (.ref ea) (.ref C):=.inr ⟨ea,C,dx,_,rfl,g1,g2,G,rfl⟩
   have fin8:=Box.mk (fin.out H8 hS8)
   clear fin ty hS8 hp hA hV hM
   walk_at "nx"
   rcases hc with ⟨rfl,rfl,rfl,rfl⟩ | ⟨rfl,rfl,rfl,rfl,x,y,rfl,rfl⟩ | ⟨rfl,rfl,rfl,rfl,g,rfl,rfl⟩
   ·
    rw [if_neg (by decide)]
    walk_at "rd"
    refine ⟨.ref ea,_,.ref C,true,rfl,ty8,.inl ⟨_,rfl,h1⟩,?_⟩
    walk_at "rd"
    simp only [Ends3.gone]
    try walk_at "rd"
    exact ⟨by decide,fin8.out⟩
   ·
    rw [if_neg (by decide)]
    walk_at "rd"
    refine ⟨.ref ea,_,.ref C,false,rfl,ty8,.inl ⟨_,rfl,h1⟩,?_⟩
    walk_at "rd"
    refine ⟨.ref ea,_,.ref C,true,rfl,ty8,.inl ⟨_,rfl,h2⟩,?_⟩
    walk_at "rd"
    refine ⟨ea,C,dx,_,_,rfl,g1,g2,G.toXGet,f_one,rfl,ea,C,dx,_,_,rfl,g1,g2,G.toXGet,f_other,rfl,by decide,?_⟩
    simp only [Ends3.gone]
    try walk_at "rd"
    exact fin8.out
   ·
    rw [if_neg (by decide)]
    walk_at "rd"
    refine ⟨.ref ea,_,.ref C,false,rfl,ty8,.inl ⟨_,rfl,h1⟩,?_⟩
    walk_at "rd"
    refine ⟨.ref ea,_,.ref C,false,rfl,ty8,.inl ⟨_,rfl,h2⟩,?_⟩
    walk_at "rd"
    refine ⟨ea,C,dx,_,_,rfl,g1,g2,G.toXGet,f_tasks,rfl,by decide,?_⟩
    simp only [Ends3.gone]
    try walk_at "rd"
    exact fin8.out
  have hand':=Box.mk hand
  clear hand hYE
  have one : ∀ C : Addr,PySem.W.kitOne K (.ref C) (.ref C) = some true:=fun C => by unfold PySem.W.kitOne; rw [if_pos (by simp)]
  refine ⟨⟨tk,ors,prs,row⟩,rfl,hW,fun r R hR => ?_,fun nr => ⟨fun p hp => ?_,fun nt => ⟨fun g hg => ?_,fun ns => ?_⟩⟩⟩
  ·
   exact hand'.out _ _ true false false _ G_Ring hR_Ring hA_Ring hV_Ring (one _) h_Ring_Torn h_Ring_NoStand (.inl ⟨rfl,rfl,rfl,rfl⟩) (k1'.out r)
  ·
   exact hand'.out _ _ false true false _ G_Torn hR_Torn hA_Torn hV_Torn h_Torn_Ring (one _) h_Torn_NoStand (.inr (.inl ⟨rfl,rfl,rfl,rfl,_,_,rfl,rfl⟩)) ((k2'.out nr).1 p hp)
  ·
   exact hand'.out _ _ false false true _ G_NoStand hR_NoStand hA_NoStand hV_NoStand h_NoStand_Ring h_NoStand_Torn (one _) (.inr (.inr ⟨rfl,rfl,rfl,rfl,_,rfl,rfl⟩)) (((k2'.out nr).2 nt).1 g hg)
  ·
   have q:=((k2'.out nr).2 nt).2 ns
   have r:=Box.mk (rest'.out _ H3 Sub3.refl q)
   clear rest' hand' k1' k2' q
   walk_at "rd"
   exact r.out
def lq : Sp3:=fun ts H Q => ∃ (a : Addr) (ns : List Int),ts = [.ref a] /\ H a = some (.rol (ns.map T.int)) /\ ns.length <= 63 /\ ∀ H',Q (.bl true) H'
abbrev tf : List Str:=["_law_script","_law_cells","_law_works_here","_law_cell","_law_one","_law_other","_law_due_here"]
theorem sc_law : FnScope tf ["_law_script"] (ah (top 42)):=aR
theorem wG {f : Addr} {fd : FuncData} (g : G3 K mg "law" (top 42) ["_law_script"] f fd) (B : Bl mg) (F_deck : Cal P w K mg base 2 "_law_deck" (top 32) ["_law_script"] y4) (F_works : Cal P w K mg base 4 "_law_works" (top 37) ["_law_cells","_law_most","_law_withs"] zb) (F_next : Cal P w K mg base 2 "_law_next" (top 31) ["_law_cells"] rG) (F_due : Cal P w K mg base 2 "_law_due" (top 40) ["_law_works_here"] pN) (F_told : Cal P w K mg base 6 "_law_told" (top 41) ["_law_works_here"] ir) : FnOk3 P w K mg base 7 f fd ["_law_script"] lq:=by
 refine fn3 g.fn sc_law (fun ts H Q h => ?_) (fun cdv A outer s H E ts H3 Q hr h => ?_)
 ·
  obtain ⟨a,ns,rfl,_⟩:=h; rfl
 ·
  have hu30:=Room.u30 hr
  have hu31:=Room.u31 hr
  have hu1:=Room.u1 hr
  obtain ⟨a,ns,rfl,ha,hl,k⟩:=h
  refine ⟨_,(ae (ak (i:=1) sc_law.nd (aD F_deck hr rfl (aa (v3 0) ac)))
    (ae (ak (i:=2) sc_law.nd (aD F_works hr rfl (aa (v3 1) (aa af (aa (am aY af (am aA (aD F_next hr rfl (aa (v3 1) ac)) af)) ac)))))
    (ae (ak (i:=3) sc_law.nd (aD F_next hr rfl (aa (v3 1) ac)))
    (ae (a8 (PW3.pt (ce (aU (bG hu30) (am aA (v3 3) af) af) (ce (aU (m9 hu30) (aw ix3 (v3 2) af) (aL ac)) (b6 (aU sH (aB ci rfl B.len_ bX (aa (aw ix3 (v3 2) af) ac)) af))))) (ae (jB (aw ix3 (aw ix3 (v3 2) af) (am aA (am aH (v3 3) af) (aB ci rfl B.len_ bX (aa (aw ix3 (v3 2) af) ac)))) (cg (n:=2) rfl (ax (ao (i:=4) sc_law.nd) (ax (ao (i:=5) sc_law.nd) bM))))
     (ag (ak (i:=2) sc_law.nd (aL (aa (aw ix3 (v3 2) af) (aa (am aY (aw ix3 (v3 2) af) (aL (aa (aL (aa (v3 5) (aa (v3 4) ac))) ac))) (aa (aw ix3 (v3 2) af) (aa (aw ix3 (v3 2) af) ac)))))))) aG)
    (ae (ak (i:=6) sc_law.nd (aD F_due hr rfl (aa (v3 2) ac)))
    (ag (aF (mO (bQ (bG hu30) (aD F_told hr rfl (aa (v3 2) ac)) (v3 6)) (gG (bQ (bG hu30) (aD F_told hr rfl (aa (v3 2) ac)) (v3 6))))))))))),?_⟩
  rw [show ay tf [T.ref a] = [some (T.ref a),none,none,none,none,none,none] from rfl]
  have hsz : sizeLine = 16777216:=rfl
  have k':=Box.mk k
  clear k
  refine au fun R0 hR0 => ?_
  walk_at "rd"
  refine ⟨a,ns,rfl,ha,hl,fun c H1 hS hc0 hC => ?_⟩
  walk_at "nx"
  refine au fun R1 hR1 => ?_
  walk_at "rd"
  refine ⟨c,rfl,hC,fun n0 H2 hD0 => ?_⟩
  walk_at "rd"
  refine ⟨by decide,?_⟩
  refine ⟨c,8,_,rfl,by decide,by decide,hD0.cl,fun W H4 hW _ hasy hD => ?_⟩
  walk_at "nx"
  have hcl:=hD.cl
  clear hC hD0 hS hD
  obtain ⟨tk,ors,prs,row⟩:=W
  replace hasy : ∀ o ∈ ors,(o.2,o.1) ∉ ors:=hasy
  have t8 : tk.length <= 8:=hW.t8
  have o28 : ors.length <= 28:=hW.os
  rw [show Wk.enc ⟨tk,ors,prs,row⟩ = T.tup [T.tup (tk.map tkT),T.tup (ors.map orT),T.tup (prs.map prT),T.tup (row.map T.str)] from rfl]
  try dsimp only
  refine au fun R2 hR2 => ?_
  walk_at "rd"
  refine ⟨c,rfl,hcl,fun n1 H5 hD5 => ?_⟩
  walk_at "nx"
  clear hD5 hcl
  try dsimp only
  refine au fun R3 hR3 => ?_
  have fin : ∀ (O : List (Str × Str)) (v4 v5 : Option T) (H : Hp3),WkOk ⟨tk,O,prs,row⟩ -> R3 { nx:=fun x H' => Fin3 Q T.non H',rt:=Fin3 Q } [some (T.ref a),some (T.ref c),some (T.tup [T.tup (tk.map tkT),T.tup (O.map orT),T.tup (prs.map prT),T.tup (row.map T.str)]),some (T.int n1),v4,v5,none] H:=by
   intro O v4 v5 H hO
   walk_at "nx"
   clear hasy o28 hW
   refine au fun R4 hR4 => ?_
   have go : ∀ (xs : List T),xs.all (pl 20) = true -> (∀ Q' : VK3,Q' (.tup xs) H -> ir [T.tup [T.tup (tk.map tkT),T.tup (O.map orT),T.tup (prs.map prT),T.tup (row.map T.str)]] H Q') -> R4 { nx:=fun x H' => Fin3 Q T.non H',rt:=Fin3 Q } [some (T.ref a),some (T.ref c),some (T.tup [T.tup (tk.map tkT),T.tup (O.map orT),T.tup (prs.map prT),T.tup (row.map T.str)]),some (T.int n1),v4,v5,some (.tup xs)] H:=by
    intro xs hp ht
    walk_at "nx"
    have ht':=Box.mk ht
    clear ht hO
    walk_at "rd"
    refine ht'.out _ ?_
    walk_at "rd"
    refine ⟨trivial,trivial,?_⟩
    refine ht'.out _ ?_
    walk_at "rd"
    exact ⟨trivial,trivial,Fin3.of Sub3.refl (k'.out _)⟩
   have go':=Box.mk go
   clear go hR4
   walk_at "rd"
   refine ⟨⟨tk,O,prs,row⟩,rfl,hO,fun r => go'.out _ rfl fun Q' q => ⟨⟨tk,O,prs,row⟩,rfl,hO,fun _ => q,fun nr => absurd r nr⟩,fun nr => ⟨fun p hp => go'.out _ rfl fun Q' q => ⟨⟨tk,O,prs,row⟩,rfl,hO,fun r => absurd r nr,fun _ => ⟨fun p' hp' => by cases hp.symm.trans hp'; exact q,fun h => nomatch hp.symm.trans h⟩⟩,fun nt => ⟨fun g hg => go'.out _ (by simp [pl,sT]) fun Q' q => ⟨⟨tk,O,prs,row⟩,rfl,hO,fun r => absurd r nr,fun _ => ⟨(fun p' hp' => nomatch nt.symm.trans hp'),fun _ => ⟨fun g' hg' => by cases hg.symm.trans hg'; exact q,fun h => nomatch hg.symm.trans h⟩⟩⟩,fun ns => go'.out _ rfl fun Q' q => ⟨⟨tk,O,prs,row⟩,rfl,hO,fun r => absurd r nr,fun _ => ⟨(fun p' hp' => nomatch nt.symm.trans hp'),fun _ => ⟨(fun g' hg' => nomatch ns.symm.trans hg'),fun _ => q⟩⟩⟩⟩⟩⟩
  have fin':=Box.mk fin
  clear fin hR3
  have i1:=oN ors
  have same:=Box.mk (fin'.out ors none none H5 hW)
  have more:=Box.mk (fun (x y : Str) (hxy : (x,y) ∈ ors) (h28 : ors.length < 28) => fin'.out (ors ++ [(y,x)]) (some (.str x)) (some (.str y)) H5 (hW.order (hW.oo _ hxy).2.2 (hW.oo _ hxy).2.1 (Ne.symm (hW.oo _ hxy).1) (hasy _ hxy) h28))
  clear fin' hasy hW
  walk_at "rd"
  refine ⟨by decide,?_⟩
  by_cases c1 : n1 % 4 = 1
  ·
   rw [if_pos (decide_eq_true c1)]
   refine ⟨by decide,trivial,rfl,?_⟩
   by_cases c2 : ors.map orT = []
   ·
    rw [if_neg (by rw [decide_eq_true c2]; decide)]
    exact same.out
   ·
    rw [if_pos (by rw [decide_eq_false c2]; rfl)]
    by_cases c3 : (ors.length : Int) < 28
    ·
     rw [if_pos (decide_eq_true c3)]
     have hl0 : 0 < ors.length:=List.length_pos_iff.mpr fun z => c2 (by rw [z]; rfl)
     have e0:=Int.emod_nonneg (n1 / 4) (show (ors.length : Int) ≠ 0 by omega)
     have e1:=Int.emod_lt_of_pos (n1 / 4) (show (0 : Int) < (ors.length : Int) by omega)
     obtain ⟨⟨x,y⟩,hxy,ex⟩:=iR ors (n1 / 4 % (ors.length : Int)) e0 e1
     refine ⟨⟨by decide,by decide +kernel⟩,by omega,?_⟩
     rw [eU,ex,Option.map_some,b5]
     have m:=Box.mk (more.out x y hxy (by omega))
     clear more same ex c1 c2
     simp only [orT]
     walk_at "rd"
     have mo:=m.out
     rw [List.map_append] at mo
     exact ⟨by first | trivial | decide,by first | trivial | decide,by decide,by omega,by decide,mo⟩
    ·
     rw [if_neg (by rw [decide_eq_false c3]; exact Bool.false_ne_true)]
     exact same.out
  ·
   rw [if_neg (by rw [decide_eq_false c1]; exact Bool.false_ne_true)]
   exact same.out
end
section
variable {P : Program} {w : World} {K : PySem.W.Frag} {mg : Str -> Option Value} {base : Heap}
abbrev kc : List Str:=["self","ring"]
theorem sd : FnScope kc kc (ah (topm 13 0)):=aR
theorem se {f : Addr} {fd : FuncData} (F : Fun K "__init__" "Ring.__init__" (topm 13 0) f fd) : FnOk P w K mg base CX0 1 f fd kc (eW K ["ring"]):=by
 refine F.ok sd (fun vs H Q E ⟨e,ys,C,cd,h1,h2,_⟩ => by rw [h1]; simp [h2]) fun cdv A outer s H vs Q E hr h => ?_
 refine ⟨_,d3 (oF (pv 0) (pv 1) rfl),?_⟩
 obtain ⟨e,ys,C,cd,rfl,hl,he,S,hn,k⟩:=h
 match ys,hl with
 | [y],_ =>
  exact ⟨y,rfl,V.ref e,rfl,e,C,cd,true,rfl,he,S,hn "ring" (by simp),fun dx hdx hne => k dx hdx hne⟩
abbrev ke : List Str:=["self","one","other"]
theorem sf : FnScope ke ke (ah (topm 14 0)):=aR
theorem si {f : Addr} {fd : FuncData} (F : Fun K "__init__" "Torn.__init__" (topm 14 0) f fd) : FnOk P w K mg base CX0 1 f fd ke (eW K ["one","other"]):=by
 refine F.ok sf (fun vs H Q E ⟨e,ys,C,cd,h1,h2,_⟩ => by rw [h1]; simp [h2]) fun cdv A outer s H vs Q E hr h => ?_
 refine ⟨_,iz (oF (pv 0) (pv 1) rfl) (d3 (yV (pv 0) (pv 2) rfl)),?_⟩
 obtain ⟨e,ys,C,cd,rfl,hl,he,S,hn,k⟩:=h
 match ys,hl with
 | [y,z],_ =>
  refine ⟨y,rfl,V.ref e,rfl,e,C,cd,true,rfl,he,S,hn "one" (by simp),fun dx hdx hne => ?_⟩
  refine ⟨z,rfl,V.ref e,rfl,e,C,cd,true,dx,[("one",y)],rfl,aC,(aq hne).trans aC,(by decide : 1 < 1000),S,hn "other" (by simp),?_⟩
  have e1 : cU "other" z [("one",y)] = [(("one" : Str),y),(("other" : Str),z)]:=by
   unfold cU
   rw [if_neg (by decide)]
   rfl
  rw [e1,oG (Ne.symm hne),pR]
  exact k dx hdx hne
abbrev cT : List Str:=["self","tasks"]
theorem kh : FnScope cT cT (ah (topm 15 0)):=aR
theorem ki {f : Addr} {fd : FuncData} (F : Fun K "__init__" "NoStand.__init__" (topm 15 0) f fd) : FnOk P w K mg base CX0 1 f fd cT (eW K ["tasks"]):=by
 refine F.ok kh (fun vs H Q E ⟨e,ys,C,cd,h1,h2,_⟩ => by rw [h1]; simp [h2]) fun cdv A outer s H vs Q E hr h => ?_
 refine ⟨_,d3 (oF (pv 0) (pv 1) rfl),?_⟩
 obtain ⟨e,ys,C,cd,rfl,hl,he,S,hn,k⟩:=h
 match ys,hl with
 | [y],_ =>
  exact ⟨y,rfl,V.ref e,rfl,e,C,cd,true,rfl,he,S,hn "tasks" (by simp),fun dx hdx hne => k dx hdx hne⟩
end
noncomputable def pP (K : PySem.W.Frag) : Bool:=K.all fun p => !(p.2.cls == .type "list")
theorem pQ {K : PySem.W.Frag} {a : Addr} {o : Obj} (e : K.lookup a = some o) : (a,o) ∈ K:=by
 induction K with
 | nil => cases e
 | cons p r ih =>
  obtain ⟨b,u⟩:=p
  rw [List.lookup_cons] at e
  split at e
  ·
   rename_i h
   rw [eq_of_beq h,Option.some.inj e]
   exact List.mem_cons_self
  ·
   exact List.mem_cons_of_mem _ (ih e)
theorem me {K : PySem.W.Frag} (h : pP K = true) {a : Addr} {o : Obj} (e : K.lookup a = some o) : o.cls ≠ .type "list":=fun z => by
 have hm : (a,o) ∈ K:=pQ e
 have q:=List.all_eq_true.mp h (a,o) hm
 rw [z] at q
 simp at q
theorem uc {n : Nat} {us : List Value} (h : us.length = n + 1) : ∃ (a : Value) (r : List Value),us = a :: r /\ r.length = n:=by
 cases us with
 | nil => exact nomatch h
 | cons a r => exact ⟨a,r,rfl,Nat.succ.inj h⟩
theorem uz {us : List Value} (h : us.length = 0) : us = []:=List.eq_nil_of_length_eq_zero h
theorem ub1 {fd : FuncData} {x0 : Str} (h : ∀ a0 : Value,bindArgs fd ⟨[a0],[]⟩ = pure ([x0].zip [a0])) (us : List Value) (e : us.length = 1) : bindArgs fd ⟨us,[]⟩ = pure ([x0].zip us):=by
 obtain ⟨a0,r0,q0,e0⟩:=uc e
 rw [q0,uz e0]; exact h a0
theorem ub2 {fd : FuncData} {x0 x1 : Str} (h : ∀ a0 a1 : Value,bindArgs fd ⟨[a0,a1],[]⟩ = pure ([x0,x1].zip [a0,a1])) (us : List Value) (e : us.length = 2) : bindArgs fd ⟨us,[]⟩ = pure ([x0,x1].zip us):=by
 obtain ⟨a0,r0,q0,e0⟩:=uc e
 obtain ⟨a1,r1,q1,e1⟩:=uc e0
 rw [q0,q1,uz e1]; exact h a0 a1
theorem ub3 {fd : FuncData} {x0 x1 x2 : Str} (h : ∀ a0 a1 a2 : Value,bindArgs fd ⟨[a0,a1,a2],[]⟩ = pure ([x0,x1,x2].zip [a0,a1,a2])) (us : List Value) (e : us.length = 3) : bindArgs fd ⟨us,[]⟩ = pure ([x0,x1,x2].zip us):=by
 obtain ⟨a0,r0,q0,e0⟩:=uc e
 obtain ⟨a1,r1,q1,e1⟩:=uc e0
 obtain ⟨a2,r2,q2,e2⟩:=uc e1
 rw [q0,q1,q2,uz e2]; exact h a0 a1 a2
theorem ub4 {fd : FuncData} {x0 x1 x2 x3 : Str} (h : ∀ a0 a1 a2 a3 : Value,bindArgs fd ⟨[a0,a1,a2,a3],[]⟩ = pure ([x0,x1,x2,x3].zip [a0,a1,a2,a3])) (us : List Value) (e : us.length = 4) : bindArgs fd ⟨us,[]⟩ = pure ([x0,x1,x2,x3].zip us):=by
 obtain ⟨a0,r0,q0,e0⟩:=uc e
 obtain ⟨a1,r1,q1,e1⟩:=uc e0
 obtain ⟨a2,r2,q2,e2⟩:=uc e1
 obtain ⟨a3,r3,q3,e3⟩:=uc e2
 rw [q0,q1,q2,q3,uz e3]; exact h a0 a1 a2 a3
theorem Aa {K : PySem.W.Frag} {h : Heap} {mg : Str -> Option Value} {x : Str} {st : Stmt} {ps : List Str} {f : Addr} {oc : Value} {od an : Option Addr} {osl : Array (Option Value)} {kV doc pm cdv ct : Value} (X : K.In h) (G : h.Ns mainGlobals mg)
  (a : PySem.W.nsIn K mainGlobals x = some (some (.ref f))) (l : K.lookup f = some ⟨oc,od,.func (PySem.W.fnOf x x (a9 st) (aT st) (ah st) .none kV doc pm an cdv ct),osl⟩) (c : PySem.W.codeIn K cdv x = true) (k : PySem.W.keepIn K (.ref f) = true)
  (hb : ∀ (kV doc pm : Value) (an : Option Addr) (cdv ct : Value) (us : List Value),us.length = ps.length -> bindArgs (PySem.W.fnOf x x (a9 st) (aT st) (ah st) .none kV doc pm an cdv ct) ⟨us,[]⟩ = pure (ps.zip us)) :
  G3 K mg x st ps f (PySem.W.fnOf x x (a9 st) (aT st) (ah st) .none kV doc pm an cdv ct) :=
 have F:=gE (st:=st) l c k
 ⟨F,F.binds hb,PySem.W.mg_of X G a⟩
theorem bA (i : Nat) (ps : List Str) (x : Str) (f : Addr) (m : Str) (t c : Nat) {K : PySem.W.Frag} {h : Heap} {mg : Str -> Option Value} (X : K.In h) (G : h.Ns mainGlobals mg)
  (hb : ∀ (kV doc pm : Value) (an : Option Addr) (cdv ct : Value) (us : List Value),us.length = ps.length -> bindArgs (PySem.W.fnOf x x (a9 (top i)) (aT (top i)) (ah (top i)) .none kV doc pm an cdv ct) ⟨us,[]⟩ = pure (ps.zip us))
  (a : PySem.W.nsIn K mainGlobals x = some (some (.ref f)):=by kernel_rfl) (l : K.lookup f = some (fO i x m t c):=by kernel_rfl) (e : PySem.W.codeIn K (.ref c) x = true:=by kernel_rfl) (k : PySem.W.keepIn K (.ref f) = true:=by kernel_rfl) :
  G3 K mg x (top i) ps f (PySem.W.fnOf x x (a9 (top i)) (aT (top i)) (ah (top i)) .none .none .none (.str m t) none (.ref c) .none) :=
 Aa X G a l e k hb
noncomputable def zp : Stmt -> Pos -> Pos
 | .FunctionDef _ _ _ _ _ _ _ _ _ p,_ => p
 | _,p => p
noncomputable def dv : DefRec:=⟨"law",a9 (top 42),aT (top 42),ah (top 42),zp (top 42) default⟩
theorem all_ok {l : PySem.W.OpenLaw} {w : World} {h : Heap} {mg : Str -> Option Value} {fa : Addr} (X : (KK w.params).In h) (G : h.Ns mainGlobals mg) (hfa : mg "law" = some (.ref fa)) :
  ∃ fd : FuncData,(∀ (s : Shared) (v : Value),BindsTo s fd ⟨[v],[]⟩ [("_law_script",v)]) /\ ∀ base : Heap,(KK w.params).In base -> base.Ns mainGlobals mg -> FnOk3 l.prog w (KK w.params) mg base 7 fa fd ["_law_script"] lq:=by
 have at_ : ∀ {n : Str} {v : Value},PySem.W.nsIn (KK w.params) mainGlobals n = some (some v) -> mg n = some v:=fun e => PySem.W.mg_of X G e
 have no_ : ∀ {n : Str},PySem.W.nsIn (KK w.params) mainGlobals n = some none -> mg n = none:=fun e => PySem.W.mg_none_of X G e
 have e:=hfa.symm.trans (at_ (v:=.ref 364) (by kernel_rfl))
 cases e
 have B : Bl mg:=⟨no_ (by kernel_rfl),no_ (by kernel_rfl),no_ (by kernel_rfl),no_ (by kernel_rfl),no_ (by kernel_rfl),no_ (by kernel_rfl),no_ (by kernel_rfl),no_ (by kernel_rfl),no_ (by kernel_rfl),no_ (by kernel_rfl),no_ (by kernel_rfl),no_ (by kernel_rfl),no_ (by kernel_rfl),no_ (by kernel_rfl),no_ (by kernel_rfl),no_ (by kernel_rfl),no_ (by kernel_rfl),no_ (by kernel_rfl),no_ (by kernel_rfl),no_ (by kernel_rfl)⟩
 have g_links_of:=bA 1 ["works"] "links_of" 21 "stationrow.chains" 187 20 X G fun _ _ _ _ _ _ => ub1 fun _ => rfl
 have g_reached:=bA 2 ["links","start"] "reached" 28 "stationrow.chains" 187 27 X G fun _ _ _ _ _ _ => ub2 fun _ _ => rfl
 have g_led_to:=bA 3 ["works","task"] "led_to" 35 "stationrow.chains" 187 34 X G fun _ _ _ _ _ _ => ub2 fun _ _ => rfl
 have g_led_from:=bA 4 ["works","task"] "led_from" 40 "stationrow.chains" 187 39 X G fun _ _ _ _ _ _ => ub2 fun _ _ => rfl
 have g_in_both:=bA 5 ["works","found","other"] "in_both" 45 "stationrow.chains" 187 44 X G fun _ _ _ _ _ _ => ub3 fun _ _ _ => rfl
 have g_group_of:=bA 6 ["works","task"] "group_of" 52 "stationrow.chains" 187 51 X G fun _ _ _ _ _ _ => ub2 fun _ _ => rfl
 have g_groups_of:=bA 7 ["works"] "groups_of" 59 "stationrow.chains" 187 58 X G fun _ _ _ _ _ _ => ub1 fun _ => rfl
 have g_steps_on_rings:=bA 19 ["orders"] "steps_on_rings" 224 "stationrow.checks" 465 223 X G fun _ _ _ _ _ _ => ub1 fun _ => rfl
 have g_ring_from:=bA 20 ["steps","start"] "ring_from" 231 "stationrow.checks" 465 230 X G fun _ _ _ _ _ _ => ub2 fun _ _ => rfl
 have g_check_rings:=bA 21 ["works"] "check_rings" 238 "stationrow.checks" 465 237 X G fun _ _ _ _ _ _ => ub1 fun _ => rfl
 have g_share_group:=bA 22 ["groups","one","other"] "share_group" 243 "stationrow.checks" 465 242 X G fun _ _ _ _ _ _ => ub3 fun _ _ _ => rfl
 have g_check_torn:=bA 23 ["works","groups"] "check_torn" 250 "stationrow.checks" 465 249 X G fun _ _ _ _ _ _ => ub2 fun _ _ => rfl
 have g_may_be_done:=bA 24 ["kinds","kind"] "may_be_done" 257 "stationrow.checks" 465 256 X G fun _ _ _ _ _ _ => ub2 fun _ _ => rfl
 have g_may_all_be_done:=bA 25 ["works","group","kind"] "may_all_be_done" 262 "stationrow.checks" 465 261 X G fun _ _ _ _ _ _ => ub3 fun _ _ _ => rfl
 have g_check_stands:=bA 26 ["works","groups"] "check_stands" 267 "stationrow.checks" 465 266 X G fun _ _ _ _ _ _ => ub2 fun _ _ => rfl
 have g_check_works:=bA 27 ["works"] "check_works" 274 "stationrow.checks" 465 273 X G fun _ _ _ _ _ _ => ub1 fun _ => rfl
 have g_names:=bA 29 ["_law_cell","_law_many"] "_law_names" 281 "law_stationrow_k13_whole_check" 540 280 X G fun _ _ _ _ _ _ => ub2 fun _ _ => rfl
 have g_wide:=bA 30 ["_law_number"] "_law_wide" 288 "law_stationrow_k13_whole_check" 540 287 X G fun _ _ _ _ _ _ => ub1 fun _ => rfl
 have g_next:=bA 31 ["_law_cells"] "_law_next" 295 "law_stationrow_k13_whole_check" 540 294 X G fun _ _ _ _ _ _ => ub1 fun _ => rfl
 have g_deck:=bA 32 ["_law_script"] "_law_deck" 302 "law_stationrow_k13_whole_check" 540 301 X G fun _ _ _ _ _ _ => ub1 fun _ => rfl
 have g_tasks:=bA 33 ["_law_cells","_law_names_here","_law_pool","_law_free"] "_law_tasks" 309 "law_stationrow_k13_whole_check" 540 308 X G fun _ _ _ _ _ _ => ub4 fun _ _ _ _ => rfl
 have g_turn:=bA 34 ["_law_cell","_law_names_here"] "_law_turn" 316 "law_stationrow_k13_whole_check" 540 315 X G fun _ _ _ _ _ _ => ub2 fun _ _ => rfl
 have g_orders:=bA 35 ["_law_cell","_law_turn_here","_law_often"] "_law_orders" 323 "law_stationrow_k13_whole_check" 540 322 X G fun _ _ _ _ _ _ => ub3 fun _ _ _ => rfl
 have g_pairs:=bA 36 ["_law_cell","_law_names_here","_law_many","_law_withs"] "_law_pairs" 330 "law_stationrow_k13_whole_check" 540 329 X G fun _ _ _ _ _ _ => ub4 fun _ _ _ _ => rfl
 have g_works:=bA 37 ["_law_cells","_law_most","_law_withs"] "_law_works" 335 "law_stationrow_k13_whole_check" 540 334 X G fun _ _ _ _ _ _ => ub3 fun _ _ _ => rfl
 have g_reach:=bA 38 ["_law_works_here","_law_words"] "_law_reach" 340 "law_stationrow_k13_whole_check" 540 339 X G fun _ _ _ _ _ _ => ub2 fun _ _ => rfl
 have g_groups:=bA 39 ["_law_names_here","_law_far"] "_law_groups" 345 "law_stationrow_k13_whole_check" 540 344 X G fun _ _ _ _ _ _ => ub2 fun _ _ => rfl
 have g_due:=bA 40 ["_law_works_here"] "_law_due" 350 "law_stationrow_k13_whole_check" 540 349 X G fun _ _ _ _ _ _ => ub1 fun _ => rfl
 have g_told:=bA 41 ["_law_works_here"] "_law_told" 357 "law_stationrow_k13_whole_check" 540 356 X G fun _ _ _ _ _ _ => ub1 fun _ => rfl
 have g_law:=bA 42 ["_law_script"] "law" 364 "law_stationrow_k13_whole_check" 540 363 X G fun _ _ _ _ _ _ => ub1 fun _ => rfl
 refine ⟨PySem.W.fnOf "law" "law" (a9 (top 42)) (aT (top 42)) (ah (top 42)) .none .none .none (.str "law_stationrow_k13_whole_check" 540) none (.ref 363) .none,fun s v => .of_eq rfl,fun base _ _ => ?_⟩
 have I_Ring : Fun (KK w.params) "__init__" "Ring.__init__" (topm 13 0) 143 (PySem.W.fnOf "__init__" "Ring.__init__" (a9 (topm 13 0)) (aT (topm 13 0)) (ah (topm 13 0)) .none .none .none (.str "stationrow.errors" 250) none (.ref 142) .none):=gE (oc:=.type "function") (od:=none) (osl:=#[]) (by kernel_rfl) (by kernel_rfl) (by kernel_rfl)
 obtain ⟨cd_Ring,S_Ring⟩:=ib (K:=KK w.params) (C:=146) (by kernel_rfl) (by kernel_rfl) (by kernel_rfl)
 have NF_Ring : ∀ n ∈ (["ring"] : List Str),PySem.W.findIn (KK w.params) (.ref 146) n = some none:=fun n hn => by
  rcases List.mem_cons.mp hn with rfl | hn
  ·
   kernel_rfl
  ·
   exact nomatch hn
 have X_Ring : ExcC l.prog w (KK w.params) mg base "Ring" 146 ["ring"]:=⟨at_ (v:=.ref 146) (by kernel_rfl),⟨143,_,["self","ring"],cd_Ring,⟨by kernel_rfl,by kernel_rfl,by kernel_rfl⟩,S_Ring,se I_Ring,I_Ring.binds fun _ _ _ _ _ _ => ub2 fun _ _ => rfl⟩,NF_Ring,by decide⟩
 have I_Torn : Fun (KK w.params) "__init__" "Torn.__init__" (topm 14 0) 162 (PySem.W.fnOf "__init__" "Torn.__init__" (a9 (topm 14 0)) (aT (topm 14 0)) (ah (topm 14 0)) .none .none .none (.str "stationrow.errors" 250) none (.ref 161) .none):=gE (oc:=.type "function") (od:=none) (osl:=#[]) (by kernel_rfl) (by kernel_rfl) (by kernel_rfl)
 obtain ⟨cd_Torn,S_Torn⟩:=ib (K:=KK w.params) (C:=165) (by kernel_rfl) (by kernel_rfl) (by kernel_rfl)
 have NF_Torn : ∀ n ∈ (["one","other"] : List Str),PySem.W.findIn (KK w.params) (.ref 165) n = some none:=fun n hn => by
  rcases List.mem_cons.mp hn with rfl | hn
  ·
   kernel_rfl
  ·
   rw [List.mem_singleton.mp hn]; kernel_rfl
 have X_Torn : ExcC l.prog w (KK w.params) mg base "Torn" 165 ["one","other"]:=⟨at_ (v:=.ref 165) (by kernel_rfl),⟨162,_,["self","one","other"],cd_Torn,⟨by kernel_rfl,by kernel_rfl,by kernel_rfl⟩,S_Torn,si I_Torn,I_Torn.binds fun _ _ _ _ _ _ => ub3 fun _ _ _ => rfl⟩,NF_Torn,by decide⟩
 have I_NoStand : Fun (KK w.params) "__init__" "NoStand.__init__" (topm 15 0) 181 (PySem.W.fnOf "__init__" "NoStand.__init__" (a9 (topm 15 0)) (aT (topm 15 0)) (ah (topm 15 0)) .none .none .none (.str "stationrow.errors" 250) none (.ref 180) .none):=gE (oc:=.type "function") (od:=none) (osl:=#[]) (by kernel_rfl) (by kernel_rfl) (by kernel_rfl)
 obtain ⟨cd_NoStand,S_NoStand⟩:=ib (K:=KK w.params) (C:=184) (by kernel_rfl) (by kernel_rfl) (by kernel_rfl)
 have NF_NoStand : ∀ n ∈ (["tasks"] : List Str),PySem.W.findIn (KK w.params) (.ref 184) n = some none:=fun n hn => by
  rcases List.mem_cons.mp hn with rfl | hn
  ·
   kernel_rfl
  ·
   exact nomatch hn
 have X_NoStand : ExcC l.prog w (KK w.params) mg base "NoStand" 184 ["tasks"]:=⟨at_ (v:=.ref 184) (by kernel_rfl),⟨181,_,cT,cd_NoStand,⟨by kernel_rfl,by kernel_rfl,by kernel_rfl⟩,S_NoStand,ki I_NoStand,I_NoStand.binds fun _ _ _ _ _ _ => ub2 fun _ _ => rfl⟩,NF_NoStand,by decide⟩
 have F_wide:=rH (P:=l.prog) (w:=w) (base:=base) g_wide B
 have F_deck:=rK (P:=l.prog) (w:=w) (base:=base) g_deck B F_wide
 have F_turn:=rL (P:=l.prog) (w:=w) (base:=base) g_turn B
 have F_next:=rJ (P:=l.prog) (w:=w) (base:=base) g_next B F_wide
 have F_pairs:=o9 (P:=l.prog) (w:=w) (base:=base) g_pairs B
 have F_orders:=l7 (P:=l.prog) (w:=w) (base:=base) g_orders B
 have F_tasks:=pA (P:=l.prog) (w:=w) (base:=base) g_tasks B F_next
 have F_names:=ph (P:=l.prog) (w:=w) (base:=base) g_names B
 have F_works:=pB (P:=l.prog) (w:=w) (base:=base) g_works B F_turn F_next F_pairs F_orders F_tasks F_names
 have F_reach:=pH (P:=l.prog) (w:=w) (base:=base) g_reach B
 have F_groups:=md (P:=l.prog) (w:=w) (base:=base) g_groups B
 have F_due:=wD (P:=l.prog) (w:=w) (base:=base) g_due B F_reach F_groups
 have F_in_both:=j8 (P:=l.prog) (w:=w) (base:=base) g_in_both B
 have F_reached:=j6 (P:=l.prog) (w:=w) (base:=base) g_reached B
 have F_links_of:=jf (P:=l.prog) (w:=w) (base:=base) g_links_of B
 have F_led_to:=ma (P:=l.prog) (w:=w) (base:=base) g_led_to B F_reached F_links_of
 have F_led_from:=jh (P:=l.prog) (w:=w) (base:=base) g_led_from B F_reached F_links_of
 have F_group_of:=jj (P:=l.prog) (w:=w) (base:=base) g_group_of B F_in_both F_led_to F_led_from
 have F_groups_of:=ik (P:=l.prog) (w:=w) (base:=base) g_groups_of B F_group_of
 have F_steps_on_rings:=du (P:=l.prog) (w:=w) (base:=base) g_steps_on_rings B F_reached
 have F_ring_from:=io (P:=l.prog) (w:=w) (base:=base) g_ring_from B
 have F_check_rings:=e9 (P:=l.prog) (w:=w) (base:=base) g_check_rings B X_Ring F_steps_on_rings F_ring_from
 have F_share_group:=fc (P:=l.prog) (w:=w) (base:=base) g_share_group B
 have F_check_torn:=fy (P:=l.prog) (w:=w) (base:=base) g_check_torn B X_Torn F_share_group
 have F_may_be_done:=fg (P:=l.prog) (w:=w) (base:=base) g_may_be_done B
 have F_may_all_be_done:=c9 (P:=l.prog) (w:=w) (base:=base) g_may_all_be_done B F_may_be_done
 have F_check_stands:=d0 (P:=l.prog) (w:=w) (base:=base) g_check_stands B X_NoStand F_may_all_be_done
 have F_check_works:=fh (P:=l.prog) (w:=w) (base:=base) g_check_works B F_groups_of F_check_rings F_check_torn F_check_stands
 have F_told:=rY (P:=l.prog) (w:=w) (base:=base) g_told B ⟨at_ (v:=.ref 69) (by kernel_rfl),⟨by kernel_rfl,by kernel_rfl⟩⟩ (at_ (v:=.ref 215) (by kernel_rfl)) (at_ (v:=.ref 89) (by kernel_rfl)) (at_ (v:=.ref 127) (by kernel_rfl)) (at_ (v:=.ref 203) (by kernel_rfl)) (at_ (v:=.ref 108) (by kernel_rfl)) (at_ (v:=.ref 146) (by kernel_rfl)) (at_ (v:=.ref 165) (by kernel_rfl)) (at_ (v:=.ref 184) (by kernel_rfl)) (no_ (by kernel_rfl)) ⟨⟨by kernel_rfl,by kernel_rfl,by kernel_rfl,by kernel_rfl⟩,by kernel_rfl,by kernel_rfl,by kernel_rfl,by kernel_rfl⟩ (by kernel_rfl) (by kernel_rfl) (by kernel_rfl) (by kernel_rfl) (by kernel_rfl) ⟨⟨by kernel_rfl,by kernel_rfl,by kernel_rfl,by kernel_rfl⟩,by kernel_rfl,by kernel_rfl,by kernel_rfl,by kernel_rfl⟩ (by kernel_rfl) (by kernel_rfl) (by kernel_rfl) (by kernel_rfl) (by kernel_rfl) ⟨⟨by kernel_rfl,by kernel_rfl,by kernel_rfl,by kernel_rfl⟩,by kernel_rfl,by kernel_rfl,by kernel_rfl,by kernel_rfl⟩ (by kernel_rfl) (by kernel_rfl) (by kernel_rfl) (by kernel_rfl) (by kernel_rfl) (by kernel_rfl) (by kernel_rfl) (by kernel_rfl) F_check_works
 exact wG (P:=l.prog) (w:=w) (base:=base) g_law B F_deck F_works F_next F_due F_told
theorem walk {l : PySem.W.OpenLaw} {q : Program} {loose : List Str} {XP : (Str -> Option Value) -> Heap -> Prop} {YP : World -> Heap -> Prop} {d : DefRec} {K : Params -> PySem.W.Frag} (hn : l.most = some 63) (hdf : d.params.defaults = [])
  (hY : ∀ (w : World) (h : Heap),YP w h -> (K w.params).In h) (hNL : ∀ w : World,pP (K w.params) = true)
  (F : ∀ (w : World) (mg : Str -> Option Value) (fa : Addr) (h : Heap),(K w.params).In h -> h.Ns mainGlobals mg -> mg d.name = some (.ref fa) ->
   ∃ fd : FuncData,(∀ (s : Shared) (u : Value),BindsTo s fd ⟨[u],[]⟩ [("_law_script",u)]) /\ ∀ base : Heap,(K w.params).In base -> base.Ns mainGlobals mg -> FnOk3 l.prog w (K w.params) mg base 7 fa fd ["_law_script"] lq) :
  PySem.W.WalkO q loose XP YP l.row.toRowW d [] (fun f vs => PySem.call f vs):=by
 refine L2.walk_of (n:=63) (k:=7) (x:="_law_script") (CX:=fun _ => CX0) (sp:=fun w => mY (K w.params) lq) hn (by decide) hdf ⟨rfl,by decide,by decide,rfl⟩ hY F (fun w H a ns hl hO hS => ?_) fun _ _ _ _ _ z => z
 refine ⟨[.ref a],fun b => if b = a then some (.rol (ns.map T.int)) else none,fun t _ => t = .bl true,.cons .ofRef .nil,fun b o e => ?_,⟨a,ns,rfl,if_pos rfl,hl,fun _ => rfl⟩,fun v H' t H3' _ _ r q => ?_⟩
 ·
  dsimp only at e
  by_cases hb : b = a
  ·
   rw [if_pos hb] at e
   cases e
   subst hb
   rcases hS with hS | ⟨o,its,n,hk,hc,_⟩
   ·
    refine ⟨_,hS,?_⟩
    have : ∀ ms : List Int,Reps (K w.params) H (ms.map T.int) (ms.map V.int):=fun ms => by
     induction ms with
     | nil => exact .nil
     | cons m r ih => exact .cons .ofInt ih
    exact this ns
   ·
    exact absurd hc (me (hNL w) hk)
  ·
   rw [if_neg hb] at e
   cases e
 ·
  subst q
  exact r.bl
end M
open PySem PySem.W PyProof.Rows
set_option maxRecDepth 100000 in
set_option maxHeartbeats 0 in
theorem PySem.Challenge.cw_stationrow_k13_whole_check_holds : PySem.Challenge.rw_stationrow_k13_whole_check.Holds := by
 refine holds_law (by kernel_rfl) fun said => ?_
 refine holds_open (d:=M.dv) (kwd:=[]) (q:=M.qv) (loose:=[]) (Xt:=fun s => xlAt M.qv [] s && recOk (RowW.records (OpenLaw.row PySem.Challenge.rw_stationrow_k13_whole_check).toRowW) s) (XP:=XL M.qv []) (Yf:=Hook.obs M.HK) (Ya:=Hook.val M.HK) (YP:=Hook.says M.HK) (N:=6282) M.left (Hook.of M.HK) (Hook.keeps M.HK) (fun s e => xl_of s (Bool.and_eq_true_iff.mp e).1) XL.keeps (by kernel_rfl) (by kernel_rfl) (by kernel_rfl) (fun s e => recFacts_of (Bool.and_eq_true_iff.mp e).2) (by kernel_rfl) (by first | assumption | kernel_rfl) (by kernel_rfl) ⟨rfl,rfl,rfl,rfl,rfl,by decide +kernel⟩ ?hw ?hc
 case hw => w_witness2
 case hc => exact M.walk (l:=PySem.Challenge.rw_stationrow_k13_whole_check) rfl rfl (fun w h Y => kIn_of Y) (fun w => by kernel_rfl) fun w mg fa h KX G hmg => M.all_ok KX G hmg
#print axioms PySem.Challenge.cw_stationrow_k13_whole_check_holds
