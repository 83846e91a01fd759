import PyProof.Rows.All
import Wide.All
import OpenK.AllK
import Wide.FinOn
import KE.KLam
import Lean
import PyProof.EqAt
import PyProof.EqKinds
import PyProof.TupleCall
import PySem.Challenge.RW_fivefields_k63_on_days
local macro_rules
  | `(tactic| omega) => `(tactic| lia)
set_option maxHeartbeats 4000000
set_option compiler.extract_closed false
namespace Hd
open PySem PySem.W PySem.Calls PyProof.Rows
section
set_option maxHeartbeats 0
set_option maxRecDepth 100000
set_option linter.all false
theorem ws:OpenLaw.wellSaid PySem.Challenge.rw_fivefields_k63_on_days=true:=by
 delta OpenLaw.wellSaid
 with_reducible refine look_both (look_both (look_both (look_both (look_both (look_both (look_both (look_both (look_both (look_both (look_both (look_both (look_both (look_both (look_both (look_both (look_both (look_both ?_ ?_) ?_) ?_) ?_) ?_) ?_) ?_) ?_) ?_) ?_) ?_) ?_) ?_) ?_) ?_) ?_) ?_) ?_
 ·delta OpenRow.wellSaid
  with_reducible refine look_both (look_both ?_ ?_) ?_
  ·delta OpenRow.partSaid
   with_reducible refine look_both (look_both (look_both (look_both (look_both (look_both (look_both (look_both (look_both (look_both (look_both (look_both ?_ ?_) ?_) ?_) ?_) ?_) ?_) ?_) ?_) ?_) ?_) ?_) ?_
   ·delta looksOpen
    with_reducible refine look_both (look_both (look_both (look_both (look_both ?_ ?_) ?_) ?_) ?_) ?_
    all_goals decide +kernel
   all_goals decide +kernel
  all_goals decide +kernel
 all_goals decide +kernel
noncomputable section
noncomputable abbrev pw:Program:=PySem.Challenge.pw_fivefields_k63_on_days
noncomputable abbrev bi:List Stmt:=behindTheImports pw
noncomputable def nth:List Stmt->Nat->Stmt
 |s::_,0=>s
 |_::r,n+1=>nth r n
 |[],_=>.Pass default
noncomputable def tp(i:Nat):Stmt:=nth pw.main.body i
noncomputable def bd:Stmt->List Stmt
 |.FunctionDef _ _ b _ _ _ _ _ _ _=>b
 |.ClassDef _ _ _ b _ _ _ _ _ _ _=>b
 |_=>[]
noncomputable def ag:Stmt->Arguments
 |.FunctionDef _ a _ _ _ _ _ _ _ _=>a
 |_=>⟨[],[],none,[],[],none,[]⟩
noncomputable def sc:Stmt->Scope
 |.FunctionDef _ _ _ _ _ _ s _ _ _=>s
 |.ClassDef _ _ _ _ _ _ s _ _ _ _=>s
 |_=>pw.main.scope
noncomputable def r(a:Addr):Value:=.ref a
noncomputable def i(n:Int):Value:=.int n 0
noncomputable def de(P:Params)(k:Str)(t:Tok)(v:Value):DictEntry:=⟨PyData.keyHash P k,.str k t,v⟩
noncomputable def tu(l:List Value):Obj:=⟨.type "tuple",none,.seq l.toArray 0,#[]⟩
noncomputable def di(l:List DictEntry)(n:Nat):Obj:=⟨.type "dict",none,.dict l.toArray n,#[]⟩
noncomputable def co(l:List Value):Obj:=⟨.type "code",none,.fields l.toArray,#[]⟩
noncomputable def fd(l:List Value):Obj:=⟨.none,none,.fields l.toArray,#[]⟩
noncomputable def lf(x:Obj):BT:=.node x .nil .nil
noncomputable abbrev nd:Obj->BT->BT->BT:=BT.node
noncomputable def sf(t:Tok):Value:=.str "/claim/cut.py" t
noncomputable def fz(n q:Str)(s:Stmt):Obj:=⟨.none,none,.func ⟨n,q,ag s,.stmts (bd s),sc s,0,[],.none,.none,.none,.none,none,.none,.none,0⟩,#[]⟩
noncomputable def fn(n q:Str)(s:Stmt)(g:Addr)(c:List (Str×Addr))(d k o m:Value)(a:Option Addr)(x y:Value)(b:Addr):Obj:=⟨.type "function",none,.func ⟨n,q,ag s,.stmts (bd s),sc s,g,c,d,k,o,m,a,x,y,b⟩,#[]⟩
noncomputable def ib(s:Stmt)(i:Nat):Stmt:=nth (bd s) i
noncomputable def ev:Env:={scope:=pw.main.scope,locals:=mainNs,globals:=mainNs,cells:=[],code:=(r 13),frame:=some 14}
noncomputable def cd:Code:=.body bi ev
noncomputable abbrev an:Option Value:=(some (r 6))
noncomputable abbrev bk:List Frame:=[topFrame ⟨0,0,0,0⟩]
def cO(n q:Str)(t l c x a u:Nat):Obj:=co [.str n t,.str q (t+1),sf (t+2),i (Int.ofNat l),i (Int.ofNat c),i 0,i 0,i (Int.ofNat x),r a,.bool true,i 181,r (a+1),.none,r (a+2),r (a+3),r (a+4),i (Int.ofNat u),i (Int.ofNat l),sf (u+1)]
def cP(n:Str)(t l c x a u:Nat):Obj:=cO n n t l c x a u
def cK(n q:Str)(t l a u:Nat):Obj:=co [.str n t,.str q (t+1),sf (t+2),i (Int.ofNat l),i 0,i 0,i 0,i 0,r a,.bool false,i 181,r (a+1),.none,.none,.none,.none,i (Int.ofNat u),i (Int.ofNat l),sf (u+1)]
def fQ(n q:Str)(s:Stmt)(m:Value)(a:Addr):Obj:=fn n q s 3 [] .none .none .none m none (r a) .none 0
def fP(n:Str)(k:Nat)(m:Value)(a:Addr):Obj:=fQ n n (tp k) m a
def fY(n:Str)(k:Nat):Obj:=fz n n (tp k)
def fS(n q:Str)(s z:Stmt)(m:Value)(a:Addr):Obj:=⟨(.type "function"),none,(.func ⟨n,q,ag s,.stmts (bd s),sc z,3,[],.none,.none,.none,m,none,r a,.none,0⟩),#[]⟩
def fT(n q:Str)(s z:Stmt):Obj:=⟨.none,none,(.func ⟨n,q,ag s,.stmts (bd s),sc z,0,[],.none,.none,.none,.none,none,.none,.none,0⟩),#[]⟩
def ss:List Str->Nat->List Value
 |[],_=>[]
 |x::l,n=>.str x n::ss l (n+1)
def tS(n:Nat)(l:List Str):Obj:=tu (ss l n)
def dr(P:Params)(k:Str)(t:Tok)(a:Addr):DictEntry:=de P k t (r a)
def f3(k:Nat):List (Nat×Nat)->List Value
 |[]=>[]
 |(a,b)::l=>i (Int.ofNat a)::i (Int.ofNat k)::r b::f3 k l
def fD(k:Nat)(l:List (Nat×Nat)):Obj:=fd (f3 k l)
def fr(a b:Addr)(m:Value):Obj:=⟨(.type "frame"),none,.plain,#[some (r a),some (r 3),some (r b),none,some m,none,some (r 0)]⟩
def bm(s:String)(v:Value):Obj:=⟨(.type "builtin_function_or_method"),none,(.fields #[.builtin s,v]),#[]⟩
def sp2(l:List Obj):List Obj×List Obj:=List.rec ([],[]) (fun x _ p=>(x::p.2,p.1)) l
def oX:Nat->List Obj->BT
 |0,_=>.nil
 |_+1,[]=>.nil
 |n+1,x::l=>.node x (oX n (sp2 l).1) (oX n (sp2 l).2)
def su(a b c:Addr):Obj:=⟨(.type "super"),none,(.fields #[r a,r b,r c]),#[]⟩
def fU:Value:=.str "fivefields.marks" 607
def jo:Value:=.str "fivefields.errors" 194
def lO:Value:=.str "fivefields.days" 305
def rH:Value:=.str "fivefields.months" 426
def mT:Value:=.str "fivefields.ranges" 469
def mC:Value:=.str "fivefields.fields" 521
def jd:Value:=.str "law_fivefields_k63_on_days" 1674
def je:Value:=.str "fivefields.rows" 1050
def fZ:Value:=.str "fivefields.books" 1226
def rA:Value:=.str "fivefields.papers" 1574
def pj:Value:=.str "fivefields.leaps" 1619
def o0:=tu []
def o1:=fd []
def o2:=cK "<module>" "<module>" 182 1 11 185
def o3:Obj:=⟨(.type "frame"),none,.plain,#[(some (r 13)),(some (r 3)),(some (r 3)),none,(some (.str "__main__" 164)),none,(some (r 0))]⟩
def hA(P:Params):Heap:=⟨⟨[(boot_o_0 P),(boot_o_1 P),(boot_o_2 P),(boot_o_3 P),(boot_o_4 P),(boot_o_5 P),(boot_o_6 P),(boot_o_7 P),(boot_o_8 P),(boot_o_9 P),(boot_o_10 P),o0,o1,o2,o3]⟩,⟨[],[],[],0,[],[],false,#[],[],0,false,false,false,0,[2000,10,10],false,0,true,[],[],0,false⟩⟩
def sA(w:World)(os:OsState):Shared:=⟨hA w.params,#[],⟨0,0,0,0⟩,187,os⟩
theorem pre(w:World)(os:OsState):
  topGo treeTable pw w 11 an 12 ⟨boot_heap w.params,⟨[]⟩,boot_drawn,boot_toks,os⟩ (topStub pw) =
  some (sA w os,⟨denote treeTable cd,cd,⟨0,0,0,0⟩,bk⟩):=by kernel_rfl
def t0(P:Params):BT:=oX 5 [(boot_o_0 P),(boot_o_1 P),(boot_o_2 P),(boot_o_3 P),(boot_o_4 P),(boot_o_5 P),(boot_o_6 P),(boot_o_7 P),(boot_o_8 P),(boot_o_9 P),(boot_o_10 P),o0,o1,o2,o3]
def s0(w:World)(os:OsState):SharedT:=⟨t0 w.params,15,⟨[],[],[],0,[],[],false,#[],[],0,false,false,false,0,[2000,10,10],false,0,true,[],[],0,false⟩,#[],⟨0,0,0,0⟩,187,os⟩
theorem Ze(w:World)(os:OsState):
  segRun treeTable pw w 11 an 1 1 (sA w os) (blockOf bi ev cd ⟨0,0,0,0⟩ bk) =
  some (.next,(s0 w os).abs,cd,⟨0,0,0,0⟩):=by kernel_rfl
def HG(P:Params):List DictEntry:=[de P "__doc__" 166 .none,de P "__package__" 167 .none,de P "__loader__" 168 (.builtin "__main__.__loader__#opaque"),de P "__spec__" 169 .none,dr P "__annotations__" 170 6,dr P "__builtins__" 171 4,de P "__file__" 173 (sf 172),de P "__cached__" 174 .none,dr P "_wall" 193 21,dr P "FieldError" 213 31,dr P "NoDay" 229 44,dr P "NoField" 254 63,dr P "NoRow" 279 82,dr P "NoBook" 295 94,dr P "is_whole" 304 103,dr P "MONTH_LASTS" 319 104,de P "ROUND_YEARS" 321 (.int 400 320),de P "ROUND_DAYS" 323 (.int 146097 322),dr P "is_long" 330 111,dr P "multiples_before" 338 118,dr P "days_before" 346 125,dr P "last_of" 354 132,dr P "is_date" 363 139,dr P "day_of" 369 144,dr P "year_of" 377 151,dr P "date_of" 387 158,dr P "weekday" 394 165,de P "FIGURES" 398 (.str "0123456789" 397),dr P "all_figures" 404 170,dr P "is_written" 411 177,de P "DAY_MINUTES" 415 (.int 1440 414),de P "HOUR_MINUTES" 417 (.int 60 416),dr P "parted" 425 184,de P "LONG_PLACE" 429 (.int 12 428),de P "LONG_LAST" 431 (.int 29 430),de P "SHORT_YEAR" 433 (.int 1 432),dr P "kind_from" 443 191,dr P "kind_of" 451 198,dr P "month_at" 460 205,dr P "next_month" 468 212,dr P "has" 478 219,dr P "lowest" 485 226,dr P "starts_of" 491 231,dr P "end_from" 500 238,dr P "ranges_of" 506 243,dr P "shown_range" 514 250,dr P "shown_ranges" 520 255,de P "MOST_SIGNS" 524 (.int 300 523),de P "MOST_ITEMS" 526 (.int 40 525),de P "MOST_STRIDE" 528 (.int 99 527),dr P "mask_of" 537 262,dr P "numbers_in" 543 267,dr P "run_mask" 552 274,dr P "read_number" 562 281,dr P "read_run" 568 286,dr P "read_strided" 581 293,dr P "read_item" 592 300,dr P "read_field" 606 307,de P "MOST_MARKS" 610 (.int 20 609),de P "MOST_DAY" 612 (.int 31 611),de P "MOST_BACK" 614 (.int 30 613),de P "MOST_NTH" 616 (.int 5 615),de P "SUNDAY" 618 (.int 0 617),de P "SATURDAY" 620 (.int 6 619),de P "SUNDAY_TOO" 622 (.int 7 621),de P "ALL_WEEKDAYS" 624 (.int 127 623),dr P "weekday_at" 632 314,dr P "all_days" 639 321,dr P "nearest_work" 649 328,dr P "first_one" 657 335,dr P "Mark" 693 359,dr P "Numbers" 734 394,dr P "Last" 776 428,dr P "Near" 817 461,dr P "LastWork" 849 487,dr P "Weekdays" 892 520,dr P "Nth" 936 553,dr P "LastOne" 977 586,dr P "any_days" 988 595,dr P "read_day_mark" 997 602,dr P "read_weekday" 1005 609,dr P "read_weekday_mark" 1015 616]
def o4(P:Params):=di (de P "__name__" 165 fU::HG P) 83
def o5:=fD 0 [(1,20),(5,27),(7,40),(9,52),(13,71),(17,90),(20,102),(26,110),(28,117),(30,124),(33,131),(37,138),(41,143),(46,150),(51,157),(59,164),(63,169),(65,176),(70,183),(77,190),(80,197),(82,204),(88,211),(93,218),(95,225),(97,230),(100,237),(105,242),(107,249),(111,254),(117,261),(122,266),(124,273),(126,280),(133,285),(140,292),(147,299),(155,306),(177,313),(179,320),(181,327),(188,334),(190,341),(197,369),(207,402),(221,436),(233,469),(240,495),(253,528),(267,561),(277,594),(282,601),(294,608),(297,615)]
def o6:=tS 190 ["k"]
def o7:=fY "_wall" 0
def o8:=cP "_wall" 187 1 1 3 15 191
def o9:=fn "_wall" "_wall" (tp 0) 3 [] .none .none .none (.str "__main__" 164) none (r 20) .none 0
def XH:=tu [(.type "ValueError")]
def iC:=bm "type.__prepare__" (.type "type")
def o12(P:Params):=di [de P "__module__" 203 jo,de P "__qualname__" 205 (.str "FieldError" 204),de P "__firstlineno__" 207 (.int 5 206),dr P "__static_attributes__" 208 29] 4
def US:=cK "FieldError" "FieldError" 198 5 25 201
def T2:=fr 27 24 jo
def Oa(P:Params):=di [de P "__module__" 203 jo,de P "__firstlineno__" 207 (.int 5 206),dr P "__static_attributes__" 208 29,dr P "__weakref__" 210 32,de P "__doc__" 211 .none] 3
def TC:Obj:=⟨(.type "type"),none,(.cls ⟨"FieldError",[(.type "ValueError")],[(r 31),(.type "ValueError"),(.type "Exception"),(.type "BaseException"),(.type "object")],30,"FieldError",true,[],[(r 44),(r 63),(r 82),(r 94)],false,none,false⟩),#[(some (r 22)),none,(some (.str "FieldError" 196)),(some (.str "FieldError" 204)),(some (.builtin "ValueError.__new__")),(some (.bool true))]⟩
def o17:Obj:=⟨(.type "getset_descriptor"),none,(.fields #[(.str "__weakref__" 209),(r 31),(.builtin "ExceptionGroup.__weakref__"),.none]),#[]⟩
def PQ:=su 31 31 31
def Wy:=bm "object.__init_subclass__" (r 31)
def qU:=tu [(r 31)]
def o21(P:Params):=di [de P "__module__" 221 jo,de P "__qualname__" 223 (.str "NoDay" 222),de P "__firstlineno__" 225 (.int 7 224),dr P "__static_attributes__" 226 42] 4
def o22:=cK "NoDay" "NoDay" 216 7 38 219
def UV:=fr 40 37 jo
def o24(P:Params):=di [de P "__module__" 221 jo,de P "__firstlineno__" 225 (.int 7 224),dr P "__static_attributes__" 226 42,de P "__doc__" 227 .none] 2
def ZK:Obj:=⟨(.type "type"),none,(.cls ⟨"NoDay",[(r 31)],[(r 44),(r 31),(.type "ValueError"),(.type "Exception"),(.type "BaseException"),(.type "object")],43,"NoDay",true,[],[],false,none,false⟩),#[(some (r 35)),none,(some (.str "NoDay" 214)),(some (.str "NoDay" 222)),(some (.builtin "ValueError.__new__")),(some (.bool true))]⟩
def o26:=su 44 44 44
def o27:=bm "object.__init_subclass__" (r 44)
def Zb(P:Params):=di [de P "__module__" 237 jo,de P "__qualname__" 239 (.str "NoField" 238),de P "__firstlineno__" 241 (.int 9 240),dr P "__init__" 249 60,dr P "__static_attributes__" 251 61] 5
def MK:=fD 4 [(11,59)]
def ZC:=cK "NoField" "NoField" 232 9 50 235
def WN:=fr 52 49 jo
def RS:=tS 245 ["self","at"]
def Mg:=fz "__init__" "NoField.__init__" (ib (tp 4) 0)
def Rp:=cO "__init__" "NoField.__init__" 242 11 2 3 54 247
def QQ:=fQ "__init__" "NoField.__init__" (ib (tp 4) 0) jo 59
def Qb:=tS 250 ["at"]
def Sr(P:Params):=di [de P "__module__" 237 jo,de P "__firstlineno__" 241 (.int 9 240),dr P "__init__" 249 60,dr P "__static_attributes__" 251 61,de P "__doc__" 252 .none] 2
def Zl:Obj:=⟨(.type "type"),none,(.cls ⟨"NoField",[(r 31)],[(r 63),(r 31),(.type "ValueError"),(.type "Exception"),(.type "BaseException"),(.type "object")],62,"NoField",true,[],[],false,none,false⟩),#[(some (r 47)),none,(some (.str "NoField" 230)),(some (.str "NoField" 238)),(some (.builtin "ValueError.__new__")),(some (.bool true))]⟩
def PD:=su 63 63 63
def o40:=bm "object.__init_subclass__" (r 63)
def Wj(P:Params):=di [de P "__module__" 262 jo,de P "__qualname__" 264 (.str "NoRow" 263),de P "__firstlineno__" 266 (.int 13 265),dr P "__init__" 274 79,dr P "__static_attributes__" 276 80] 5
def Vt:=fD 4 [(15,78)]
def Su:=cK "NoRow" "NoRow" 257 13 69 260
def Sa:=fr 71 68 jo
def NL:=tS 270 ["self","place"]
def o46:=fz "__init__" "NoRow.__init__" (ib (tp 5) 0)
def Rt:=cO "__init__" "NoRow.__init__" 267 15 2 3 73 272
def o48:=fQ "__init__" "NoRow.__init__" (ib (tp 5) 0) jo 78
def OR:=tS 275 ["place"]
def R0(P:Params):=di [de P "__module__" 262 jo,de P "__firstlineno__" 266 (.int 13 265),dr P "__init__" 274 79,dr P "__static_attributes__" 276 80,de P "__doc__" 277 .none] 2
def Rb:Obj:=⟨(.type "type"),none,(.cls ⟨"NoRow",[(r 31)],[(r 82),(r 31),(.type "ValueError"),(.type "Exception"),(.type "BaseException"),(.type "object")],81,"NoRow",true,[],[],false,none,false⟩),#[(some (r 66)),none,(some (.str "NoRow" 255)),(some (.str "NoRow" 263)),(some (.builtin "ValueError.__new__")),(some (.bool true))]⟩
def NF:=su 82 82 82
def o53:=bm "object.__init_subclass__" (r 82)
def Qf(P:Params):=di [de P "__module__" 287 jo,de P "__qualname__" 289 (.str "NoBook" 288),de P "__firstlineno__" 291 (.int 17 290),dr P "__static_attributes__" 292 92] 4
def WC:=cK "NoBook" "NoBook" 282 17 88 285
def Td:=fr 90 87 jo
def T4(P:Params):=di [de P "__module__" 287 jo,de P "__firstlineno__" 291 (.int 17 290),dr P "__static_attributes__" 292 92,de P "__doc__" 293 .none] 2
def Ql:Obj:=⟨(.type "type"),none,(.cls ⟨"NoBook",[(r 31)],[(r 94),(r 31),(.type "ValueError"),(.type "Exception"),(.type "BaseException"),(.type "object")],93,"NoBook",true,[],[],false,none,false⟩),#[(some (r 85)),none,(some (.str "NoBook" 280)),(some (.str "NoBook" 288)),(some (.builtin "ValueError.__new__")),(some (.bool true))]⟩
def X9:=su 94 94 94
def LM:=bm "object.__init_subclass__" (r 94)
def Pd:=tS 301 ["thing"]
def Np:=fY "is_whole" 8
def QM:=cP "is_whole" 298 20 1 3 97 302
def o64:=fn "is_whole" "is_whole" (tp 8) 3 [] .none .none .none (.str "fivefields.wholes" 296) none (r 102) .none 0
def o65:=tu [(.int 31 307),(.int 28 308),(.int 31 309),(.int 30 310),(.int 31 311),(.int 30 312),(.int 31 313),(.int 31 314),(.int 30 315),(.int 31 316),(.int 30 317),(.int 31 318)]
def LN:=tS 327 ["year"]
def o67:=fY "is_long" 13
def VS:=cP "is_long" 324 26 1 3 105 328
def M4:=fP "is_long" 13 lO 110
def W6:=tS 334 ["year","step"]
def Qg:=fY "multiples_before" 14
def W1:=cP "multiples_before" 331 28 2 3 112 336
def o73:=fP "multiples_before" 14 lO 117
def o74:=tS 342 ["year","longs"]
def Nt:=fY "days_before" 15
def o76:=cP "days_before" 339 30 1 3 119 344
def OU:=fP "days_before" 15 lO 124
def Mi:=tS 350 ["year","month"]
def Wv:=fY "last_of" 16
def o80:=cP "last_of" 347 33 2 3 126 352
def Va:=fP "last_of" 16 lO 131
def QS:=tS 358 ["year","month","day"]
def YO:=fY "is_date" 17
def Ve:=cP "is_date" 355 37 3 3 133 361
def Lu:=fP "is_date" 17 lO 138
def Vh:=fY "day_of" 18
def Xa:=co [(.str "day_of" 364),(.str "day_of" 365),(sf 366),(i 41),(i 3),(i 0),(i 0),(i 3),(r 140),(.bool true),(i 181),(r 141),.none,.none,.none,(r 142),(i 367),(i 41),(sf 368)]
def Se:=fP "day_of" 18 lO 143
def P5:=tS 373 ["day","year"]
def Ys:=fY "year_of" 19
def V9:=cP "year_of" 370 46 1 3 145 375
def o92:=fP "year_of" 19 lO 150
def LY:=tS 381 ["day","year","month","rest"]
def WK:=fY "date_of" 20
def PV:=cP "date_of" 378 51 1 3 152 385
def Yk:=fP "date_of" 20 lO 157
def Vb:=tS 391 ["day"]
def Ym:=fY "weekday" 21
def o99:=cP "weekday" 388 59 1 3 159 392
def Yr:=fP "weekday" 21 lO 164
def RL:=fY "all_figures" 24
def aM0:=co [(.str "all_figures" 399),(.str "all_figures" 400),(sf 401),(i 63),(i 1),(i 0),(i 0),(i 3),(r 166),(.bool true),(i 181),(r 167),.none,.none,.none,(r 168),(i 402),(i 63),(sf 403)]
def aTX:=fn "all_figures" "all_figures" (tp 24) 3 [] .none .none .none (.str "fivefields.figures" 395) none (r 169) .none 0
def N2:=tS 408 ["text"]
def OK:=fY "is_written" 25
def VH:=cP "is_written" 405 65 1 3 171 409
def aN8:=fn "is_written" "is_written" (tp 25) 3 [] .none .none .none (.str "fivefields.figures" 395) none (r 176) .none 0
def XW:=tS 421 ["moment","time"]
def aST:=fY "parted" 29
def ZW:=cP "parted" 418 70 1 3 178 423
def XJ:=fn "parted" "parted" (tp 29) 3 [] .none .none .none (.str "fivefields.moments" 412) none (r 183) .none 0
def RY:=tS 437 ["year","month","day","place"]
def aUV:=fY "kind_from" 34
def RB:=cP "kind_from" 434 77 3 3 185 441
def YA:=fP "kind_from" 34 rH 190
def Pi:=tS 447 ["year","month"]
def Lk:=fY "kind_of" 35
def NM:=cP "kind_of" 444 80 2 3 192 449
def aQL:=fP "kind_of" 35 rH 197
def Ni:=tS 455 ["kind","place","first"]
def Lq:=fY "month_at" 36
def TH:=cP "month_at" 452 82 1 3 199 458
def UW:=fP "month_at" 36 rH 204
def WS:=tS 464 ["year","month"]
def XQ:=fY "next_month" 37
def M6:=cP "next_month" 461 88 2 3 206 466
def Zh:=fP "next_month" 37 rH 211
def Ov:=tS 474 ["mask","number"]
def Wo:=fY "has" 39
def MO:=cP "has" 471 93 2 3 213 476
def Ri:=fP "has" 39 mT 218
def QK:=tS 482 ["mask"]
def Vl:=fY "lowest" 40
def LG:=cP "lowest" 479 95 1 3 220 483
def Qj:=fP "lowest" 40 mT 225
def Yf:=fY "starts_of" 41
def ZX:=co [(.str "starts_of" 486),(.str "starts_of" 487),(sf 488),(i 97),(i 1),(i 0),(i 0),(i 3),(r 227),(.bool true),(i 181),(r 228),.none,.none,.none,(r 229),(i 489),(i 97),(sf 490)]
def QH:=fP "starts_of" 41 mT 230
def aPL:=tS 495 ["mask","start","end"]
def XC:=fY "end_from" 42
def QR:=cP "end_from" 492 100 2 3 232 498
def ZQ:=fP "end_from" 42 mT 237
def MP:=fY "ranges_of" 43
def OH:=co [(.str "ranges_of" 501),(.str "ranges_of" 502),(sf 503),(i 105),(i 1),(i 0),(i 0),(i 3),(r 239),(.bool true),(i 181),(r 240),.none,.none,.none,(r 241),(i 504),(i 105),(sf 505)]
def MY:=fP "ranges_of" 43 mT 242
def Mt:=tS 510 ["first","last"]
def Qh:=fY "shown_range" 44
def V2:=cP "shown_range" 507 107 2 3 244 512
def Xq:=fP "shown_range" 44 mT 249
def OV:=fY "shown_ranges" 45
def Ol:=co [(.str "shown_ranges" 515),(.str "shown_ranges" 516),(sf 517),(i 111),(i 1),(i 0),(i 0),(i 3),(r 251),(.bool true),(i 181),(r 252),.none,.none,.none,(r 253),(i 518),(i 111),(sf 519)]
def NU:=fP "shown_ranges" 45 mT 254
def Ti:=tS 532 ["numbers","mask","number"]
def QY:=fY "mask_of" 50
def Rc:=cP "mask_of" 529 117 1 3 256 535
def Rq:=fP "mask_of" 50 mC 261
def Oe:=fY "numbers_in" 51
def P0:=co [(.str "numbers_in" 538),(.str "numbers_in" 539),(sf 540),(i 122),(i 1),(i 0),(i 0),(i 3),(r 263),(.bool true),(i 181),(r 264),.none,.none,.none,(r 265),(i 541),(i 122),(sf 542)]
def XF:=fP "numbers_in" 51 mC 266
def aPZ:=tS 547 ["first","last","stride"]
def aSJ:=fY "run_mask" 52
def L6:=cP "run_mask" 544 124 3 3 268 550
def Wk:=fP "run_mask" 52 mC 273
def aLC:=tS 556 ["text","low","high","number"]
def QA:=fY "read_number" 53
def Qk:=cP "read_number" 553 126 3 3 275 560
def Yy:=fP "read_number" 53 mC 280
def Ou:=fY "read_run" 54
def Z9:=co [(.str "read_run" 563),(.str "read_run" 564),(sf 565),(i 133),(i 3),(i 0),(i 0),(i 3),(r 282),(.bool true),(i 181),(r 283),.none,.none,.none,(r 284),(i 566),(i 133),(sf 567)]
def RO:=fP "read_run" 54 mC 285
def Nu:=tS 572 ["run_text","stride_text","low","high","run","stride","last"]
def Tz:=fY "read_strided" 55
def Vs:=cP "read_strided" 569 140 4 3 287 579
def LL:=fP "read_strided" 55 mC 292
def aOR:=tS 585 ["item","low","high","parts","run"]
def OX:=fY "read_item" 56
def Mh:=cP "read_item" 582 147 3 3 294 590
def VO:=fP "read_item" 56 mC 299
def aPI:=tS 596 ["text","low","high","items","mask","place","item","told"]
def aNK:=fY "read_field" 57
def aLR:=cP "read_field" 593 155 3 3 301 604
def Qo:=fP "read_field" 57 mC 306
def Lw:=tS 628 ["day","first"]
def LH:=fY "weekday_at" 67
def PH:=cP "weekday_at" 625 177 2 3 308 630
def aS9:=fP "weekday_at" 67 fU 313
def Sm:=tS 636 ["last"]
def PM:=fY "all_days" 68
def XB:=cP "all_days" 633 179 1 3 315 637
def Xb:=fP "all_days" 68 fU 320
def Zm:=tS 643 ["day","last","first","of_week"]
def aQW:=fY "nearest_work" 69
def OA:=cP "nearest_work" 640 181 3 3 322 647
def Mq:=fP "nearest_work" 69 fU 327
def aRD:=tS 653 ["weekday","first"]
def Mz:=fY "first_one" 70
def V8:=cP "first_one" 650 188 2 3 329 655
def M9:=fP "first_one" 70 fU 334
def Z7(P:Params):=di [de P "__module__" 665 fU,de P "__qualname__" 667 (.str "Mark" 666),de P "__firstlineno__" 669 (.int 190 668),dr P "days" 678 349,dr P "told" 685 356,dr P "__static_attributes__" 686 357] 6
def X3:=fD 4 [(192,348),(195,355)]
def Q6:=cK "Mark" "Mark" 660 190 339 663
def Sb:=fr 341 338 fU
def Xs:=tS 673 ["self","last","first"]
def QG:=fz "days" "Mark.days" (ib (tp 71) 0)
def Vq:=cO "days" "Mark.days" 670 192 3 3 343 676
def Mj:=fQ "days" "Mark.days" (ib (tp 71) 0) fU 348
def aUU:=tS 682 ["self"]
def aT8:=fz "told" "Mark.told" (ib (tp 71) 1)
def RG:=cO "told" "Mark.told" 679 195 1 3 350 683
def aTQ:=fQ "told" "Mark.told" (ib (tp 71) 1) fU 355
def So(P:Params):=di [de P "__module__" 665 fU,de P "__firstlineno__" 669 (.int 190 668),dr P "days" 678 349,dr P "told" 685 356,dr P "__static_attributes__" 686 357,dr P "__dict__" 688 360,dr P "__weakref__" 690 361,de P "__doc__" 691 .none] 4
def aNC:Obj:=⟨(.type "type"),none,(.cls ⟨"Mark",[(.type "object")],[(r 359),(.type "object")],358,"Mark",true,[],[(r 394),(r 428),(r 461),(r 487),(r 520),(r 553),(r 586)],false,none,false⟩),#[none,none,(some (.str "Mark" 658)),(some (.str "Mark" 666)),(some (.builtin "object.__new__")),(some (.bool true))]⟩
def aO5:Obj:=⟨(.type "getset_descriptor"),none,(.fields #[(.str "__dict__" 687),(r 359),(.builtin "function.__dict__"),(.builtin "function.__dict__#set")]),#[]⟩
def Xr:Obj:=⟨(.type "getset_descriptor"),none,(.fields #[(.str "__weakref__" 689),(r 359),(.builtin "ExceptionGroup.__weakref__"),.none]),#[]⟩
def SU:=su 359 359 359
def Q1:=bm "object.__init_subclass__" (r 359)
def mQ:=tu [(r 359)]
def aQE(P:Params):=di [de P "__module__" 701 fU,de P "__qualname__" 703 (.str "Numbers" 702),de P "__firstlineno__" 705 (.int 197 704),dr P "__init__" 713 377,dr P "days" 722 384,dr P "told" 729 391,dr P "__static_attributes__" 731 392] 7
def aOO:=fD 4 [(199,376),(202,383),(205,390)]
def Q8:=cK "Numbers" "Numbers" 696 197 367 699
def Q7:=fr 369 366 fU
def TK:=tS 709 ["self","mask"]
def Oi:=fz "__init__" "Numbers.__init__" (ib (tp 72) 0)
def Zg:=cO "__init__" "Numbers.__init__" 706 199 2 3 371 711
def aN3:=fQ "__init__" "Numbers.__init__" (ib (tp 72) 0) fU 376
def Xn:=tS 717 ["self","last","first"]
def Zz:=fz "days" "Numbers.days" (ib (tp 72) 1)
def XX:=cO "days" "Numbers.days" 714 202 3 3 378 720
def aPH:=fQ "days" "Numbers.days" (ib (tp 72) 1) fU 383
def UU:=tS 726 ["self"]
def SO:=fz "told" "Numbers.told" (ib (tp 72) 2)
def PN:=cO "told" "Numbers.told" 723 205 1 3 385 727
def aU3:=fQ "told" "Numbers.told" (ib (tp 72) 2) fU 390
def YW:=tS 730 ["mask"]
def R4(P:Params):=di [de P "__module__" 701 fU,de P "__firstlineno__" 705 (.int 197 704),dr P "__init__" 713 377,dr P "days" 722 384,dr P "told" 729 391,dr P "__static_attributes__" 731 392,de P "__doc__" 732 .none] 2
def Zj:Obj:=⟨(.type "type"),none,(.cls ⟨"Numbers",[(r 359)],[(r 394),(r 359),(.type "object")],393,"Numbers",true,[],[],false,none,false⟩),#[(some (r 364)),none,(some (.str "Numbers" 694)),(some (.str "Numbers" 702)),(some (.builtin "object.__new__")),(some (.bool true))]⟩
def aNP:=su 394 394 394
def aPS:=bm "object.__init_subclass__" (r 394)
def RT(P:Params):=di [de P "__module__" 742 fU,de P "__qualname__" 744 (.str "Last" 743),de P "__firstlineno__" 746 (.int 207 745),dr P "__init__" 755 411,dr P "days" 764 418,dr P "told" 771 425,dr P "__static_attributes__" 773 426] 7
def aQZ:=fD 4 [(209,410),(212,417),(217,424)]
def aO8:=cK "Last" "Last" 737 207 400 740
def aU9:=fr 402 399 fU
def SV:=tu [(.int 0 747)]
def ZD:=tS 751 ["self","back"]
def WF:=fz "__init__" "Last.__init__" (ib (tp 73) 0)
def X4:=cO "__init__" "Last.__init__" 748 209 2 3 405 753
def Wx:=fn "__init__" "Last.__init__" (ib (tp 73) 0) 3 [] (r 404) .none .none fU none (r 410) .none 0
def Zq:=tS 759 ["self","last","first"]
def Wg:=fT "days" "Last.days" (ib (tp 73) 1) (ib (tp 71) 0)
def RZ:=cO "days" "Last.days" 756 212 3 3 412 762
def Z8:=fS "days" "Last.days" (ib (tp 73) 1) (ib (tp 71) 0) fU 417
def aRB:=tS 768 ["self"]
def XZ:=fz "told" "Last.told" (ib (tp 73) 2)
def MQ:=cO "told" "Last.told" 765 217 1 3 419 769
def Yi:=fQ "told" "Last.told" (ib (tp 73) 2) fU 424
def aSE:=tS 772 ["back"]
def MS(P:Params):=di [de P "__module__" 742 fU,de P "__firstlineno__" 746 (.int 207 745),dr P "__init__" 755 411,dr P "days" 764 418,dr P "told" 771 425,dr P "__static_attributes__" 773 426,de P "__doc__" 774 .none] 2
def LW:Obj:=⟨(.type "type"),none,(.cls ⟨"Last",[(r 359)],[(r 428),(r 359),(.type "object")],427,"Last",true,[],[],false,none,false⟩),#[(some (r 397)),none,(some (.str "Last" 735)),(some (.str "Last" 743)),(some (.builtin "object.__new__")),(some (.bool true))]⟩
def W4:=su 428 428 428
def aRO:=bm "object.__init_subclass__" (r 428)
def aM7(P:Params):=di [de P "__module__" 784 fU,de P "__qualname__" 786 (.str "Near" 785),de P "__firstlineno__" 788 (.int 221 787),dr P "__init__" 796 444,dr P "days" 805 451,dr P "told" 812 458,dr P "__static_attributes__" 814 459] 7
def YJ:=fD 4 [(223,443),(226,450),(231,457)]
def VQ:=cK "Near" "Near" 779 221 434 782
def QE:=fr 436 433 fU
def Nz:=tS 792 ["self","day"]
def OG:=fz "__init__" "Near.__init__" (ib (tp 74) 0)
def TU:=cO "__init__" "Near.__init__" 789 223 2 3 438 794
def S5:=fQ "__init__" "Near.__init__" (ib (tp 74) 0) fU 443
def RD:=tS 800 ["self","last","first"]
def RX:=fz "days" "Near.days" (ib (tp 74) 1)
def YR:=cO "days" "Near.days" 797 226 3 3 445 803
def TV:=fQ "days" "Near.days" (ib (tp 74) 1) fU 450
def Mm:=tS 809 ["self"]
def LR:=fT "told" "Near.told" (ib (tp 74) 2) (ib (tp 73) 2)
def Yc:=cO "told" "Near.told" 806 231 1 3 452 810
def PY:=fS "told" "Near.told" (ib (tp 74) 2) (ib (tp 73) 2) fU 457
def Q4:=tS 813 ["day"]
def aL2(P:Params):=di [de P "__module__" 784 fU,de P "__firstlineno__" 788 (.int 221 787),dr P "__init__" 796 444,dr P "days" 805 451,dr P "told" 812 458,dr P "__static_attributes__" 814 459,de P "__doc__" 815 .none] 2
def Xk:Obj:=⟨(.type "type"),none,(.cls ⟨"Near",[(r 359)],[(r 461),(r 359),(.type "object")],460,"Near",true,[],[],false,none,false⟩),#[(some (r 431)),none,(some (.str "Near" 777)),(some (.str "Near" 785)),(some (.builtin "object.__new__")),(some (.bool true))]⟩
def MG:=su 461 461 461
def VJ:=bm "object.__init_subclass__" (r 461)
def L5(P:Params):=di [de P "__module__" 825 fU,de P "__qualname__" 827 (.str "LastWork" 826),de P "__firstlineno__" 829 (.int 233 828),dr P "days" 838 477,dr P "told" 845 484,dr P "__static_attributes__" 846 485] 6
def aRP:=fD 4 [(235,476),(238,483)]
def WZ:=cK "LastWork" "LastWork" 820 233 467 823
def ZN:=fr 469 466 fU
def Xo:=tS 833 ["self","last","first"]
def Xd:=fT "days" "LastWork.days" (ib (tp 75) 0) (ib (tp 74) 1)
def Qz:=cO "days" "LastWork.days" 830 235 3 3 471 836
def L7:=fS "days" "LastWork.days" (ib (tp 75) 0) (ib (tp 74) 1) fU 476
def Qu:=tS 842 ["self"]
def LF:=fT "told" "LastWork.told" (ib (tp 75) 1) (ib (tp 71) 1)
def To:=cO "told" "LastWork.told" 839 238 1 3 478 843
def P3:=fS "told" "LastWork.told" (ib (tp 75) 1) (ib (tp 71) 1) fU 483
def aMD(P:Params):=di [de P "__module__" 825 fU,de P "__firstlineno__" 829 (.int 233 828),dr P "days" 838 477,dr P "told" 845 484,dr P "__static_attributes__" 846 485,de P "__doc__" 847 .none] 2
def aQX:Obj:=⟨(.type "type"),none,(.cls ⟨"LastWork",[(r 359)],[(r 487),(r 359),(.type "object")],486,"LastWork",true,[],[],false,none,false⟩),#[(some (r 464)),none,(some (.str "LastWork" 818)),(some (.str "LastWork" 826)),(some (.builtin "object.__new__")),(some (.bool true))]⟩
def aNH:=su 487 487 487
def Nh:=bm "object.__init_subclass__" (r 487)
def aQK(P:Params):=di [de P "__module__" 857 fU,de P "__qualname__" 859 (.str "Weekdays" 858),de P "__firstlineno__" 861 (.int 240 860),dr P "__init__" 869 503,dr P "days" 880 510,dr P "told" 887 517,dr P "__static_attributes__" 889 518] 7
def Rx:=fD 4 [(242,502),(245,509),(251,516)]
def QT:=cK "Weekdays" "Weekdays" 852 240 493 855
def Tw:=fr 495 492 fU
def Ra:=tS 865 ["self","mask"]
def OL:=fT "__init__" "Weekdays.__init__" (ib (tp 76) 0) (ib (tp 72) 0)
def UR:=cO "__init__" "Weekdays.__init__" 862 242 2 3 497 867
def aOE:=fS "__init__" "Weekdays.__init__" (ib (tp 76) 0) (ib (tp 72) 0) fU 502
def Yt:=tS 873 ["self","last","first","weeks","week"]
def Qx:=fz "days" "Weekdays.days" (ib (tp 76) 1)
def aMC:=cO "days" "Weekdays.days" 870 245 3 3 504 878
def LZ:=fQ "days" "Weekdays.days" (ib (tp 76) 1) fU 509
def O4:=tS 884 ["self"]
def Zu:=fT "told" "Weekdays.told" (ib (tp 76) 2) (ib (tp 72) 2)
def Ma:=cO "told" "Weekdays.told" 881 251 1 3 511 885
def aS5:=fS "told" "Weekdays.told" (ib (tp 76) 2) (ib (tp 72) 2) fU 516
def WH:=tS 888 ["mask"]
def SY(P:Params):=di [de P "__module__" 857 fU,de P "__firstlineno__" 861 (.int 240 860),dr P "__init__" 869 503,dr P "days" 880 510,dr P "told" 887 517,dr P "__static_attributes__" 889 518,de P "__doc__" 890 .none] 2
def ZI:Obj:=⟨(.type "type"),none,(.cls ⟨"Weekdays",[(r 359)],[(r 520),(r 359),(.type "object")],519,"Weekdays",true,[],[],false,none,false⟩),#[(some (r 490)),none,(some (.str "Weekdays" 850)),(some (.str "Weekdays" 858)),(some (.builtin "object.__new__")),(some (.bool true))]⟩
def Qn:=su 520 520 520
def Wc:=bm "object.__init_subclass__" (r 520)
def X1(P:Params):=di [de P "__module__" 900 fU,de P "__qualname__" 902 (.str "Nth" 901),de P "__firstlineno__" 904 (.int 253 903),dr P "__init__" 913 536,dr P "days" 923 543,dr P "told" 930 550,dr P "__static_attributes__" 933 551] 7
def SZ:=fD 4 [(255,535),(259,542),(265,549)]
def Rr:=cK "Nth" "Nth" 895 253 526 898
def SG:=fr 528 525 fU
def Px:=tS 908 ["self","weekday","many"]
def aVC:=fz "__init__" "Nth.__init__" (ib (tp 77) 0)
def WB:=cO "__init__" "Nth.__init__" 905 255 3 3 530 911
def N9:=fQ "__init__" "Nth.__init__" (ib (tp 77) 0) fU 535
def aSS:=tS 917 ["self","last","first","day"]
def W2:=fz "days" "Nth.days" (ib (tp 77) 1)
def VP:=cO "days" "Nth.days" 914 259 3 3 537 921
def M2:=fQ "days" "Nth.days" (ib (tp 77) 1) fU 542
def aL8:=tS 927 ["self"]
def aOS:=fT "told" "Nth.told" (ib (tp 77) 2) (ib (tp 73) 2)
def S1:=cO "told" "Nth.told" 924 265 1 3 544 928
def R5:=fS "told" "Nth.told" (ib (tp 77) 2) (ib (tp 73) 2) fU 549
def Rj:=tS 931 ["many","weekday"]
def O6(P:Params):=di [de P "__module__" 900 fU,de P "__firstlineno__" 904 (.int 253 903),dr P "__init__" 913 536,dr P "days" 923 543,dr P "told" 930 550,dr P "__static_attributes__" 933 551,de P "__doc__" 934 .none] 2
def ZL:Obj:=⟨(.type "type"),none,(.cls ⟨"Nth",[(r 359)],[(r 553),(r 359),(.type "object")],552,"Nth",true,[],[],false,none,false⟩),#[(some (r 523)),none,(some (.str "Nth" 893)),(some (.str "Nth" 901)),(some (.builtin "object.__new__")),(some (.bool true))]⟩
def X5:=su 553 553 553
def Wr:=bm "object.__init_subclass__" (r 553)
def QD(P:Params):=di [de P "__module__" 944 fU,de P "__qualname__" 946 (.str "LastOne" 945),de P "__firstlineno__" 948 (.int 267 947),dr P "__init__" 956 569,dr P "days" 965 576,dr P "told" 972 583,dr P "__static_attributes__" 974 584] 7
def LB:=fD 4 [(269,568),(272,575),(275,582)]
def XA:=cK "LastOne" "LastOne" 939 267 559 942
def O0:=fr 561 558 fU
def XG:=tS 952 ["self","weekday"]
def VF:=fz "__init__" "LastOne.__init__" (ib (tp 78) 0)
def Yd:=cO "__init__" "LastOne.__init__" 949 269 2 3 563 954
def W0:=fQ "__init__" "LastOne.__init__" (ib (tp 78) 0) fU 568
def Pr:=tS 960 ["self","last","first"]
def Vf:=fz "days" "LastOne.days" (ib (tp 78) 1)
def SL:=cO "days" "LastOne.days" 957 272 3 3 570 963
def Ny:=fQ "days" "LastOne.days" (ib (tp 78) 1) fU 575
def Q9:=tS 969 ["self"]
def Lp:=fT "told" "LastOne.told" (ib (tp 78) 2) (ib (tp 73) 2)
def aND:=cO "told" "LastOne.told" 966 275 1 3 577 970
def Z2:=fS "told" "LastOne.told" (ib (tp 78) 2) (ib (tp 73) 2) fU 582
def V0:=tS 973 ["weekday"]
def On(P:Params):=di [de P "__module__" 944 fU,de P "__firstlineno__" 948 (.int 267 947),dr P "__init__" 956 569,dr P "days" 965 576,dr P "told" 972 583,dr P "__static_attributes__" 974 584,de P "__doc__" 975 .none] 2
def W5:Obj:=⟨(.type "type"),none,(.cls ⟨"LastOne",[(r 359)],[(r 586),(r 359),(.type "object")],585,"LastOne",true,[],[],false,none,false⟩),#[(some (r 556)),none,(some (.str "LastOne" 937)),(some (.str "LastOne" 945)),(some (.builtin "object.__new__")),(some (.bool true))]⟩
def We:=su 586 586 586
def Zv:=bm "object.__init_subclass__" (r 586)
def YT:=tS 981 ["marks","last","first","mask","mark"]
def aUA:=fY "any_days" 79
def Z1:=cP "any_days" 978 277 3 3 589 986
def S7:=fP "any_days" 79 fU 594
def YK:=tS 992 ["item","back","day"]
def WG:=fY "read_day_mark" 80
def Yo:=cP "read_day_mark" 989 282 1 3 596 995
def Na:=fP "read_day_mark" 80 fU 601
def aTT:=tS 1001 ["text","number"]
def V7:=fY "read_weekday" 81
def Sq:=cP "read_weekday" 998 294 1 3 603 1003
def WX:=fP "read_weekday" 81 fU 608
def Ls:=tS 1009 ["item","weekday","parts","many"]
def RW:=fY "read_weekday_mark" 82
def aP4:=cP "read_weekday_mark" 1006 297 1 3 610 1013
def Tq:=fP "read_weekday_mark" 82 fU 615
def lM(P:Params)(x0 x1:Obj):List Obj:=[(boot_o_0 P),(boot_o_1 P),(boot_o_2 P),x0,(boot_o_4 P),(boot_o_5 P),(boot_o_6 P),(boot_o_7 P),(boot_o_8 P),(boot_o_9 P),(boot_o_10 P),o0,x1,o2,o3,o0,o1,o6,o0,o7,o8,o9,XH,iC,(o12 P),o0,o1,US,T2,o0,(Oa P),TC,o17,PQ,Wy,qU,iC,(o21 P),o0,o1,o22,UV,o0,(o24 P),ZK,o26,o27,qU,iC,(Zb P),o0,MK,ZC,WN,o0,o1,RS,o0,Mg,Rp,QQ,Qb,(Sr P),Zl,PD,o40,qU,iC,(Wj P),o0,Vt,Su,Sa,o0,o1,NL,o0,o46,Rt,o48,OR,(R0 P),Rb,NF,o53,qU,iC,(Qf P),o0,o1,WC,Td,o0,(T4 P),Ql,X9,LM,o0,o1,Pd,o0,Np,QM,o64,o65,o0,o1,LN,o0,o67,VS,M4,o0,o1,W6,o0,Qg,W1,o73,o0,o1,o74,o0,Nt,o76,OU,o0,o1,Mi,o0,Wv,o80,Va,o0,o1,QS,o0,YO,Ve,Lu,o0,o1,Vh,Xa,Se,o0,o1,P5,o0,Ys,V9,o92,o0,o1,LY,o0,WK,PV,Yk,o0,o1,Vb,o0,Ym,o99,Yr,o0,o1,RL,aM0,aTX,o0,o1,N2,o0,OK,VH,aN8,o0,o1,XW,o0,aST,ZW,XJ,o0,o1,RY,o0,aUV,RB,YA,o0,o1,Pi,o0,Lk,NM,aQL,o0,o1,Ni,o0,Lq,TH,UW,o0,o1,WS,o0,XQ,M6,Zh,o0,o1,Ov,o0,Wo,MO,Ri,o0,o1,QK,o0,Vl,LG,Qj,o0,o1,Yf,ZX,QH,o0,o1,aPL,o0,XC,QR,ZQ,o0,o1,MP,OH,MY,o0,o1,Mt,o0,Qh,V2,Xq,o0,o1,OV,Ol,NU,o0,o1,Ti,o0,QY,Rc,Rq,o0,o1,Oe,P0,XF,o0,o1,aPZ,o0,aSJ,L6,Wk,o0,o1,aLC,o0,QA,Qk,Yy,o0,o1,Ou,Z9,RO,o0,o1,Nu,o0,Tz,Vs,LL,o0,o1,aOR,o0,OX,Mh,VO,o0,o1,aPI,o0,aNK,aLR,Qo,o0,o1,Lw,o0,LH,PH,aS9,o0,o1,Sm,o0,PM,XB,Xb,o0,o1,Zm,o0,aQW,OA,Mq,o0,o1,aRD,o0,Mz,V8,M9,o0,iC,(Z7 P),o0,X3,Q6,Sb,o0,o1,Xs,o0,QG,Vq,Mj,o0,o1,aUU,o0,aT8,RG,aTQ,o0,(So P),aNC,aO5,Xr,SU,Q1,mQ,iC,(aQE P),o0,aOO,Q8,Q7,o0,o1,TK,o0,Oi,Zg,aN3,o0,o1,Xn,o0,Zz,XX,aPH,o0,o1,UU,o0,SO,PN,aU3,YW,(R4 P),Zj,aNP,aPS,mQ,iC,(RT P),o0,aQZ,aO8,aU9,SV,o0,o1,ZD,o0,WF,X4,Wx,o0,o1,Zq,o0,Wg,RZ,Z8,o0,o1,aRB,o0,XZ,MQ,Yi,aSE,(MS P),LW,W4,aRO,mQ,iC,(aM7 P),o0,YJ,VQ,QE,o0,o1,Nz,o0,OG,TU,S5,o0,o1,RD,o0,RX,YR,TV,o0,o1,Mm,o0,LR,Yc,PY,Q4,(aL2 P),Xk,MG,VJ,mQ,iC,(L5 P),o0,aRP,WZ,ZN,o0,o1,Xo,o0,Xd,Qz,L7,o0,o1,Qu,o0,LF,To,P3,o0,(aMD P),aQX,aNH,Nh,mQ,iC,(aQK P),o0,Rx,QT,Tw,o0,o1,Ra,o0,OL,UR,aOE,o0,o1,Yt,o0,Qx,aMC,LZ,o0,o1,O4,o0,Zu,Ma,aS5,WH,(SY P),ZI,Qn,Wc,mQ,iC,(X1 P),o0,SZ,Rr,SG,o0,o1,Px,o0,aVC,WB,N9,o0,o1,aSS,o0,W2,VP,M2,o0,o1,aL8,o0,aOS,S1,R5,Rj,(O6 P),ZL,X5,Wr,mQ,iC,(QD P),o0,LB,XA,O0,o0,o1,XG,o0,VF,Yd,W0,o0,o1,Pr,o0,Vf,SL,Ny,o0,o1,Q9,o0,Lp,aND,Z2,V0,(On P),W5,We,Zv,o0,o1,YT,o0,aUA,Z1,S7,o0,o1,YK,o0,WG,Yo,Na,o0,o1,aTT,o0,V7,Sq,WX,o0,o1,Ls,o0,RW,aP4,Tq]
def t1(P:Params):BT:=oX 11 (lM P (o4 P) o5)
def s1(w:World)(os:OsState):SharedT:=⟨t1 w.params,617,⟨[],[],[],0,[],[],false,#[],[],0,false,false,false,0,[2000,10,10],false,0,true,[],[],0,false⟩,#[],⟨0,0,0,0⟩,1016,os⟩
def l0:List Stmt:=(bi.drop 0).take 83
theorem r0(w:World)(os:OsState):
  segRunT treeTable pw w 11 an 1 4995 (s0 w os) (piecesOf l0 ev cd ⟨0,0,0,0⟩ bk) =
  some (.next,s1 w os,cd,⟨297,0,308,29⟩):=by kernel_rfl
def Bz(P:Params):=di (de P "__name__" 165 jd::(HG P++[dr P "read_items" 1032 623,dr P "read_days" 1040 630,dr P "read_weekdays" 1049 637,de P "MOST_ROW_SIGNS" 1053 (.int 1600 1052),de P "MINUTE" 1055 (.int 0 1054),de P "HOUR" 1057 (.int 1 1056),de P "DAY" 1059 (.int 2 1058),de P "MONTH" 1061 (.int 3 1060),de P "WEEKDAY" 1063 (.int 4 1062),de P "NO_PLACE" 1065 (.int 5 1064),dr P "BOUNDS" 1078 638,dr P "times_of" 1088 648,dr P "days_by" 1100 655,dr P "Row" 1202 733,dr P "read_word" 1211 744,dr P "read_at" 1219 751,dr P "read_row" 1225 756,de P "MOST_BOOKS" 1229 (.int 8 1228),de P "MOST_TALLY" 1231 (.int 24 1230),de P "MOST_DEPTH" 1233 (.int 5 1232),dr P "same_each_day" 1241 763,dr P "all_times" 1247 770,dr P "tally_of" 1253 775,dr P "depth_of" 1259 780,dr P "Book" 1309 818,dr P "checked" 1315 827,dr P "checked_list" 1322 834,dr P "Of" 1363 865,dr P "Joined" 1414 908,dr P "Met" 1465 951,dr P "Less" 1520 996,dr P "Turned" 1573 1041,dr P "add_stretch" 1585 1050,dr P "last_shut_day" 1596 1057,dr P "shut_end" 1605 1064,dr P "paper_of" 1618 1071,de P "MOST_MONTHS" 1622 (.int 492 1621),dr P "minutes_on" 1632 1078,dr P "minutes_by" 1641 1085,dr P "month_of" 1649 1092,dr P "first_at" 1663 1099,dr P "next_from" 1673 1106,dr P "_law_cell_at" 1683 1113,dr P "_law_stir" 1692 1120,dr P "_law_digits" 1703 1127,dr P "_law_whole" 1710 1134,dr P "_law_field" 1723 1141,dr P "_law_row" 1737 1148,dr P "_law_tree" 1743 1153,dr P "_law_make" 1749 1158,dr P "_law_joined" 1758 1165,dr P "_law_masks" 1764 1170,dr P "_law_rows" 1773 1177,dr P "_law_moment" 1785 1184,dr P "_law_near" 1798 1191,dr P "_law_told" 1810 1198,dr P "_law_bit" 1823 1205,dr P "_law_eight" 1829 1210,dr P "law" 1843 1217])) 142
def CZ:=fD 0 [(1,20),(5,27),(7,40),(9,52),(13,71),(17,90),(20,102),(26,110),(28,117),(30,124),(33,131),(37,138),(41,143),(46,150),(51,157),(59,164),(63,169),(65,176),(70,183),(77,190),(80,197),(82,204),(88,211),(93,218),(95,225),(97,230),(100,237),(105,242),(107,249),(111,254),(117,261),(122,266),(124,273),(126,280),(133,285),(140,292),(147,299),(155,306),(177,313),(179,320),(181,327),(188,334),(190,341),(197,369),(207,402),(221,436),(233,469),(240,495),(253,528),(267,561),(277,594),(282,601),(294,608),(297,615),(309,622),(327,629),(334,636),(351,647),(356,654),(364,661),(415,743),(422,750),(427,755),(438,762),(440,769),(442,774),(444,779),(446,786),(459,826),(467,833),(471,840),(483,873),(502,916),(521,959),(539,1004),(557,1049),(562,1056),(569,1063),(575,1070),(586,1077),(591,1084),(595,1091),(598,1098),(609,1105),(615,1112),(619,1119),(623,1126),(634,1133),(636,1140),(643,1147),(656,1152),(666,1157),(680,1164),(686,1169),(701,1176),(708,1183),(716,1190),(726,1197),(737,1204),(742,1209),(749,1216)]
def wX:=tS 1019 ["text","low","high","read_mark","items","mask","marks","place","item","plain","mark"]
def Cn:=fY "read_items" 83
def Dh:=cP "read_items" 1016 309 4 3 617 1030
def Ad:=fP "read_items" 83 fU 622
def um:=tS 1036 ["text","read"]
def C0:=fY "read_days" 84
def Bj:=cP "read_days" 1033 327 1 3 624 1038
def Aa:=fP "read_days" 84 fU 629
def xx:=tS 1044 ["text","read","mask"]
def Aw:=fY "read_weekdays" 85
def xi:=cP "read_weekdays" 1041 334 1 3 631 1047
def uE:=fP "read_weekdays" 85 fU 636
def uK:=di [⟨0,(.int 0 1066),(r 639)⟩,⟨1,(.int 1 1069),(r 640)⟩,⟨3,(.int 3 1072),(r 641)⟩] 3
def yW:=tu [(.int 0 1067),(.int 59 1068)]
def AO:=tu [(.int 0 1070),(.int 23 1071)]
def xI:=tu [(.int 1 1073),(.int 12 1074)]
def xR:=tS 1082 ["hours","minutes","times","hour"]
def AF:=fY "times_of" 95
def Bl:=cP "times_of" 1079 351 2 3 642 1086
def A4:=fP "times_of" 95 je 647
def CD:=tS 1092 ["days","weekdays","last","first","mask","marks"]
def Bh:=fY "days_by" 96
def vY:=cP "days_by" 1089 356 4 3 649 1098
def zY:=fP "days_by" 96 je 654
def tP(P:Params):=di [de P "__module__" 1108 je,de P "__qualname__" 1110 (.str "Row" 1109),de P "__firstlineno__" 1112 (.int 364 1111),dr P "__init__" 1120 669,dr P "minutes" 1127 676,dr P "hours" 1134 683,dr P "months" 1141 690,dr P "times" 1148 697,dr P "days_in" 1157 704,dr P "on_days" 1163 709,dr P "holds" 1171 716,dr P "shut_by" 1181 723,dr P "shown" 1188 730,dr P "__static_attributes__" 1195 731] 14
def AN:=fD 4 [(366,668),(374,675),(377,682),(380,689),(383,696),(386,703),(392,708),(397,715),(400,722),(413,729)]
def yX:=cK "Row" "Row" 1103 364 659 1106
def tE:=fr 661 658 je
def BW:=tS 1116 ["self","fields"]
def DD:=fz "__init__" "Row.__init__" (ib (tp 97) 0)
def DC:=cO "__init__" "Row.__init__" 1113 366 2 3 663 1118
def D6:=fQ "__init__" "Row.__init__" (ib (tp 97) 0) je 668
def Bs:=tS 1124 ["self"]
def Am:=fT "minutes" "Row.minutes" (ib (tp 97) 1) (ib (tp 71) 1)
def zv:=cO "minutes" "Row.minutes" 1121 374 1 3 670 1125
def sW:=fS "minutes" "Row.minutes" (ib (tp 97) 1) (ib (tp 71) 1) je 675
def AS:=tS 1131 ["self"]
def Dq:=fT "hours" "Row.hours" (ib (tp 97) 2) (ib (tp 71) 1)
def vq:=cO "hours" "Row.hours" 1128 377 1 3 677 1132
def zw:=fS "hours" "Row.hours" (ib (tp 97) 2) (ib (tp 71) 1) je 682
def Bu:=tS 1138 ["self"]
def BH:=fz "months" "Row.months" (ib (tp 97) 3)
def C4:=cO "months" "Row.months" 1135 380 1 3 684 1139
def vR:=fQ "months" "Row.months" (ib (tp 97) 3) je 689
def CQ:=tS 1145 ["self"]
def DL:=fT "times" "Row.times" (ib (tp 97) 4) (ib (tp 71) 1)
def sL:=cO "times" "Row.times" 1142 383 1 3 691 1146
def Bg:=fS "times" "Row.times" (ib (tp 97) 4) (ib (tp 71) 1) je 696
def vU:=tS 1152 ["self","kind","month"]
def BV:=fz "days_in" "Row.days_in" (ib (tp 97) 5)
def vV:=cO "days_in" "Row.days_in" 1149 386 2 3 698 1155
def zJ:=fQ "days_in" "Row.days_in" (ib (tp 97) 5) je 703
def vW:=fz "on_days" "Row.on_days" (ib (tp 97) 6)
def xS:=co [(.str "on_days" 1158),(.str "Row.on_days" 1159),(sf 1160),(i 392),(i 2),(i 0),(i 0),(i 3),(r 705),(.bool true),(i 181),(r 706),.none,.none,.none,(r 707),(i 1161),(i 392),(sf 1162)]
def CS:=fQ "on_days" "Row.on_days" (ib (tp 97) 6) je 708
def C3:=tS 1167 ["self","moment"]
def yx:=fz "holds" "Row.holds" (ib (tp 97) 7)
def Bx:=cO "holds" "Row.holds" 1164 397 2 3 710 1169
def zK:=fQ "holds" "Row.holds" (ib (tp 97) 7) je 715
def A7:=tS 1175 ["self","moment","parts","date"]
def uf:=fz "shut_by" "Row.shut_by" (ib (tp 97) 8)
def ui:=cO "shut_by" "Row.shut_by" 1172 400 2 3 717 1179
def Dw:=fQ "shut_by" "Row.shut_by" (ib (tp 97) 8) je 722
def uD:=tS 1185 ["self"]
def xM:=fT "shown" "Row.shown" (ib (tp 97) 9) (ib (tp 97) 3)
def CT:=cO "shown" "Row.shown" 1182 413 1 3 724 1186
def AC:=fS "shown" "Row.shown" (ib (tp 97) 9) (ib (tp 97) 3) je 729
def AL:=tS 1189 ["day_marks","hour_mask","minute_mask","month_mask","time_mask","weekday_marks"]
def Dd(P:Params):=di [de P "__module__" 1108 je,de P "__firstlineno__" 1112 (.int 364 1111),dr P "__init__" 1120 669,dr P "minutes" 1127 676,dr P "hours" 1134 683,dr P "months" 1141 690,dr P "times" 1148 697,dr P "days_in" 1157 704,dr P "on_days" 1163 709,dr P "holds" 1171 716,dr P "shut_by" 1181 723,dr P "shown" 1188 730,dr P "__static_attributes__" 1195 731,dr P "__dict__" 1197 734,dr P "__weakref__" 1199 735,de P "__doc__" 1200 .none] 4
def zD:Obj:=⟨(.type "type"),none,(.cls ⟨"Row",[(.type "object")],[(r 733),(.type "object")],732,"Row",true,[],[],false,none,false⟩),#[none,none,(some (.str "Row" 1101)),(some (.str "Row" 1109)),(some (.builtin "object.__new__")),(some (.bool true))]⟩
def tJ:Obj:=⟨(.type "getset_descriptor"),none,(.fields #[(.str "__dict__" 1196),(r 733),(.builtin "function.__dict__"),(.builtin "function.__dict__#set")]),#[]⟩
def uG:Obj:=⟨(.type "getset_descriptor"),none,(.fields #[(.str "__weakref__" 1198),(r 733),(.builtin "ExceptionGroup.__weakref__"),.none]),#[]⟩
def De:=su 733 733 733
def Cr:=bm "object.__init_subclass__" (r 733)
def vS:=tS 1206 ["word","place","bounds"]
def xq:=fY "read_word" 98
def wB:=cP "read_word" 1203 415 2 3 738 1209
def An:=fP "read_word" 98 je 743
def C5:=tS 1215 ["word","place"]
def zy:=fY "read_at" 99
def Ao:=cP "read_at" 1212 422 2 3 745 1217
def zd:=fP "read_at" 99 je 750
def ze:=fY "read_row" 100
def Bf:=co [(.str "read_row" 1220),(.str "read_row" 1221),(sf 1222),(i 427),(i 1),(i 0),(i 0),(i 3),(r 752),(.bool true),(i 181),(r 753),.none,.none,.none,(r 754),(i 1223),(i 427),(sf 1224)]
def xO:=fP "read_row" 100 je 755
def Dy:=tS 1237 ["times","kind"]
def zb:=fY "same_each_day" 105
def xD:=cP "same_each_day" 1234 438 2 3 757 1239
def yg:=fP "same_each_day" 105 fZ 762
def xk:=fY "all_times" 106
def vN:=cP "all_times" 1242 440 0 3 764 1245
def vJ:=fP "all_times" 106 fZ 769
def ve:=fY "tally_of" 107
def zg:=co [(.str "tally_of" 1248),(.str "tally_of" 1249),(sf 1250),(i 442),(i 1),(i 0),(i 0),(i 3),(r 771),(.bool true),(i 181),(r 772),.none,.none,.none,(r 773),(i 1251),(i 442),(sf 1252)]
def zR:=fP "tally_of" 107 fZ 774
def xK:=fY "depth_of" 108
def xZ:=co [(.str "depth_of" 1254),(.str "depth_of" 1255),(sf 1256),(i 444),(i 1),(i 0),(i 0),(i 3),(r 776),(.bool true),(i 181),(r 777),.none,.none,.none,(r 778),(i 1257),(i 444),(sf 1258)]
def wa:=fP "depth_of" 108 fZ 779
def DB(P:Params):=di [de P "__module__" 1267 fZ,de P "__qualname__" 1269 (.str "Book" 1268),de P "__firstlineno__" 1271 (.int 446 1270),dr P "holds" 1279 794,dr P "tally" 1286 801,dr P "depth" 1293 808,dr P "on_days" 1301 815,dr P "__static_attributes__" 1302 816] 8
def wb:=fD 4 [(448,793),(451,800),(454,807),(457,814)]
def D9:=cK "Book" "Book" 1262 446 784 1265
def yS:=fr 786 783 fZ
def uk:=tS 1275 ["self","moment"]
def DG:=fT "holds" "Book.holds" (ib (tp 109) 0) (ib (tp 97) 7)
def BO:=cO "holds" "Book.holds" 1272 448 2 3 788 1277
def yt:=fS "holds" "Book.holds" (ib (tp 109) 0) (ib (tp 97) 7) fZ 793
def z0:=tS 1283 ["self"]
def ut:=fT "tally" "Book.tally" (ib (tp 109) 1) (ib (tp 71) 1)
def z3:=cO "tally" "Book.tally" 1280 451 1 3 795 1284
def zu:=fS "tally" "Book.tally" (ib (tp 109) 1) (ib (tp 71) 1) fZ 800
def Ap:=tS 1290 ["self"]
def yk:=fT "depth" "Book.depth" (ib (tp 109) 2) (ib (tp 71) 1)
def DU:=cO "depth" "Book.depth" 1287 454 1 3 802 1291
def Dv:=fS "depth" "Book.depth" (ib (tp 109) 2) (ib (tp 71) 1) fZ 807
def xp:=tS 1297 ["self","kind"]
def sD:=fz "on_days" "Book.on_days" (ib (tp 109) 3)
def vH:=cO "on_days" "Book.on_days" 1294 457 2 3 809 1299
def tG:=fQ "on_days" "Book.on_days" (ib (tp 109) 3) fZ 814
def Ds(P:Params):=di [de P "__module__" 1267 fZ,de P "__firstlineno__" 1271 (.int 446 1270),dr P "holds" 1279 794,dr P "tally" 1286 801,dr P "depth" 1293 808,dr P "on_days" 1301 815,dr P "__static_attributes__" 1302 816,dr P "__dict__" 1304 819,dr P "__weakref__" 1306 820,de P "__doc__" 1307 .none] 4
def uy:Obj:=⟨(.type "type"),none,(.cls ⟨"Book",[(.type "object")],[(r 818),(.type "object")],817,"Book",true,[],[(r 865),(r 908),(r 951),(r 996),(r 1041)],false,none,false⟩),#[none,none,(some (.str "Book" 1260)),(some (.str "Book" 1268)),(some (.builtin "object.__new__")),(some (.bool true))]⟩
def uM:Obj:=⟨(.type "getset_descriptor"),none,(.fields #[(.str "__dict__" 1303),(r 818),(.builtin "function.__dict__"),(.builtin "function.__dict__#set")]),#[]⟩
def yV:Obj:=⟨(.type "getset_descriptor"),none,(.fields #[(.str "__weakref__" 1305),(r 818),(.builtin "ExceptionGroup.__weakref__"),.none]),#[]⟩
def wm:=su 818 818 818
def xV:=bm "object.__init_subclass__" (r 818)
def zO:=fY "checked" 110
def tH:=co [(.str "checked" 1310),(.str "checked" 1311),(sf 1312),(i 459),(i 1),(i 0),(i 0),(i 3),(r 823),(.bool true),(i 181),(r 824),.none,.none,.none,(r 825),(i 1313),(i 459),(sf 1314)]
def sC:=fP "checked" 110 fZ 826
def Do:=tS 1319 ["books"]
def AB:=fY "checked_list" 111
def ww:=cP "checked_list" 1316 467 1 3 828 1320
def sI:=fP "checked_list" 111 fZ 833
def oQ:=tu [(r 818)]
def uO(P:Params):=di [de P "__module__" 1330 fZ,de P "__qualname__" 1332 (.str "Of" 1331),de P "__firstlineno__" 1334 (.int 471 1333),dr P "__init__" 1342 848,dr P "holds" 1350 855,dr P "on_days" 1358 862,dr P "__static_attributes__" 1360 863] 7
def yb:=fD 4 [(473,847),(478,854),(481,861)]
def B1:=cK "Of" "Of" 1325 471 838 1328
def vh:=fr 840 837 fZ
def Bo:=tS 1338 ["self","row"]
def tK:=fz "__init__" "Of.__init__" (ib (tp 112) 0)
def zN:=cO "__init__" "Of.__init__" 1335 473 2 3 842 1340
def AZ:=fQ "__init__" "Of.__init__" (ib (tp 112) 0) fZ 847
def yo:=tS 1346 ["self","moment"]
def wN:=fT "holds" "Of.holds" (ib (tp 112) 1) (ib (tp 97) 7)
def zA:=cO "holds" "Of.holds" 1343 478 2 3 849 1348
def DW:=fS "holds" "Of.holds" (ib (tp 112) 1) (ib (tp 97) 7) fZ 854
def CU:=tS 1354 ["self","kind"]
def xP:=fz "on_days" "Of.on_days" (ib (tp 112) 2)
def yM:=cO "on_days" "Of.on_days" 1351 481 2 3 856 1356
def Ab:=fQ "on_days" "Of.on_days" (ib (tp 112) 2) fZ 861
def yv:=tS 1359 ["row"]
def DM(P:Params):=di [de P "__module__" 1330 fZ,de P "__firstlineno__" 1334 (.int 471 1333),dr P "__init__" 1342 848,dr P "holds" 1350 855,dr P "on_days" 1358 862,dr P "__static_attributes__" 1360 863,de P "__doc__" 1361 .none] 2
def B3:Obj:=⟨(.type "type"),none,(.cls ⟨"Of",[(r 818)],[(r 865),(r 818),(.type "object")],864,"Of",true,[],[],false,none,false⟩),#[(some (r 835)),none,(some (.str "Of" 1323)),(some (.str "Of" 1331)),(some (.builtin "object.__new__")),(some (.bool true))]⟩
def sR:=su 865 865 865
def yD:=bm "object.__init_subclass__" (r 865)
def BP(P:Params):=di [de P "__module__" 1371 fZ,de P "__qualname__" 1373 (.str "Joined" 1372),de P "__firstlineno__" 1375 (.int 483 1374),dr P "__init__" 1383 881,dr P "holds" 1389 886,dr P "tally" 1396 893,dr P "depth" 1403 900,dr P "on_days" 1409 905,dr P "__static_attributes__" 1411 906] 9
def AV:=fD 4 [(485,880),(488,885),(491,892),(494,899),(497,904)]
def uh:=cK "Joined" "Joined" 1366 483 871 1369
def sJ:=fr 873 870 fZ
def yd:=tS 1379 ["self","books"]
def yL:=fz "__init__" "Joined.__init__" (ib (tp 113) 0)
def BX:=cO "__init__" "Joined.__init__" 1376 485 2 3 875 1381
def wV:=fQ "__init__" "Joined.__init__" (ib (tp 113) 0) fZ 880
def yh:=fz "holds" "Joined.holds" (ib (tp 113) 1)
def yO:=co [(.str "holds" 1384),(.str "Joined.holds" 1385),(sf 1386),(i 488),(i 2),(i 0),(i 0),(i 3),(r 882),(.bool true),(i 181),(r 883),.none,.none,.none,(r 884),(i 1387),(i 488),(sf 1388)]
def By:=fQ "holds" "Joined.holds" (ib (tp 113) 1) fZ 885
def yN:=tS 1393 ["self"]
def DX:=fz "tally" "Joined.tally" (ib (tp 113) 2)
def Bm:=cO "tally" "Joined.tally" 1390 491 1 3 887 1394
def wx:=fQ "tally" "Joined.tally" (ib (tp 113) 2) fZ 892
def AA:=tS 1400 ["self"]
def C8:=fz "depth" "Joined.depth" (ib (tp 113) 3)
def BL:=cO "depth" "Joined.depth" 1397 494 1 3 894 1401
def ub:=fQ "depth" "Joined.depth" (ib (tp 113) 3) fZ 899
def CC:=fz "on_days" "Joined.on_days" (ib (tp 113) 4)
def xH:=co [(.str "on_days" 1404),(.str "Joined.on_days" 1405),(sf 1406),(i 497),(i 2),(i 0),(i 0),(i 3),(r 901),(.bool true),(i 181),(r 902),.none,.none,.none,(r 903),(i 1407),(i 497),(sf 1408)]
def yJ:=fQ "on_days" "Joined.on_days" (ib (tp 113) 4) fZ 904
def Cb:=tS 1410 ["books"]
def xj(P:Params):=di [de P "__module__" 1371 fZ,de P "__firstlineno__" 1375 (.int 483 1374),dr P "__init__" 1383 881,dr P "holds" 1389 886,dr P "tally" 1396 893,dr P "depth" 1403 900,dr P "on_days" 1409 905,dr P "__static_attributes__" 1411 906,de P "__doc__" 1412 .none] 2
def BU:Obj:=⟨(.type "type"),none,(.cls ⟨"Joined",[(r 818)],[(r 908),(r 818),(.type "object")],907,"Joined",true,[],[],false,none,false⟩),#[(some (r 868)),none,(some (.str "Joined" 1364)),(some (.str "Joined" 1372)),(some (.builtin "object.__new__")),(some (.bool true))]⟩
def uB:=su 908 908 908
def Dc:=bm "object.__init_subclass__" (r 908)
def vy(P:Params):=di [de P "__module__" 1422 fZ,de P "__qualname__" 1424 (.str "Met" 1423),de P "__firstlineno__" 1426 (.int 502 1425),dr P "__init__" 1434 924,dr P "holds" 1440 929,dr P "tally" 1447 936,dr P "depth" 1454 943,dr P "on_days" 1460 948,dr P "__static_attributes__" 1462 949] 9
def Co:=fD 4 [(504,923),(507,928),(510,935),(513,942),(516,947)]
def yj:=cK "Met" "Met" 1417 502 914 1420
def yr:=fr 916 913 fZ
def Du:=tS 1430 ["self","books"]
def C6:=fT "__init__" "Met.__init__" (ib (tp 114) 0) (ib (tp 113) 0)
def CG:=cO "__init__" "Met.__init__" 1427 504 2 3 918 1432
def Cz:=fS "__init__" "Met.__init__" (ib (tp 114) 0) (ib (tp 113) 0) fZ 923
def AQ:=fz "holds" "Met.holds" (ib (tp 114) 1)
def xc:=co [(.str "holds" 1435),(.str "Met.holds" 1436),(sf 1437),(i 507),(i 2),(i 0),(i 0),(i 3),(r 925),(.bool true),(i 181),(r 926),.none,.none,.none,(r 927),(i 1438),(i 507),(sf 1439)]
def B7:=fQ "holds" "Met.holds" (ib (tp 114) 1) fZ 928
def Bd:=tS 1444 ["self"]
def yB:=fT "tally" "Met.tally" (ib (tp 114) 2) (ib (tp 113) 2)
def ux:=cO "tally" "Met.tally" 1441 510 1 3 930 1445
def Cw:=fS "tally" "Met.tally" (ib (tp 114) 2) (ib (tp 113) 2) fZ 935
def xQ:=tS 1451 ["self"]
def sO:=fT "depth" "Met.depth" (ib (tp 114) 3) (ib (tp 113) 3)
def AW:=cO "depth" "Met.depth" 1448 513 1 3 937 1452
def wL:=fS "depth" "Met.depth" (ib (tp 114) 3) (ib (tp 113) 3) fZ 942
def vd:=fz "on_days" "Met.on_days" (ib (tp 114) 4)
def tX:=co [(.str "on_days" 1455),(.str "Met.on_days" 1456),(sf 1457),(i 516),(i 2),(i 0),(i 0),(i 3),(r 944),(.bool true),(i 181),(r 945),.none,.none,.none,(r 946),(i 1458),(i 516),(sf 1459)]
def ug:=fQ "on_days" "Met.on_days" (ib (tp 114) 4) fZ 947
def zx:=tS 1461 ["books"]
def zG(P:Params):=di [de P "__module__" 1422 fZ,de P "__firstlineno__" 1426 (.int 502 1425),dr P "__init__" 1434 924,dr P "holds" 1440 929,dr P "tally" 1447 936,dr P "depth" 1454 943,dr P "on_days" 1460 948,dr P "__static_attributes__" 1462 949,de P "__doc__" 1463 .none] 2
def yI:Obj:=⟨(.type "type"),none,(.cls ⟨"Met",[(r 818)],[(r 951),(r 818),(.type "object")],950,"Met",true,[],[],false,none,false⟩),#[(some (r 911)),none,(some (.str "Met" 1415)),(some (.str "Met" 1423)),(some (.builtin "object.__new__")),(some (.bool true))]⟩
def sH:=su 951 951 951
def vp:=bm "object.__init_subclass__" (r 951)
def tD(P:Params):=di [de P "__module__" 1473 fZ,de P "__qualname__" 1475 (.str "Less" 1474),de P "__firstlineno__" 1477 (.int 521 1476),dr P "__init__" 1486 967,dr P "holds" 1494 974,dr P "tally" 1501 981,dr P "depth" 1508 988,dr P "on_days" 1514 993,dr P "__static_attributes__" 1517 994] 9
def DA:=fD 4 [(523,966),(528,973),(531,980),(534,987),(537,992)]
def Ac:=cK "Less" "Less" 1468 521 957 1471
def Ci:=fr 959 956 fZ
def sS:=tS 1481 ["self","one","other"]
def xG:=fz "__init__" "Less.__init__" (ib (tp 115) 0)
def Cq:=cO "__init__" "Less.__init__" 1478 523 3 3 961 1484
def uY:=fQ "__init__" "Less.__init__" (ib (tp 115) 0) fZ 966
def yp:=tS 1490 ["self","moment"]
def Bn:=fT "holds" "Less.holds" (ib (tp 115) 1) (ib (tp 97) 7)
def ud:=cO "holds" "Less.holds" 1487 528 2 3 968 1492
def CO:=fS "holds" "Less.holds" (ib (tp 115) 1) (ib (tp 97) 7) fZ 973
def vO:=tS 1498 ["self"]
def Cf:=fT "tally" "Less.tally" (ib (tp 115) 2) (ib (tp 113) 2)
def AH:=cO "tally" "Less.tally" 1495 531 1 3 975 1499
def CB:=fS "tally" "Less.tally" (ib (tp 115) 2) (ib (tp 113) 2) fZ 980
def wz:=tS 1505 ["self"]
def C9:=fT "depth" "Less.depth" (ib (tp 115) 3) (ib (tp 113) 3)
def xW:=cO "depth" "Less.depth" 1502 534 1 3 982 1506
def Dz:=fS "depth" "Less.depth" (ib (tp 115) 3) (ib (tp 113) 3) fZ 987
def yU:=fz "on_days" "Less.on_days" (ib (tp 115) 4)
def vX:=co [(.str "on_days" 1509),(.str "Less.on_days" 1510),(sf 1511),(i 537),(i 2),(i 0),(i 0),(i 3),(r 989),(.bool true),(i 181),(r 990),.none,.none,.none,(r 991),(i 1512),(i 537),(sf 1513)]
def BB:=fQ "on_days" "Less.on_days" (ib (tp 115) 4) fZ 992
def sG:=tS 1515 ["one","other"]
def Ag(P:Params):=di [de P "__module__" 1473 fZ,de P "__firstlineno__" 1477 (.int 521 1476),dr P "__init__" 1486 967,dr P "holds" 1494 974,dr P "tally" 1501 981,dr P "depth" 1508 988,dr P "on_days" 1514 993,dr P "__static_attributes__" 1517 994,de P "__doc__" 1518 .none] 2
def uV:Obj:=⟨(.type "type"),none,(.cls ⟨"Less",[(r 818)],[(r 996),(r 818),(.type "object")],995,"Less",true,[],[],false,none,false⟩),#[(some (r 954)),none,(some (.str "Less" 1466)),(some (.str "Less" 1474)),(some (.builtin "object.__new__")),(some (.bool true))]⟩
def xU:=su 996 996 996
def CY:=bm "object.__init_subclass__" (r 996)
def Az(P:Params):=di [de P "__module__" 1528 fZ,de P "__qualname__" 1530 (.str "Turned" 1529),de P "__firstlineno__" 1532 (.int 539 1531),dr P "__init__" 1540 1012,dr P "holds" 1548 1019,dr P "tally" 1555 1026,dr P "depth" 1562 1033,dr P "on_days" 1568 1038,dr P "__static_attributes__" 1570 1039] 9
def xy:=fD 4 [(541,1011),(545,1018),(548,1025),(551,1032),(554,1037)]
def y9:=cK "Turned" "Turned" 1523 539 1002 1526
def Ce:=fr 1004 1001 fZ
def D8:=tS 1536 ["self","one"]
def zl:=fz "__init__" "Turned.__init__" (ib (tp 116) 0)
def zZ:=cO "__init__" "Turned.__init__" 1533 541 2 3 1006 1538
def wI:=fQ "__init__" "Turned.__init__" (ib (tp 116) 0) fZ 1011
def CW:=tS 1544 ["self","moment"]
def zE:=fT "holds" "Turned.holds" (ib (tp 116) 1) (ib (tp 97) 7)
def C2:=cO "holds" "Turned.holds" 1541 545 2 3 1013 1546
def wt:=fS "holds" "Turned.holds" (ib (tp 116) 1) (ib (tp 97) 7) fZ 1018
def DQ:=tS 1552 ["self"]
def CF:=fT "tally" "Turned.tally" (ib (tp 116) 2) (ib (tp 113) 2)
def sY:=cO "tally" "Turned.tally" 1549 548 1 3 1020 1553
def vL:=fS "tally" "Turned.tally" (ib (tp 116) 2) (ib (tp 113) 2) fZ 1025
def Au:=tS 1559 ["self"]
def BN:=fT "depth" "Turned.depth" (ib (tp 116) 3) (ib (tp 113) 3)
def zX:=cO "depth" "Turned.depth" 1556 551 1 3 1027 1560
def uU:=fS "depth" "Turned.depth" (ib (tp 116) 3) (ib (tp 113) 3) fZ 1032
def Af:=fz "on_days" "Turned.on_days" (ib (tp 116) 4)
def uF:=co [(.str "on_days" 1563),(.str "Turned.on_days" 1564),(sf 1565),(i 554),(i 2),(i 0),(i 0),(i 3),(r 1034),(.bool true),(i 181),(r 1035),.none,.none,.none,(r 1036),(i 1566),(i 554),(sf 1567)]
def CH:=fQ "on_days" "Turned.on_days" (ib (tp 116) 4) fZ 1037
def sP:=tS 1569 ["one"]
def zc(P:Params):=di [de P "__module__" 1528 fZ,de P "__firstlineno__" 1532 (.int 539 1531),dr P "__init__" 1540 1012,dr P "holds" 1548 1019,dr P "tally" 1555 1026,dr P "depth" 1562 1033,dr P "on_days" 1568 1038,dr P "__static_attributes__" 1570 1039,de P "__doc__" 1571 .none] 2
def B4:Obj:=⟨(.type "type"),none,(.cls ⟨"Turned",[(r 818)],[(r 1041),(r 818),(.type "object")],1040,"Turned",true,[],[],false,none,false⟩),#[(some (r 999)),none,(some (.str "Turned" 1521)),(some (.str "Turned" 1529)),(some (.builtin "object.__new__")),(some (.bool true))]⟩
def Bi:=su 1041 1041 1041
def wU:=bm "object.__init_subclass__" (r 1041)
def uR:=tS 1579 ["stretches","first","last","told"]
def vo:=fY "add_stretch" 118
def xb:=cP "add_stretch" 1576 557 4 3 1044 1583
def vm:=fP "add_stretch" 118 rA 1049
def sV:=tS 1589 ["row","day","date","kind","later"]
def uz:=fY "last_shut_day" 119
def sZ:=cP "last_shut_day" 1586 562 2 3 1051 1594
def zU:=fP "last_shut_day" 119 rA 1056
def xu:=tS 1600 ["row","moment","word"]
def AR:=fY "shut_end" 120
def tT:=cP "shut_end" 1597 569 3 3 1058 1603
def xJ:=fP "shut_end" 120 rA 1063
def Cm:=tS 1609 ["row","begin","end","stretches","moment","word","last"]
def CP:=fY "paper_of" 121
def uS:=cP "paper_of" 1606 575 3 3 1065 1616
def uv:=fP "paper_of" 121 rA 1070
def vG:=tS 1626 ["days","minutes","place","times"]
def zQ:=fY "minutes_on" 124
def DR:=cP "minutes_on" 1623 586 1 3 1072 1630
def BK:=fP "minutes_on" 124 pj 1077
def yK:=tS 1636 ["known","on_days","kind"]
def DJ:=fY "minutes_by" 125
def vM:=cP "minutes_by" 1633 591 3 3 1079 1639
def yY:=fP "minutes_by" 125 pj 1084
def zM:=tS 1645 ["moment","date"]
def uJ:=fY "month_of" 126
def DS:=cP "month_of" 1642 595 1 3 1086 1647
def CA:=fP "month_of" 126 pj 1091
def BY:=tS 1653 ["on_days","moment","month","known","turn","start","passed","rest"]
def wC:=fY "first_at" 127
def yH:=cP "first_at" 1650 598 2 3 1093 1661
def wg:=fP "first_at" 127 pj 1098
def Ck:=tS 1667 ["row","moment","found"]
def BI:=tS 1670 ["row"]
def vz:=fY "next_from" 128
def zp:=cP "next_from" 1664 609 2 3 1100 1671
def vC:=fP "next_from" 128 pj 1105
def yq:=tS 1679 ["_law_script","_law_k"]
def vE:=fY "_law_cell_at" 130
def Dr:=cP "_law_cell_at" 1676 615 2 3 1107 1681
def A6:=fP "_law_cell_at" 130 jd 1112
def wH:=tS 1687 ["_law_number","_law_first","_law_second"]
def AK:=fY "_law_stir" 131
def BC:=cP "_law_stir" 1684 619 1 3 1114 1690
def CL:=fP "_law_stir" 131 jd 1119
def vw:=tS 1696 ["_law_cell","_law_sizes","_law_mixed","_law_found","_law_size"]
def Cp:=fY "_law_digits" 132
def zr:=cP "_law_digits" 1693 623 3 3 1121 1701
def BJ:=fP "_law_digits" 132 jd 1126
def yC:=tS 1707 ["_law_found"]
def yE:=fY "_law_whole" 133
def vD:=cP "_law_whole" 1704 634 1 3 1128 1708
def Bv:=fP "_law_whole" 133 jd 1133
def Di:=tS 1714 ["_law_parts","_law_low","_law_high","_law_one","_law_later","_law_by","_law_some"]
def BM:=fY "_law_field" 134
def uX:=cP "_law_field" 1711 636 3 3 1135 1721
def Dn:=fP "_law_field" 134 jd 1140
def AJ:=tS 1727 ["_law_cell","_law_mixed","_law_parts","_law_one","_law_day","_law_days","_law_weekdays","_law_words"]
def xl:=fY "_law_row" 135
def va:=cP "_law_row" 1724 643 2 3 1142 1735
def DN:=fP "_law_row" 135 jd 1147
def wF:=fY "_law_tree" 136
def DH:=co [(.str "_law_tree" 1738),(.str "_law_tree" 1739),(sf 1740),(i 656),(i 4),(i 0),(i 0),(i 3),(r 1149),(.bool true),(i 181),(r 1150),.none,.none,.none,(r 1151),(i 1741),(i 656),(sf 1742)]
def D7:=fP "_law_tree" 136 jd 1152
def ua:=fY "_law_make" 137
def wW:=co [(.str "_law_make" 1744),(.str "_law_make" 1745),(sf 1746),(i 666),(i 1),(i 0),(i 0),(i 3),(r 1154),(.bool true),(i 181),(r 1155),.none,.none,.none,(r 1156),(i 1747),(i 666),(sf 1748)]
def tR:=fP "_law_make" 137 jd 1157
def AU:=tS 1753 ["_law_word","_law_one","_law_other"]
def vB:=fY "_law_joined" 138
def xf:=cP "_law_joined" 1750 680 3 3 1159 1756
def vA:=fP "_law_joined" 138 jd 1164
def zi:=fY "_law_masks" 139
def AD:=co [(.str "_law_masks" 1759),(.str "_law_masks" 1760),(sf 1761),(i 686),(i 2),(i 0),(i 0),(i 3),(r 1166),(.bool true),(i 181),(r 1167),.none,.none,.none,(r 1168),(i 1762),(i 686),(sf 1763)]
def zW:=fP "_law_masks" 139 jd 1169
def DO:=tS 1768 ["_law_tree_here","_law_rows_here","_law_part"]
def BD:=fY "_law_rows" 140
def DI:=cP "_law_rows" 1765 701 1 3 1171 1771
def zt:=fP "_law_rows" 140 jd 1176
def zT:=tS 1777 ["_law_cell","_law_mixed","_law_parts","_law_year","_law_on","_law_number"]
def Bb:=fY "_law_moment" 141
def yw:=cP "_law_moment" 1774 708 2 3 1178 1783
def zq:=fP "_law_moment" 141 jd 1183
def AX:=tS 1789 ["_law_tree_here","_law_cell","_law_mixed","_law_parts","_law_moment_here","_law_rows_here","_law_found"]
def yz:=fY "_law_near" 142
def yu:=cP "_law_near" 1786 716 3 3 1185 1796
def xY:=fP "_law_near" 142 jd 1190
def Dk:=tS 1802 ["_law_book","_law_tree_here","_law_kind","_law_due","_law_found","_law_times"]
def BA:=fY "_law_told" 143
def xw:=cP "_law_told" 1799 726 3 3 1192 1808
def xN:=fP "_law_told" 143 jd 1197
def uQ:=tS 1814 ["_law_book","_law_moment_here","_law_day","_law_year","_law_month","_law_date","_law_times"]
def uo:=fY "_law_bit" 144
def xB:=cP "_law_bit" 1811 737 2 3 1199 1821
def wR:=fP "_law_bit" 144 jd 1204
def B2:=fY "_law_eight" 145
def Ba:=co [(.str "_law_eight" 1824),(.str "_law_eight" 1825),(sf 1826),(i 742),(i 3),(i 0),(i 0),(i 3),(r 1206),(.bool true),(i 181),(r 1207),.none,.none,.none,(r 1208),(i 1827),(i 742),(sf 1828)]
def BE:=fP "_law_eight" 145 jd 1209
def uc:=tS 1833 ["_law_script","_law_mixed","_law_tree_here","_law_book","_law_parts","_law_kinds","_law_kind","_law_k"]
def Ay:=fY "law" 146
def C1:=cP "law" 1830 749 1 3 1211 1841
def yG:=fP "law" 146 jd 1216
def hL(P:Params):List Obj:=lM P (Bz P) CZ++[o0,o1,wX,o0,Cn,Dh,Ad,o0,o1,um,o0,C0,Bj,Aa,o0,o1,xx,o0,Aw,xi,uE,uK,yW,AO,xI,o0,o1,xR,o0,AF,Bl,A4,o0,o1,CD,o0,Bh,vY,zY,o0,iC,(tP P),o0,AN,yX,tE,o0,o1,BW,o0,DD,DC,D6,o0,o1,Bs,o0,Am,zv,sW,o0,o1,AS,o0,Dq,vq,zw,o0,o1,Bu,o0,BH,C4,vR,o0,o1,CQ,o0,DL,sL,Bg,o0,o1,vU,o0,BV,vV,zJ,o0,o1,vW,xS,CS,o0,o1,C3,o0,yx,Bx,zK,o0,o1,A7,o0,uf,ui,Dw,o0,o1,uD,o0,xM,CT,AC,AL,(Dd P),zD,tJ,uG,De,Cr,o0,o1,vS,o0,xq,wB,An,o0,o1,C5,o0,zy,Ao,zd,o0,o1,ze,Bf,xO,o0,o1,Dy,o0,zb,xD,yg,o0,o1,o0,o0,xk,vN,vJ,o0,o1,ve,zg,zR,o0,o1,xK,xZ,wa,o0,iC,(DB P),o0,wb,D9,yS,o0,o1,uk,o0,DG,BO,yt,o0,o1,z0,o0,ut,z3,zu,o0,o1,Ap,o0,yk,DU,Dv,o0,o1,xp,o0,sD,vH,tG,o0,(Ds P),uy,uM,yV,wm,xV,o0,o1,zO,tH,sC,o0,o1,Do,o0,AB,ww,sI,oQ,iC,(uO P),o0,yb,B1,vh,o0,o1,Bo,o0,tK,zN,AZ,o0,o1,yo,o0,wN,zA,DW,o0,o1,CU,o0,xP,yM,Ab,yv,(DM P),B3,sR,yD,oQ,iC,(BP P),o0,AV,uh,sJ,o0,o1,yd,o0,yL,BX,wV,o0,o1,yh,yO,By,o0,o1,yN,o0,DX,Bm,wx,o0,o1,AA,o0,C8,BL,ub,o0,o1,CC,xH,yJ,Cb,(xj P),BU,uB,Dc,oQ,iC,(vy P),o0,Co,yj,yr,o0,o1,Du,o0,C6,CG,Cz,o0,o1,AQ,xc,B7,o0,o1,Bd,o0,yB,ux,Cw,o0,o1,xQ,o0,sO,AW,wL,o0,o1,vd,tX,ug,zx,(zG P),yI,sH,vp,oQ,iC,(tD P),o0,DA,Ac,Ci,o0,o1,sS,o0,xG,Cq,uY,o0,o1,yp,o0,Bn,ud,CO,o0,o1,vO,o0,Cf,AH,CB,o0,o1,wz,o0,C9,xW,Dz,o0,o1,yU,vX,BB,sG,(Ag P),uV,xU,CY,oQ,iC,(Az P),o0,xy,y9,Ce,o0,o1,D8,o0,zl,zZ,wI,o0,o1,CW,o0,zE,C2,wt,o0,o1,DQ,o0,CF,sY,vL,o0,o1,Au,o0,BN,zX,uU,o0,o1,Af,uF,CH,sP,(zc P),B4,Bi,wU,o0,o1,uR,o0,vo,xb,vm,o0,o1,sV,o0,uz,sZ,zU,o0,o1,xu,o0,AR,tT,xJ,o0,o1,Cm,o0,CP,uS,uv,o0,o1,vG,o0,zQ,DR,BK,o0,o1,yK,o0,DJ,vM,yY,o0,o1,zM,o0,uJ,DS,CA,o0,o1,BY,o0,wC,yH,wg,o0,o1,Ck,BI,vz,zp,vC,o0,o1,yq,o0,vE,Dr,A6,o0,o1,wH,o0,AK,BC,CL,o0,o1,vw,o0,Cp,zr,BJ,o0,o1,yC,o0,yE,vD,Bv,o0,o1,Di,o0,BM,uX,Dn,o0,o1,AJ,o0,xl,va,DN,o0,o1,wF,DH,D7,o0,o1,ua,wW,tR,o0,o1,AU,o0,vB,xf,vA,o0,o1,zi,AD,zW,o0,o1,DO,o0,BD,DI,zt,o0,o1,zT,o0,Bb,yw,zq,o0,o1,AX,o0,yz,yu,xY,o0,o1,Dk,o0,BA,xw,xN,o0,o1,uQ,o0,uo,xB,wR,o0,o1,B2,Ba,BE,o0,o1,uc,o0,Ay,C1,yG]
def t2(P:Params):BT:=oX 12 (hL P)
def s2(w:World)(os:OsState):SharedT:=⟨t2 w.params,1218,⟨[],[],[],0,[],[],false,#[],[],0,false,false,false,0,[2000,10,10],false,0,true,[],[],0,false⟩,#[],⟨0,0,0,0⟩,1844,os⟩
def l1:List Stmt:=(bi.drop 83).take 64
theorem r1(w:World)(os:OsState):
  segRunT treeTable pw w 11 an 1 4042 (s1 w os) (piecesOf l1 ev cd ⟨297,0,308,29⟩ bk) =
  some (.next,s2 w os,cd,⟨749,0,763,132⟩):=
 byRow2 "special-get-raises" (P:=fun w=>segRunT treeTable pw w 11 an 1 4042 (s1 w os) (piecesOf l1 ev cd ⟨297,0,308,29⟩ bk)=some (.next,s2 w os,cd,⟨749,0,763,132⟩)) (fun w=>by kernel_rfl) (fun w=>by kernel_rfl) w
def hF(P:Params):Heap:=⟨⟨hL P⟩,⟨[],[],[],0,[],[],false,#[],[],0,false,false,false,0,[2000,10,10],false,0,true,[],[],0,false⟩⟩
def sF(w:World)(os:OsState):Shared:=⟨hF w.params,#[],⟨0,0,0,0⟩,1844,os⟩
theorem fE(w:World)(os:OsState):
  topRun treeTable pw w 11 an 2 (s2 w os).abs (restOf [] ev cd ⟨749,0,763,132⟩ bk) =
  some (sF w os):=by kernel_rfl
theorem N3:bi=(l0++(l1++[])):=by kernel_rfl
theorem run(w:World)(os:OsState):topRun treeTable pw w 11 an (12+(1+(4995+(4042+(2))))) ⟨boot_heap w.params,⟨[]⟩,boot_drawn,boot_toks,os⟩ (topStub pw)=some (sF w os):=by
 refine go_top (pre w os) (piece_block (Ze w os) ?_)
 rw[N3]
 exact (piece_app (segRun_of (r0 w os)) (piece_app (segRun_of (r1 w os)) (fE w os)))
theorem opn:∀w:World,(fencedOpening treeTable pw w 18196).map (fun s=>(s.heap,s.gens,s.drawn,s.toks))=some (boot_heap w.params,⟨[]⟩,boot_drawn,boot_toks):=
 boot_open (by kernel_rfl) rfl (fun s=>by kernel_rfl)
theorem siz(w:World):((boot_heap w.params).isNs mainGlobals&&(⟨[]⟩:Array GenState).size==0,(boot_heap w.params).objs.size,(boot_heap w.params).nsMap mainGlobals "__annotations__")=(true,11,an):=by kernel_rfl
end
end
theorem LJ{q:Program}{loose mods:List Str}{Xt:Shared->Bool}{s:Shared}
  (e1:seen ((recsOf q).map (·.name)) (ownsOf q) [] {s with gens:= #[]}=expectedOf q) (e2:s.heap.bltView=bltViewBooted)
  (a1:s.heap.keysOk (looseW q loose) ((recsOf q).map (·.name)) ((litsOf q).map (·.1)) ((clssOf q (looseW q loose)).map (·.name))=true)
  (a2:s.heap.accountedOkI mods=true) (a3:s.heap.isNs mainGlobals=true) (a4:s.heap.isNs builtinsNs=true)
  (a5:tablesOk q s.heap=true) (a6:Xt s=true) (a7:(s.gens.size==0)=true) (e4:tabsOk q s=true)
  (e5:pinSeenD q (drecsOf q) s=pinGoodD (drecsOf q)) (e6:plainSeenE q (looseW q loose) s=plainGoodE q (looseW q loose))
  (e7:plainSeenD q loose s=plainGoodD q loose) (e8:wideSeen q s=wideGood q) (e9:clsSeenW q loose s=clsGoodW q loose):
  openSeen q loose mods Xt true s=openGood q loose:=by
 unfold openSeen openGood
 rw[e1,e2,a1,a2,a3,a4,a5,a6,if_pos rfl,a7,e4,e5,e6,e7,e8,e9];rfl
noncomputable def kqA{α:Type}(n:Nat):List α->List α:=Nat.rec (fun _=>[]) (fun _ ih l=>List.rec [] (fun a as _=>a::ih as) l) n
noncomputable def kqB{α:Type}(n:Nat):List α->List α:=Nat.rec (fun _=>[]) (fun _ ih l=>List.rec [] (fun a as _=>a::ih as) l) n
noncomputable def kqC{α:Type}(n:Nat):List α->List α:=Nat.rec (fun l=>l) (fun _ ih l=>List.rec [] (fun _ as _=>ih as) l) n
noncomputable def kqD{α:Type}(n:Nat):List α->List α:=Nat.rec (fun l=>l) (fun _ ih l=>List.rec [] (fun _ as _=>ih as) l) n
theorem Zc{α:Type}:∀(n:Nat){l r:List α},kqA n l=kqB n r->kqC n l=kqD n r->l=r
 |0,_,_,_,h=>h
 |n+1,l,r,h1,h2=>by
  cases l with
  |nil=>
   cases r with
   |nil=>rfl
   |cons b s=>cases h1
  |cons a l=>
   cases r with
   |nil=>cases h1
   |cons b s=>
    injection h1 with e1 e2
    rw[e1,Zc n e2 h2]
noncomputable def gA:Program:=view PySem.Challenge.pw_fivefields_k63_on_days [0,2,3,4,5,6,8,10,11,12,13,14,15,16,17,18,19,20,21,23,24,25,27,28,29,31,32,33,34,35,36,37,39,40,41,42,43,44,45,47,48,49,50,51,52,53,54,55,56,57,59,60,61,62,63,64,65,66,67,68,69,70,71,72,73,74,75,76,77,78,79,80,81,82,83,84,85,87,88,89,90,91,92,93,94,95,96,97,98,99,100,102,103,104,105,106,107,108,109,110,111,112,113,114,115,116,118,119,120,121,123,124,125,126,127,128,130,131,132,133,134,135,136,137,138,139,140,141,142,143,144,145,146]
noncomputable def free:List Str:=[Str.ofString "Last",Str.ofString "BOUNDS"]
noncomputable def read:List (Str×WData):=[]
section
set_option maxHeartbeats 0
set_option maxRecDepth 100000
noncomputable section
def XT:Shared->Bool:=fun z=>xlAt gA read z&&recOk (RowW.records (OpenRow.toRowW (OpenLaw.row PySem.Challenge.rw_fivefields_k63_on_days))) z
abbrev SE(w:World)(os:OsState):=openSeen gA free (importedModules pw.main.body) XT true (sF w os)
section
variable(w:World)(os:OsState)
theorem z1:seen ((recsOf gA).map (·.name)) (ownsOf gA) [] {sF w os with gens:= #[]}=expectedOf gA:=by kernel_rfl
theorem z2:(sF w os).heap.bltView=bltViewBooted:=by kernel_rfl
theorem y1:(sF w os).heap.keysOk (looseW gA free) ((recsOf gA).map (·.name)) ((litsOf gA).map (·.1)) ((clssOf gA (looseW gA free)).map (·.name))=true:=by kernel_rfl
theorem y2:(sF w os).heap.accountedOkI (importedModules pw.main.body)=true:=by kernel_rfl
theorem y3:(sF w os).heap.isNs mainGlobals=true:=by kernel_rfl
theorem y4:(sF w os).heap.isNs builtinsNs=true:=by kernel_rfl
theorem y5:tablesOk gA (sF w os).heap=true:=by kernel_rfl
theorem y6:XT (sF w os)=true:=by kernel_rfl
theorem y7:((sF w os).gens.size==0)=true:=by kernel_rfl
theorem z4:tabsOk gA (sF w os)=true:=by kernel_rfl
theorem z5:pinSeenD gA (drecsOf gA) (sF w os)=pinGoodD (drecsOf gA):=by kernel_rfl
theorem z6:plainSeenE gA (looseW gA free) (sF w os)=plainGoodE gA (looseW gA free):=by kernel_rfl
theorem z7:plainSeenD gA free (sF w os)=plainGoodD gA free:=by kernel_rfl
theorem z8:wideSeen gA (sF w os)=wideGood gA:=by kernel_rfl
theorem z9:clsSeenW gA free (sF w os)=clsGoodW gA free:=by kernel_rfl
theorem look:SE w os=openGood gA free:=LJ (q:=gA) (loose:=free) (mods:=importedModules pw.main.body) (Xt:=XT) (s:=sF w os) (z1 w os) (z2 w os) (y1 w os) (y2 w os) (y3 w os) (y4 w os) (y5 w os) (y6 w os) (y7 w os) (z4 w os) (z5 w os) (z6 w os) (z7 w os) (z8 w os) (z9 w os)
end
theorem Mw(w:World)(os:OsState):(staticsOk (importedModules pw.main.body) (boot_heap w.params) (hF w.params)&&namesBound pw (hF w.params)
  &&gensDone (sF w os)&&laidKept (boot_heap w.params) (hF w.params))=true:=by kernel_rfl
section
set_option Elab.async false
local macro_rules
  | `(tactic| o_head $H) => `(tactic| (have kk := $H; assumption))
theorem d0(h:PySem.Challenge.rw_fivefields_k63_on_days.row.Holds):PySem.Challenge.rw_fivefields_k63_on_days.row.Holds:=by
 w_on
 k_head
end
def kqL(w:World)(os:OsState):List (Option Obj):=((d0.heap_1 w.params).map fun p=>p.1).map (sF w os).heap.get?
def kqR(w:World):List (Option Obj):=(d0.heap_1 w.params).map fun p=>some p.2
theorem kq0(w:World)(os:OsState):kqA 220 (kqL w os)=kqB 220 (kqR w):=by kernel_rfl
theorem kq1(w:World)(os:OsState):kqA 220 (kqC 220 (kqL w os))=kqB 220 (kqD 220 (kqR w)):=by kernel_rfl
theorem kq2(w:World)(os:OsState):kqA 220 (kqC 220 (kqC 220 (kqL w os)))=kqB 220 (kqD 220 (kqD 220 (kqR w))):=by kernel_rfl
theorem kq3(w:World)(os:OsState):kqA 220 (kqC 220 (kqC 220 (kqC 220 (kqL w os))))=kqB 220 (kqD 220 (kqD 220 (kqD 220 (kqR w)))):=by kernel_rfl
theorem kq4(w:World)(os:OsState):(kqC 220 (kqC 220 (kqC 220 (kqC 220 (kqL w os)))))=(kqD 220 (kqD 220 (kqD 220 (kqD 220 (kqR w))))):=by kernel_rfl
theorem kk(w:World)(os:OsState):((d0.heap_1 w.params).map fun p=>p.1).map (sF w os).heap.get? =(d0.heap_1 w.params).map fun p=>some p.2:=Zc 220 (kq0 w os) (Zc 220 (kq1 w os) (Zc 220 (kq2 w os) (Zc 220 (kq3 w os) (kq4 w os))))
abbrev rR:OpenRow:=OpenLaw.row PySem.Challenge.rw_fivefields_k63_on_days
def as0:List Addr:=(d0.heap_1 {strHash:=fun _=>0,shareClass:=fun _=>0,mergeTok:=fun t=>t,idOf:=fun _=>0,idOfShared:=fun _ _=>0,followText:=fun _=>true,idOfImm:=fun _=>0}).map (·.1)
theorem nN(P:Params):as0=(d0.heap_1 P).map (·.1):=by kernel_rfl
theorem Lr:LeftO rR.prog gA free XT (kHook d0.heap_1 as0 nN).obs (kHook d0.heap_1 as0 nN).val 18196:=by
 refine LeftO.of_pieces opn siz run rfl ?_
 intro w
 funext os
 refine looks_pair (Mw w os) (looks_pair (look w os) ?_)
 show as0.map (sF w os).heap.get? =(d0.heap_1 w.params).map fun p=>some p.2
 rw[nN w.params]
 exact kk w os
theorem dS:(defOf gA rR.name).isSome=true:=by kernel_rfl
def dL:DefRec:=((defOf gA rR.name).get dS).1
theorem h1:defOf gA rR.name=some (dL,[]):=by kernel_rfl
theorem h2:rR.prog.theDef rR.name=some (dL.params,dL.body,dL.scope):=by kernel_rfl
theorem h3:kwWritten? dL.params.kwonlyargs dL.params.kw_defaults=some []:=by kernel_rfl
theorem h4:dL.params.defaults=[]:=by kernel_rfl
theorem h5:dL.name="law":=by kernel_rfl
theorem h6:(!rR.writes||rR.records.isEmpty)=true:=by kernel_rfl
theorem h7:(chainsOk gA&&opensWell rR.prog&&(frees rR.toRowW&&rR.within.isEmpty))=true:=by decide +kernel
theorem h8:rR.prog.bare:=⟨rfl,rfl,rfl,rfl,rfl,by decide +kernel⟩
theorem lst(said:rR.wellSaid=true)(hw:rR.toRowW.promised)
  (hc:WalkO gA free (XL gA read) (kHook d0.heap_1 as0 nN).says rR.toRowW dL [] fun f vs=>PySem.call f vs):rR.Holds:=
 holds_open (q:=gA) (loose:=free) (Xt:=XT) (XP:=XL gA read) Lr (kHook d0.heap_1 as0 nN).of (kHook d0.heap_1 as0 nN).keeps
  (fun z y=>xl_of z (Bool.and_eq_true_iff.mp y).1) XL.keeps h1 h2 h3 (fun z y=>recFacts_of (Bool.and_eq_true_iff.mp y).2) h6 said h7 h8 hw hc
theorem E3:((recsOf gA).find? (fun e=>e.name==Str.ofString "next_from")).isSome=true:=by kernel_rfl
theorem Mv:(recsOf gA).find? (fun e=>e.name==Str.ofString "next_from")=some (((recsOf gA).find? (fun e=>e.name==Str.ofString "next_from")).get E3):=(Option.some_get E3).symm
theorem atV(P:Params):tabIn (d0.heap_1 P) "next_from"=some (1105,1101):=by kernel_rfl
theorem P8(P:Params):(d0.heap_1 P).lookup 1101=none:=by kernel_rfl
theorem tb(w:World)(h:Heap)(mean:ExcName->Option Value)(mg mb:Str->Option Value)(X:(d0.heap_1 w.params).In h)(T:Top gA (looseW gA free) mean mg mb h):∀b∈[1101],(isCodeTable h b/\h.get? b=some (tabObj #[]))/\(d0.heap_1 w.params).lookup b=none:=by
 intro b hb
 simp only[List.mem_cons,List.not_mem_nil,or_false] at hb
 rcases hb with rfl
 ·obtain⟨h1,h2⟩:=tab_of T X Mv (atV w.params)
  exact⟨⟨(h1.tab h2).isCodeTable,h2⟩,P8 w.params⟩
theorem ZG(P:Params):nsIn (d0.heap_1 P) mainGlobals "__builtins__"=some (some (.ref 4)):=by kernel_rfl
theorem QL(P:Params):(d0.heap_1 P).lookup 4=none:=by kernel_rfl
theorem tbm(w:World)(h:Heap)(mg:Str->Option Value)(X:(d0.heap_1 w.params).In h)(G:h.Ns mainGlobals mg):mg "__builtins__"=some (.ref 4)/\(d0.heap_1 w.params).lookup 4=none:=⟨mg_of X G (ZG w.params),QL w.params⟩
end
end
end Hd
local macro_rules
  | `(⟨$xs,*⟩)=>do
    let s:=xs.getElems
    if s.any (fun y=>match y with|`(())=>true|`((()))=>true|_=>false) then
      let mut z:Array (Lean.TSyntax `term):=#[]
      for y in s do
        match y with
        | `(())=>z:=(z.push (<-`(_))).push (<-`(rfl))
        | `((()))=>z:=(((z.push (<-`(_))).push (<-`(_))).push (<-`(rfl))).push (<-`(rfl))
        | _=>z:=z.push y
      `(⟨$z,*⟩)
    else Lean.Macro.throwUnsupported
local macro_rules
  | `(⋯)=>`(by omega)
local macro_rules
  | `(tactic|trivial)=>`(tactic|(intro _ _ _ _ h;first|(cases h;subst_vars;rfl)|(repeat first|(have e:=h.1;subst e;rfl)|obtain⟨_,h⟩:=h)))
set_option Elab.async false
set_option linter.all false
set_option maxRecDepth 100000
namespace L2
open PySem PySem.Spec PyProof.Rows
abbrev FG:=PySem.W.Frag
abbrev dH:=@wpAny_passesOwn
abbrev dI:=@wpAny_comprehension_free
abbrev dJ:=@wpAny_bind
abbrev dM:=@wpAny_mono
abbrev dN:=@sizeLine_eq
abbrev dO:=@wpAny_holding
abbrev dP:=@of_decide_eq_true
abbrev dQ:=@decide_eq_true
abbrev dR:=@decide_eq_true_eq
abbrev dU:=@decide_eq_false
abbrev dW:=@wpAny_Call_Name_kw
abbrev dX:=@wpAny_pure
abbrev dY:=@wpAny_truthy_bool
abbrev aX:=@Nat.le_refl
abbrev aY:=@List.length_map
abbrev aZ:=@Heap.lt_size
abbrev a8:=@List.length_append
abbrev a9:=@List.mem_cons
abbrev bA:=@List.map_append
abbrev bB:=@Int.le_refl
abbrev bC:=@Nat.lt_of_lt_of_le
abbrev bD:=@Heap.get?_push_of_some
abbrev bE:=@Nat.ne_of_lt
abbrev bF:=@Bool.false_ne_true
abbrev bG:=@Option.some.inj
abbrev bH:=@List.mem_map
abbrev bI:=@List.getElem?_map
abbrev bJ:=@List.size_toArray
abbrev bK:=@Nat.zero_le
abbrev bL:=@List.take_succ
abbrev bM:=@List.map_cons
abbrev bN:=@List.take_length
abbrev bO:=@Heap.get?_push_size
abbrev bP:=@List.mem_cons_of_mem
abbrev bQ:=@List.length_cons
abbrev bR:=@List.mem_of_getElem?
abbrev bS:=@Int.toNat_natCast
abbrev bU:=@List.mem_singleton
abbrev bV:=@Nat.le_trans
abbrev bW:=@List.mem_cons_self
abbrev bX:=@Bool.and_eq_true
abbrev bY:=@Int.eq_ofNat_of_zero_le
abbrev bZ:=@Int.le_of_lt
abbrev b7:=@Int.toNat_of_nonneg
abbrev b8:=@List.mem_append
abbrev b9:=@List.length_singleton
abbrev cA:=@List.not_mem_nil
abbrev cC:=@List.range_succ
abbrev cD:=@List.getElem?_eq_getElem
abbrev cE:=@List.cons_ne_nil
abbrev cF:=@List.length_take
abbrev cG:=@List.map_map
abbrev cH:=@List.mem_append_right
abbrev cI:=@List.any_cons
abbrev cJ:=@List.all_eq_true
abbrev cL:=@Nat.lt_irrefl
abbrev cM:=@List.mem_range
abbrev cN:=@List.length_drop
abbrev cQ:=@Nat.lt_of_le_of_lt
abbrev cR:=@Nat.succ.inj
abbrev cS:=@Bool.eq_iff_iff
abbrev cT:=@List.getElem?_eq_some_iff
abbrev cU:=@List.append_nil
abbrev cV:=@Int.emod_nonneg
abbrev cW:=@Int.emod_lt_of_pos
abbrev cX:=@Int.ediv_nonneg
abbrev cY:=@List.filterMap_cons
abbrev cZ:=@Int.natCast_nonneg
abbrev c5:=@List.any_eq_false
abbrev c6:=@Option.isSome_iff_exists
abbrev c7:=@List.length_replicate
abbrev c8:=@List.flatten_cons
abbrev c9:=@List.lookup_cons
abbrev dA:=@Option.map_some
abbrev dB:=@Nat.le_add_right
abbrev dC:=@List.find?_cons
abbrev dD:=@Array.length_toList
abbrev dE:=@List.replicate_succ
abbrev dF:=@List.take_of_length_le
abbrev dG:=@List.filterMap_append
noncomputable abbrev fG:=Sum Int Str
noncomputable def oh:fG->Value->Bool
 |.inl k,v=>Value.isInt k v
 |.inr x,v=>Value.isStrOf x v
noncomputable def xg(w:World):fG->Int
 |.inl k=>hashInt k
 |.inr x=>hashStr w x
theorem lQ:∀{k:fG} {v:Value},oh k v=true->(∃i t,k=Sum.inl i/\v=Value.int i t)∨(∃x t,k=Sum.inr x/\v=Value.str x t)
 |.inl i,v,h=>by
  obtain⟨t,e⟩:=Value.isInt_shape (k:=i) (v:=v) h;exact .inl ⟨i,t,rfl,e⟩
 |.inr x,v,h=>by
  obtain⟨t,e⟩:=Value.isStrOf_shape (x:=x) (v:=v) h;exact .inr ⟨x,t,rfl,e⟩
theorem N1(i:Int)(t:Tok):oh (.inl i) (.int i t)=true:=by simp[oh,Value.isInt]
theorem NQ(x:Str)(t:Tok):oh (.inr x) (.str x t)=true:=by simp[oh,Value.isStrOf]
theorem aIE(a b:Int):decide ((Sum.inl a:fG)=Sum.inl b)=(a==b):=by
 by_cases e:a=b
 ·subst e;simp
 ·have h:¬(Sum.inl a:fG)=Sum.inl b:=λq=>e (Sum.inl.inj q);rw[dU h];exact (beq_eq_false_iff_ne.mpr e).symm
theorem Yb(a b:Str):decide ((Sum.inr a:fG)=Sum.inr b)=decide (a=b):=by
 by_cases e:a=b
 ·subst e;simp
 ·have h:¬(Sum.inr a:fG)=Sum.inr b:=λq=>e (Sum.inr.inj q);rw[dU h,dU e]
theorem Yz(a:Int)(b:Str):decide ((Sum.inl a:fG)=Sum.inr b)=false:=dU (λq=>nomatch q)
theorem Rh(a:Str)(b:Int):decide ((Sum.inr a:fG)=Sum.inl b)=false:=dU (λq=>nomatch q)
noncomputable def i8(prog:Program)(w:World):PySem.KeyKind prog w fG where
 is:=oh
 hash:=xg w
 inj:=λv a b ha hb=>by
  rcases lQ ha with ⟨i,t,rfl,rfl⟩ | ⟨x,t,rfl,rfl⟩
  ·rcases lQ hb with ⟨j,u,rfl,e⟩ | ⟨y,u,rfl,e⟩
   ·injection e with e1 _;rw[e1]
   ·exact nomatch e
  ·rcases lQ hb with ⟨j,u,rfl,e⟩ | ⟨y,u,rfl,e⟩
   ·exact nomatch e
   ·injection e with e1 _;rw[e1]
 byValue:=λk v h=>by
  rcases lQ h with ⟨i,t,rfl,rfl⟩ | ⟨x,t,rfl,rfl⟩<;>rfl
 pyHash:=λhv h=>by
  rcases lQ hv with ⟨i,t,rfl,rfl⟩ | ⟨x,t,rfl,rfl⟩
  ·exact wpAny_pyHash_int h
  ·exact wpAny_pyHash_str h
 eqBool:=λhu hv h=>by
  rcases lQ hu with ⟨i,t,rfl,rfl⟩ | ⟨x,t,rfl,rfl⟩
  ·rcases lQ hv with ⟨j,u,rfl,rfl⟩ | ⟨y,u,rfl,rfl⟩
   ·rw[aIE] at h;exact wpAny_eqBool_int h
   ·rw[Yz] at h;exact SeqAt.EqAt.int_str i t y u _ _ _ _ h
  ·rcases lQ hv with ⟨j,u,rfl,rfl⟩ | ⟨y,u,rfl,rfl⟩
   ·rw[Rh] at h;exact SeqAt.EqAt.str_int x t j u _ _ _ _ h
   ·rw[Yb] at h;exact wpAny_eqBool_str h
 «strs»:=λk x t v h=>by
  rcases lQ h with ⟨i,u,rfl,e⟩ | ⟨y,u,rfl,e⟩
  ·exact nomatch e
  ·injection e with e1 _;subst e1;cases v<;>rfl
theorem auX(prog:Program)(w:World)(i:Int)(t:Tok):(i8 prog w).is (.inl i) (.int i t)=true:=N1 i t
theorem YV(prog:Program)(w:World)(x:Str)(t:Tok):(i8 prog w).is (.inr x) (.str x t)=true:=NQ x t
inductive V where
 |non | bl (b:Bool) | int (i:Int) | str (x:Str) | byt (b:Array UInt8) | flt (b:UInt64) | ref (a:Addr) | ty (n:String)
 deriving DecidableEq
def RelV:V->Value->Prop
 |.non,u=>u=Value.none
 |.bl b,u=>u=Value.bool b
 |.int i,u=>∃t,u=Value.int i t
 |.str x,u=>∃t,u=Value.str x t
 |.byt b,u=>∃t,u=Value.bytes b t
 |.flt b,u=>∃t,u=Value.float b t
 |.ref a,u=>u=Value.ref a
 |.ty n,u=>u=Value.type n
abbrev Vals:List V->List Value->Prop:=Paired RelV
theorem Vals.length{xs:List V}{us:List Value}(r:Vals xs us):xs.length=us.length:=Paired.length r
theorem Vals.get:∀{xs:List V} {us:List Value} {i:Nat} {x:V},Vals xs us->xs[i]? =some x->∃u,us[i]? =some u/\RelV x u
 |_,_,_,_,.nil,e=>by simp at e
 |_,_,0,_,.cons r _,e=>by simp at e;subst e;exact⟨(),r⟩
 |_,_,i+1,x,.cons _ t,e=>by
  obtain⟨u,h1,h2⟩:=Vals.get (i:=i) (x:=x) t (by simpa using e);exact⟨u,by simpa using h1,h2⟩
theorem Vals.set{x:V}{u:Value}(r:RelV x u):∀{xs:List V} {us:List Value} (i:Nat),Vals xs us->Vals (xs.set i x) (us.set i u)
 |_,_,_,.nil=>.nil
 |_,_,0,.cons _ t=>.cons r t
 |_,_,i+1,.cons q t=>.cons q (Vals.set r i t)
theorem Vals.append:∀{xs ys:List V} {us ws:List Value},Vals xs us->Vals ys ws->Vals (xs++ys) (us++ws)
 |_,_,_,_,.nil,s=>s
 |_,_,_,_,.cons r t,s=>.cons r (Vals.append t s)
theorem Vals.take:∀{xs:List V} {us:List Value} (n:Nat),Vals xs us->Vals (xs.take n) (us.take n)
 |_,_,0,_=>.nil
 |_,_,_+1,.nil=>.nil
 |_,_,n+1,.cons r t=>.cons r (Vals.take n t)
theorem Vals.drop:∀{xs:List V} {us:List Value} (n:Nat),Vals xs us->Vals (xs.drop n) (us.drop n)
 |_,_,0,r=>r
 |_,_,_+1,.nil=>.nil
 |_,_,n+1,.cons _ t=>Vals.drop n t
def RelO:Option V->Option Value->Prop
 |some v,some u=>RelV v u
 |none,none=>True
 |_,_=>False
def KV{κ:Type}:List (κ×V)->List (κ×Value)->Prop:=Paired λ(p:κ×V) (q:κ×Value)=>p.1=q.1/\RelV p.2 q.2
noncomputable def kV:fG->V
 |.inl i=>.int i
 |.inr x=>.str x
inductive HO where
 |lst (xs:List V)
 |tup (xs:List V)
 |dK (kvs:List (fG×V)) | dT (kvs:List (List fG×V))
 |set (S:Int->Bool) (n:Nat)
 |ins (C dx:Addr) (fs:List (Str×V))
 |own (x:Addr)
 |xd (fs:List (Str×V))
 |met (f x:Addr)
 |rng (lo hi:Int)
 |frz (o:Obj) (u:HO)
 |tbl (ps:Array Value)
 |ext (φ:Heap->Prop)
noncomputable abbrev Hp:=Addr->Option HO
noncomputable def upd(H:Hp)(a:Addr)(o:HO):Hp:=λb=>if b=a then some o else H b
theorem eF{H:Hp}{a:Addr}{o:HO}:upd H a o a=some o:=by unfold upd;rw[if_pos rfl]
theorem eW{H:Hp}{a b:Addr}{o:HO}(h:b≠a):upd H a o b=H b:=by unfold upd;rw[if_neg h]
theorem RC{H:Hp}{a b:Addr}{o u:HO}(h:H a=some o)(h':H b=some u)(d:o≠u):a≠b:=by
 intro e;subst e;rw[h] at h';exact d (bG h')
theorem gT{H:Hp}{a b:Addr}{o:HO}(h:H a=some o)(h':H b=none):a≠b:=by
 intro e;subst e;rw[h] at h';cases h'
section
variable(P:Program)(w:World)
def ObjOk(H:Hp)(h:Heap)(a:Addr):HO->Prop
 |.lst xs=>xs.length<=sizeLine/\∃(its:List Value) (n:Nat),Vals xs its/\h.get? a=some {cls:=.type "list",data:=.seq its.toArray n}
 |.tup xs=>xs.length<=sizeLine/\∃its:List Value,Vals xs its/\IsTup h a its.toArray
 |.dK kvs=>kvs.length<=sizeLine/\(a==sysModules)=false/\∃vs,KV kvs vs/\h.DictOf (i8 P w) a vs
 |.dT kvs=>kvs.length<=sizeLine/\(a==sysModules)=false/\∃xs:List (List fG×Addr×Value),
   Paired (λ(p:List fG×V) (q:List fG×Addr×Value)=>p.1=q.1/\H q.2.1=some (.tup (p.1.map kV))/\RelV p.2 q.2.2) kvs xs/\
   ∃o es ep,h.get? a=some o/\o.ExactDict/\o.data=.dict es ep/\es.toList=xs.map (entryOfKey (tupleKind (i8 P w)))/\(xs.map (·.1)).Nodup
 |.set S n=>h.SetOf (intKind P w) a S n
 |.ins C dx fs=>H dx=some (.own a)/\fs.length<=1000/\dx≠a/\h.get? a=some (PySem.W.instObj C dx)/\
   ∃mA,h.Ns1 dx mA/\(∀f,RelO (fs.lookup f) (mA f))/\PySem.Within mA (fs.map (·.1))
 |.own _=>∃o,h.get? a=some o
 |.xd fs=>∃mA,h.Ns1 a mA/\∀f,RelO (fs.lookup f) (mA f)
 |.rng lo hi=>∃t u v,h.get? a=some {cls:=.type "range",data:=.fields #[.int lo t,.int hi u,.int 1 v]}
 |.frz o u=>h.get? a=some o/\ObjOk H h a u
 |.tbl ps=>h.get? a=some {cls:=.none,data:=.fields ps}
 |.met f x=>h.get? a=some (PySem.W.methodObj (.ref f) (.ref x))
 |.ext φ=>φ h/\(∃o,h.get? a=some o)/\∀h1 h2:Heap,φ h1->(∀o,h1.get? a=some o->h2.get? a=some o)->φ h2
def HOk(H:Hp)(h:Heap):Prop:=∀a o,H a=some o->ObjOk P w H h a o
end
section
variable{P:Program}{w:World}{H H':Hp}{h h':Heap}{a:Addr}{o:HO}
theorem ObjOk.lt(x:ObjOk P w H h a o):a<h.objs.size:=by
 cases o with
 |lst xs=>obtain⟨_,_,_,_,e⟩:=x;exact aZ e
 |tup xs=>obtain⟨_,_,_,p⟩:=x;exact p.lt
 |dK kvs=>obtain⟨_,_,_,_,o,_,_,e,_⟩:=x;exact aZ e
 |dT kvs=>obtain⟨_,_,_,_,o,_,_,e,_⟩:=x;exact aZ e
 |set S n=>obtain⟨o,_,_,_,e,_⟩:=x;exact aZ e
 |ins C dx fs=>obtain⟨_,_,_,e,_⟩:=x;exact aZ e
 |own y=>obtain⟨_,e⟩:=x;exact aZ e
 |xd fs=>obtain⟨_,⟨_,_,_,e,_⟩,_⟩:=x;exact aZ e
 |rng lo hi=>obtain⟨_,_,_,e⟩:=x;exact aZ e
 |frz ob u=>obtain⟨e,_⟩:=x;exact aZ e
 |tbl ps=>exact aZ (show h.get? a=some _ from x)
 |met f y=>exact aZ (show h.get? a=some _ from x)
 |ext φ=>obtain⟨_,⟨_,e⟩,_⟩:=x;exact aZ e
theorem Paired.mapP{α β:Type}{F G:α->β->Prop}:∀{l₁:List α} {l₂:List β},Paired F l₁ l₂->(∀a b,F a b->G a b)->Paired G l₁ l₂
 |_,_,.nil,_=>.nil
 |_,_,.cons r t,f=>.cons (f _ _ r) (Paired.mapP t f)
theorem Paired.imp'{α β:Type}{F G:α->β->Prop}(f:∀a b,F a b->G a b){l₁:List α}{l₂:List β}(r:Paired F l₁ l₂):Paired G l₁ l₂:=Paired.mapP r f
theorem ObjOk.stay(x:ObjOk P w H h a o)(k:∀b u,(b=a∨H b=some (.own a))->h.get? b=some u->h'.get? b=some u)
  (ho:∀b,H b=some (.own a)->H' b=some (.own a)) (ht:∀b xs,H b=some (.tup xs)->H' b=some (.tup xs)):ObjOk P w H' h' a o:=by
 induction o with
 |lst xs=>obtain⟨z,its,n,r,e⟩:=x;exact⟨z,its,n,r,k _ _ (.inl rfl) e⟩
 |tup xs=>obtain⟨z,its,r,ob,e,c⟩:=x;exact⟨z,its,r,ob,k _ _ (.inl rfl) e,c⟩
 |dK kvs=>obtain⟨z,y,vs,r,ob,es,ep,e,c⟩:=x;exact⟨z,y,vs,r,ob,es,ep,k _ _ (.inl rfl) e,c⟩
 |dT kvs=>
  obtain⟨z,y,xs,r,ob,es,ep,e,c⟩:=x;exact⟨z,y,xs,Paired.mapP r λp q z=>⟨z.1,ht _ _ z.2.1,z.2.2⟩,ob,es,ep,k _ _ (.inl rfl) e,c⟩
 |set S n=>obtain⟨ob,es,ep,t,e,c⟩:=x;exact⟨ob,es,ep,t,k _ _ (.inl rfl) e,c⟩
 |ins C dx fs=>
  obtain⟨d,z,ne,e,mA,⟨od,es,ep,e2,c⟩,r⟩:=x;exact⟨ho _ d,z,ne,k _ _ (.inl rfl) e,mA,⟨od,es,ep,k _ _ (.inr d) e2,c⟩,r⟩
 |own y=>obtain⟨ob,e⟩:=x;exact⟨ob,k _ _ (.inl rfl) e⟩
 |xd fs=>obtain⟨mA,⟨od,es,ep,e,c⟩,r⟩:=x;exact⟨mA,⟨od,es,ep,k _ _ (.inl rfl) e,c⟩,r⟩
 |rng lo hi=>obtain⟨t,u,v,e⟩:=x;exact⟨t,u,v,k _ _ (.inl rfl) e⟩
 |frz ob u ih=>obtain⟨e,q⟩:=x;exact⟨k _ _ (.inl rfl) e,ih q⟩
 |tbl ps=>
  have e:h.get? a=some {cls:=.none,data:=.fields ps}:=x;show h'.get? a=some {cls:=.none,data:=.fields ps};exact k a _ (.inl rfl) e
 |met f y=>
  have e:h.get? a=some (PySem.W.methodObj (.ref f) (.ref y)):=x;show h'.get? a=some (PySem.W.methodObj (.ref f) (.ref y));exact k a _ (.inl rfl) e
 |ext φ=>obtain⟨p,⟨o,e⟩,st⟩:=x;exact⟨st _ _ p λo q=>k _ _ (.inl rfl) q,⟨o,k _ _ (.inl rfl) e⟩,st⟩
theorem HOk.lt(x:HOk P w H h)(e:H a=some o):a<h.objs.size:=(x a o e).lt
theorem HOk.fresh(x:HOk P w H h)(e:h.objs.size<=a):H a=none:=by
 cases q:H a with
 |none=>rfl
 |some u=>exact absurd (bC (x.lt q) e) (cL _)
theorem HOk.kept(x:HOk P w H h)(k:∀b u,h.get? b=some u->h'.get? b=some u):HOk P w H h':=λa o e=>
 (x a o e).stay (λb u _ q=>k b u q) (λ_ q=>q) λ_ _ q=>q
theorem HOk.laid(x:HOk P w H h)(k:∀b u,h.get? b=some u->h'.get? b=some u)(hp:h.objs.size<=a)(new:ObjOk P w (upd H a o) h' a o):HOk P w (upd H a o) h':=λb u e=>by
 have hn:=x.fresh hp;by_cases hb:b=a
 ·subst hb;rw[eF] at e;cases e;exact new
 ·rw[eW hb] at e;exact (x b u e).stay (λc v _ q=>k c v q) (λc q=>by rw[eW (gT q hn)];exact q) λc xs q=>by rw[eW (gT q hn)];exact q
end
def Rd(H:Hp)(a:Addr)(u:HO):Prop:=H a=some u∨∃o,H a=some (.frz o u)
theorem Rd.ok{P:Program}{w:World}{H:Hp}{h:Heap}{a:Addr}{u:HO}(r:Rd H a u)(x:HOk P w H h):ObjOk P w H h a u:=by
 rcases r with r | ⟨o,r⟩
 ·exact x a u r
 ·obtain⟨_,q⟩:=x a _ r;exact q
def pE:Option HO->Prop
 |some (.lst _)=>True
 |some (.dK _)=>True
 |some (.dT _)=>True
 |some (.set _ _)=>True
 |some (.ins _ _ _)=>True
 |some (.ext _)=>True
 |_=>False
section
variable{P:Program}{w:World}{H:Hp}{h h':Heap}{x e:Addr}{o':HO}
theorem HOk.write(ok:HOk P w H h)(mu:pE (H x))(he:e=x∨H e=some (.own x))(k:∀b u,b≠e->h.get? b=some u->h'.get? b=some u)(heo:∃u,h'.get? e=some u)
  (new:ObjOk P w (upd H x o') h' x o'):HOk P w (upd H x o') h':=λb u q=>by
 have nown:∀c y,H c=some (.own y)->c≠x:=λc y r z=>by subst z;rw[r] at mu;exact mu
 have ntup:∀c xs,H c=some (.tup xs)->c≠x:=λc xs r z=>by subst z;rw[r] at mu;exact mu
 by_cases hb:b=x
 ·subst hb;rw[eF] at q;cases q;exact new
 ·rw[eW hb] at q;by_cases hbe:b=e
  ·have q':H b=some (.own x):=by
    rcases he with z | z
    ·exact absurd (hbe.trans z) hb
    ·rw[hbe];exact z
   rw[q] at q';cases q';obtain⟨v,hv⟩:=heo;exact⟨v,by rw[hbe];exact hv⟩
  ·refine (ok b u q).stay (λc v hc r=>k c v ?_ r) (λc r=>by rw[eW (nown c b r)];exact r) λc xs r=>by rw[eW (ntup c xs r)];exact r
   rcases hc with rfl | hc
   ·exact hbe
   ·rintro rfl;rcases he with z | z
    ·exact nown c b hc z
    ·rw[hc] at z;cases z;exact hb rfl
end
structure Un(fs ex:List Addr)(H H':Hp)(h h':Heap):Prop where
 keep:∀b o,h.get? b=some o->H b=none->b∉fs->b∉ex->h'.get? b=some o
 slot:∀b o,h.get? b=some o->H b=none->b∈fs->b∉ex->∃sl,h'.get? b=some {o with slots:=sl}
 free:∀b o,h.get? b=some o->H b=none->b∉ex->H' b=none
 there:∀b o,h.get? b=some o->b∉ex->∃o',h'.get? b=some o'
 tups:∀b xs,H b=some (.tup xs)->H' b=some (.tup xs)
 frzs:∀b o u,H b=some (.frz o u)->H' b=some (.frz o u)
 tbls:∀b ps,H b=some (.tbl ps)->∃more,H' b=some (.tbl (ps++more))
section
variable{fs fs' ex ex':List Addr}{H H1 H2:Hp}{h h1 h2 h':Heap}{a x e:Addr}{o:HO}
theorem Un.any(u:Un fs ex H H1 h h1){b:Addr}{ob:Obj}(q:h.get? b=some ob)(n:H b=none)(hx:b∉ex):∃sl,h1.get? b=some {ob with slots:=sl}:=by
 by_cases hb:b∈fs
 ·exact u.slot b ob q n hb hx
 ·exact⟨ob.slots,u.keep b ob q n hb hx⟩
theorem Un.kept(k:∀b u,h.get? b=some u->h'.get? b=some u):Un fs ex H H h h':=
 ⟨λb ob q _ _ _=>k b ob q,λb ob q _ _ _=>⟨ob.slots,k b ob q⟩,λ_ _ _ n _=>n,λb ob q _=>⟨ob,k b ob q⟩,λ_ _ q=>q,λ_ _ _ q=>q,λ_ ps q=>⟨#[],by rw[q];simp⟩⟩
theorem Un.refl:Un fs ex H H h h:=Un.kept λ_ _ q=>q
theorem Un.laid(k:∀b u,h.get? b=some u->h'.get? b=some u)(hp:h.objs.size<=a)(hn:H a=none):Un fs ex H (upd H a o) h h' where
 keep:=λb u q _ _ _=>k b u q
 slot:=λb u q _ _ _=>⟨u.slots,k b u q⟩
 free:=λb u q n _=>by rw[eW (bE (bC (aZ q) hp))];exact n
 there:=λb u q _=>⟨u,k b u q⟩
 tups:=λb xs q=>by rw[eW (gT q hn)];exact q
 frzs:=λb u xs q=>by rw[eW (gT q hn)];exact q
 tbls:=λb ps q=>⟨#[],by rw[eW (gT q hn),q];simp⟩
theorem Un.write(mu:pE (H x))(he:e=x∨H e=some (.own x))(k:∀b u,b≠e->h.get? b=some u->h'.get? b=some u)(heo:∃u,h'.get? e=some u):Un fs ex H (upd H x o) h h':=by
 have hx:∀b,H b=none->b≠x:=λb n z=>by subst z;rw[n] at mu;exact mu
 have hb:∀b,H b=none->b≠e:=λb n z=>by
  subst z;rcases he with r | r
  ·exact hx b n r
  ·rw[n] at r;cases r
 have hm:∀b u,H b=some u->¬pE (some u)->b≠x:=λb u q nm z=>by subst z;rw[q] at mu;exact nm mu
 refine⟨λb u q n _ _=>k b u (hb b n) q,λb u q n _ _=>⟨u.slots,k b u (hb b n) q⟩,λb u q n _=>by rw[eW (hx b n)];exact n,λb u q _=>?_,
  λb xs q=>by rw[eW (hm b _ q λz=>z)];exact q,λb u xs q=>by rw[eW (hm b _ q λz=>z)];exact q,λb ps q=>⟨#[],by rw[eW (hm b _ q λz=>z),q];simp⟩⟩
 by_cases hbe:b=e
 ·subst hbe;exact heo
 ·exact⟨u,k b u hbe q⟩
end
noncomputable def jU(h:Heap)(H:Hp):List Addr:=(List.range h.objs.size).filter λa=>(H a).isSome
noncomputable def lW(h:Heap)(H:Hp):Heap:=PySem.W.hideAll h (jU h H)
theorem az7(h:Heap)(H:Hp):(lW h H).objs.size=h.objs.size:=PySem.W.hideAll_size _ _
theorem SS{h:Heap}{H:Hp}{b:Addr}{o:Obj}(e:h.get? b=some o)(n:H b=none):(lW h H).get? b=some o:=
 PySem.W.hideAll_get _ e λhm=>by
  have q:(H b).isSome=true:=(List.mem_filter.mp hm).2;rw[n] at q;simp at q
theorem aFR{h:Heap}{H:Hp}{b:Addr}{o:Obj}(e:(lW h H).get? b=some o):h.get? b=some o/\H b=none:=by
 have e':h.get? b=some o:=PySem.W.of_hideAll (jU h H) e;refine⟨e',?_⟩;cases q:H b with
 |none=>rfl
 |some x=>
  have hm:b∈jU h H:=List.mem_filter.mpr ⟨cM.mpr (aZ e'),by simp[q]⟩;have z:(lW h H).get? b=none:=PySem.W.hideAll_none (jU h H) hm;rw[z] at e;cases e
structure Mod(K:FG)(mg:Str->Option Value)(base:Heap):Prop where
 kin:K.In base
 glob:base.Ns mainGlobals mg
 blt:∃mb,base.Ns builtinsNs mb/\∀x:Str,x≠"__name__"->mb x=bootBuiltins x
 nolimit:base.NoLimit
structure Cx where
 prog:Program
 w:World
 K:FG
 mg:Str->Option Value
 base:Heap
 A:Around
 N:List Str
 s₀:Shared
 H₀:Hp
 env:Env
 outer:List Env
 stack:List Env
 ex:List Addr
 fn:Str->Bool
 calm:Bool
 pn:List (Addr×Obj)
 xe:Value->Shared->Prop
noncomputable def jW(l:List Env):List Addr:=l.filterMap (·.frame)
noncomputable abbrev Cx.fs(X:Cx):List Addr:=jW X.outer
def tV(sc:Scope)(x:Str):Prop:=sc.names.lookup x=some .local∨sc.names.lookup x=some .cell∨sc.names.lookup x=some .free
def oA(sc:Scope)(x:Str):Prop:=sc.names.lookup x=some .local∨sc.names.lookup x=some .cell
def Aj(env:Env)(h:Heap)(m:Str->Option Value)(x:Str)(u:Value):Prop:=
 (env.kindOf x=some .local/\m x=some u)∨((env.kindOf x=some .cell∨env.kindOf x=some .free)/\∃c,env.cells.lookup x=some c/\h.IsCell c (some u))
structure Cx.Ok(X:Cx):Prop where
 mod:Mod X.K X.mg X.base
 kind:X.env.scope.kind=.function
 glob:X.env.globals=mainGlobals
 blt:X.env.builtins=builtinsNs
 above:X.s₀.heap.objs.size<=X.env.locals
 inj:∀x y c,X.env.cells.lookup x=some c->X.env.cells.lookup y=some c->x=y
 has:∀x,(X.env.kindOf x=some .cell∨X.env.kindOf x=some .free)->∃c,X.env.cells.lookup x=some c
 cab:∀x c,X.fn x=true->X.env.cells.lookup x=some c->X.s₀.heap.objs.size<=c
 hd:X.calm=true->X.A.handled=none
 frames:X.A.frames=some X.stack
 stk:X.stack=X.outer∨(X.stack=X.env::X.outer/\X.env.frame=some X.env.locals)
 exf:∀b∈X.ex,b≠X.env.locals/\∀x c,X.env.cells.lookup x=some c->c≠b
 bs:∀b o,X.base.get? b=some o->X.s₀.heap.get? b=some o/\X.H₀ b=none
 bsz:X.base.objs.size<=X.s₀.heap.objs.size
 noex:∀b o,X.base.get? b=some o->b∉X.ex
 exfs:∀b∈X.ex,b∉X.fs
 funs:X.s₀.heap.FunFrames X.base X.outer
 frf:∀b∈X.fs,X.H₀ b=none
structure Inv(X:Cx)(pins:List (Addr×Obj))(σ:List (Option V))(H:Hp)(s:Shared):Prop where
 ok:X.Ok
 os:s.os=X.s₀.os
 bare:AllBare s.gens
 base:Un X.fs X.ex X.H₀ H X.s₀.heap s.heap
 loc:∃m,s.heap.Ns X.env.locals m/\∀(i:Nat) (x:Str) (v:V),X.N[i]? =some x->σ[i]? =some (some v)->tV X.env.scope x->∃u,RelV v u/\Aj X.env s.heap m x u
 cell:∀x c,X.env.cells.lookup x=some c->∃v,s.heap.IsCell c v
 free:H X.env.locals=none
 freeC:∀x c,X.env.cells.lookup x=some c->H c=none
 pin:∀p∈X.pn++pins,s.heap.get? p.1=some p.2/\H p.1=none/\p.1≠X.env.locals/\p.1∉X.fs/\∀v,p.2.data≠ .cell v
 hok:HOk X.prog X.w H s.heap
 len:σ.length=X.N.length
section
variable{X:Cx}{pins:List (Addr×Obj)}{σ:List (Option V)}{H H':Hp}{s:Shared}{h':Heap}
theorem Cx.Ok.nofr(ok:X.Ok){b:Addr}{o:Obj}(e:X.base.get? b=some o):b∉X.fs:=λhb=>by
 have:=(ok.funs.mem hb).1;rw[e] at this;cases this
theorem Inv.bs(I:Inv X pins σ H s):∀b o,X.base.get? b=some o->s.heap.get? b=some o/\H b=none:=λb o e=>
 ⟨I.base.keep b o (I.ok.bs b o e).1 (I.ok.bs b o e).2 (I.ok.nofr e) (I.ok.noex b o e),I.base.free b o (I.ok.bs b o e).1 (I.ok.bs b o e).2 (I.ok.noex b o e)⟩
theorem Inv.bk(I:Inv X pins σ H s):∀b o,X.base.get? b=some o->s.heap.get? b=some o:=λb o e=>(I.bs b o e).1
theorem Inv.mod(I:Inv X pins σ H s):Mod X.K X.mg X.base:=I.ok.mod
theorem Inv.kIn(I:Inv X pins σ H s):X.K.In s.heap:=I.ok.mod.kin.keeps I.bk
theorem Inv.nolimit(I:Inv X pins σ H s):s.heap.NoLimit:=I.ok.mod.nolimit.keeps I.bk
theorem Inv.lt(I:Inv X pins σ H s):X.env.locals<s.heap.objs.size:=let ⟨_,hn,_⟩:=I.loc;hn.lt
theorem Inv.sz(I:Inv X pins σ H s):X.s₀.heap.objs.size<=s.heap.objs.size:=bV I.ok.above (Nat.le_of_lt I.lt)
theorem Inv.nofs(I:Inv X pins σ H s){a:Addr}(h:s.heap.objs.size<=a):a∉X.fs:=λhb=>by
 obtain⟨_,o,ho,_⟩:=I.ok.funs.mem hb;exact absurd (bC (aZ ho) (bV I.sz h)) (cL _)
theorem Inv.cne(I:Inv X pins σ H s):∀x c,X.env.cells.lookup x=some c->c≠X.env.locals:=λx c e z=>by
 obtain⟨v,o,ho,hd⟩:=I.cell x c e;obtain⟨m,⟨o',es,ep,ho',hd',_⟩,_⟩:=I.loc;rw[z,ho'] at ho;cases ho;rw[hd'] at hd;cases hd
theorem Inv.funs(I:Inv X pins σ H s):s.heap.FunFrames X.base X.outer:=by
 have all:∀(l:List Env),(∀b∈jW l,b∈X.fs)->X.s₀.heap.FunFrames X.base l->s.heap.FunFrames X.base l:=by
  intro l;induction l with
  |nil=>intro _ _;trivial
  |cons env r ih=>
   intro hs hl;obtain⟨hk,⟨L,o,hf,hn,ho,hd⟩,hr⟩:=hl;have hL:L∈X.fs:=hs L (by unfold jW;rw[cY,hf];exact bW);obtain⟨sl,e⟩:=I.base.slot L o ho (I.ok.frf L hL) hL λz=>I.ok.exfs L z hL;exact⟨hk,⟨L,_,hf,hn,e,hd⟩,ih (λb hb=>hs b (by unfold jW;rw[cY,hf];exact bP _ hb)) hr⟩
 exact all X.outer (λ_ hb=>hb) I.ok.funs
theorem Inv.stack(I:Inv X pins σ H s):s.heap.FunFrames X.base X.stack:=by
 rcases I.ok.stk with e | ⟨e,hf⟩
 ·rw[e];exact I.funs
 ·rw[e];obtain⟨m,hn,_⟩:=I.loc;refine .cons (by rw[I.ok.kind];decide) hf hn ?_ I.funs;exact Heap.get?_none_of_le (bV I.ok.bsz I.ok.above)
theorem Inv.stkSub(I:Inv X pins σ H s):∀b∈jW X.stack,b∈X.env.locals::X.fs:=λb hb=>by
 rcases I.ok.stk with e | ⟨e,hf⟩
 ·rw[e] at hb;exact bP _ hb
 ·rw[e] at hb;unfold jW at hb;rw[cY,hf] at hb;exact hb
theorem Inv.stkFree(I:Inv X pins σ H s):∀b∈jW X.stack,H b=none:=λb hb=>by
 rcases a9.mp (I.stkSub b hb) with e | hb
 ·rw[e];exact I.free
 ·obtain⟨_,o,ho,_⟩:=I.ok.funs.mem hb;exact I.base.free b o ho (I.ok.frf b hb) λz=>I.ok.exfs b z hb
theorem Inv.step{g':Array GenState}{t':Nat}{d':Drawn}{ch:List Addr}(I:Inv X pins σ H s)
  (hch:∀b∈ch,(b∈X.ex∨X.s₀.heap.objs.size<=b)/\b≠X.env.locals/\(∀x c,X.env.cells.lookup x=some c->c≠b)/\∀p∈X.pn++pins,p.1≠b)
  (keep:∀b o,b≠X.env.locals->b∉X.fs->b∉ch->s.heap.get? b=some o->H b=none->h'.get? b=some o)
  (slot:∀b o,b≠X.env.locals->b∈X.fs->b∉ch->s.heap.get? b=some o->H b=none->∃sl,h'.get? b=some {o with slots:=sl}) (free:∀b o,b∉ch->s.heap.get? b=some o->H b=none->H' b=none)
  (there:∀b o,b∉ch->s.heap.get? b=some o->∃o',h'.get? b=some o')
  (tups:∀b xs,H b=some (.tup xs)->H' b=some (.tup xs)) (frzs:∀b o u,H b=some (.frz o u)->H' b=some (.frz o u)) (tbls:∀b ps,H b=some (.tbl ps)->∃more,H' b=some (.tbl (ps++more)))
  (ns:∀m,s.heap.Ns X.env.locals m->h'.Ns X.env.locals m) (hok:HOk X.prog X.w H' h') (hg:AllBare g'):
  Inv X pins σ H' {s with heap:=h',gens:=g',drawn:=d',toks:=t'}:=by
 have neL:∀b o,X.s₀.heap.get? b=some o->b≠X.env.locals:=λb o e=>bE (bC (aZ e) I.ok.above);have neC:∀b o,X.s₀.heap.get? b=some o->b∉X.ex->b∉ch:=λb o e hx hb=>by
  rcases (hch b hb).1 with z | z
  ·exact hx z
  ·exact absurd (bC (aZ e) z) (cL _)
 have cellK:∀x c,X.env.cells.lookup x=some c->∀v,s.heap.IsCell c v->h'.IsCell c v:=λx c e v ⟨o,ho,hd⟩=>by
  have nch:c∉ch:=λz=>(hch c z).2.2.1 x c e rfl;by_cases hc:c∈X.fs
  ·obtain⟨sl,q⟩:=slot c o (I.cne x c e) hc nch ho (I.freeC x c e);exact⟨_,q,hd⟩
  ·exact⟨o,keep c o (I.cne x c e) hc nch ho (I.freeC x c e),hd⟩
 refine⟨I.ok,I.os,hg,⟨λb o e n hb hx=>?_,λb o e n hb hx=>?_,λb o e n hx=>?_,λb o e hx=>?_,λb xs e=>tups b xs (I.base.tups b xs e),λb o xs e=>frzs b o xs (I.base.frzs b o xs e),λb ps e=>?_⟩,?_,λx c e=>?_,?_,λx c e=>?_,λp hp=>?_,hok,I.len⟩
 ·exact keep b o (neL b o e) hb (neC b o e hx) (I.base.keep b o e n hb hx) (I.base.free b o e n hx)
 ·obtain⟨sl,e1⟩:=I.base.slot b o e n hb hx;obtain⟨sl',e2⟩:=slot b _ (neL b o e) hb (neC b o e hx) e1 (I.base.free b o e n hx);exact⟨sl',e2⟩
 ·obtain⟨o',e1⟩:=I.base.there b o e hx;exact free b o' (neC b o e hx) e1 (I.base.free b o e n hx)
 ·obtain⟨o',e1⟩:=I.base.there b o e hx;exact there b o' (neC b o e hx) e1
 ·obtain⟨m1,e1⟩:=I.base.tbls b ps e;obtain⟨m2,e2⟩:=tbls b _ e1;exact⟨m1++m2,by rw[e2,Array.append_assoc]⟩
 ·obtain⟨m,hn,hl⟩:=I.loc;refine⟨m,ns m hn,λi x v e1 e2 e3=>?_⟩;obtain⟨u,r,l⟩:=hl i x v e1 e2 e3;refine⟨u,r,?_⟩;rcases l with l | ⟨k,c,e,z⟩
  ·exact .inl l
  ·exact .inr ⟨k,c,e,cellK x c e _ z⟩
 ·obtain⟨v,z⟩:=I.cell x c e;exact⟨v,cellK x c e v z⟩
 ·obtain⟨m,⟨o,_,_,ho,_⟩,_⟩:=I.loc;exact free _ o (λz=>(hch _ z).2.1 rfl) ho I.free
 ·obtain⟨v,o,ho,hd⟩:=I.cell x c e;exact free c o (λz=>(hch c z).2.2.1 x c e rfl) ho (I.freeC x c e)
 ·obtain⟨e,n,ne,nf,d⟩:=I.pin p hp;have nch:p.1∉ch:=λz=>(hch p.1 z).2.2.2 p hp rfl;exact⟨keep p.1 p.2 ne nf nch e n,free p.1 p.2 nch e n,ne,nf,d⟩
theorem Inv.un{t':Nat}(I:Inv X pins σ H s)(u:Un X.fs [] H H' s.heap h')(hok:HOk X.prog X.w H' h'):Inv X pins σ H' {s with heap:=h',toks:=t'}:=by
 obtain⟨m,⟨o,es,ep,ho,r⟩,_⟩:=id I.loc;obtain⟨sl,hL⟩:=u.any ho I.free (by simp);exact I.step (g':=s.gens) (d':=s.drawn) (ch:=[]) (λ_ z=>nomatch z) (λb o _ hb _ e n=>u.keep b o e n hb (by simp)) (λb o _ hb _ e n=>u.slot b o e n hb (by simp)) (λb o _ e n=>u.free b o e n (by simp)) (λb o _ e=>u.there b o e (by simp)) u.tups u.frzs u.tbls (λm' hm=>by
  obtain⟨o',es',ep',ho',r'⟩:=hm;rw[ho] at ho';cases ho';exact⟨_,es',ep',hL,r'⟩) hok I.bare
theorem Inv.call{g':Array GenState}{t':Nat}{d':Drawn}{ch:List Addr}(I:Inv X pins σ H s)(u:Un (jW X.stack) ch H H' s.heap h')(hok:HOk X.prog X.w H' h')(hg:AllBare g')
  (hch:∀b∈ch,(b∈X.ex∨X.s₀.heap.objs.size<=b)/\b≠X.env.locals/\(∀x c,X.env.cells.lookup x=some c->c≠b)/\∀p∈X.pn++pins,p.1≠b):
  Inv X pins σ H' {s with heap:=h',gens:=g',drawn:=d',toks:=t'}:=by
 obtain⟨m,⟨o,es,ep,ho,r⟩,_⟩:=id I.loc;obtain⟨sl,hL⟩:=u.any ho I.free λz=>(hch _ z).2.1 rfl;exact I.step (ch:=ch) hch (λb o hL hb hc e n=>u.keep b o e n (λz=>(a9.mp (I.stkSub b z)).elim hL hb) hc) (λb o _ _ hc e n=>u.any e n hc) (λb o hc e n=>u.free b o e n hc) (λb o hc e=>u.there b o e hc) u.tups u.frzs u.tbls (λm' hm=>by
  obtain⟨o',es',ep',ho',r'⟩:=hm;rw[ho] at ho';cases ho';exact⟨_,es',ep',hL,r'⟩) hok hg
theorem Inv.turned{t':Nat}{it:Addr}(I:Inv X pins σ H s)(k:∀b o,b≠it->s.heap.get? b=some o->h'.get? b=some o)(hn:H it=none)(hL:it≠X.env.locals)
  (h1:it∈X.ex∨X.s₀.heap.objs.size<=it) (h2:∀x c,X.env.cells.lookup x=some c->c≠it) (h3:∀p∈X.pn++pins,p.1≠it):Inv X pins σ H {s with heap:=h',toks:=t'}:=by
 have nit:∀b u,H b=some u->b≠it:=λb u e z=>by rw[z,hn] at e;cases e
 refine I.step (g':=s.gens) (d':=s.drawn) (ch:=[it]) (λb hb=>?_) (λb o _ _ hc e _=>k b o (λz=>hc (by simp[z])) e) (λb o _ _ hc e _=>⟨o.slots,k b o (λz=>hc (by simp[z])) e⟩) (λ_ _ _ _ n=>n)
  (λb o hc e=>⟨o,k b o (λz=>hc (by simp[z])) e⟩) (λ_ _ e=>e) (λ_ _ _ e=>e) (λb ps e=>⟨#[],by rw[e];simp⟩) (λm hm=>?_) (λb u e=>?_) I.bare
 ·have e:b=it:=by simpa using hb
  subst e;exact⟨h1,hL,h2,h3⟩
 ·obtain⟨o,es,ep,ho,r⟩:=hm;exact⟨o,es,ep,k _ o (Ne.symm hL) ho,r⟩
 ·refine (I.hok b u e).stay (λc v hc q=>k c v ?_ q) (λ_ q=>q) λ_ _ q=>q;rcases hc with z | z
  ·rw[z];exact nit b u e
  ·exact nit c _ z
theorem Inv.tok(I:Inv X pins σ H s)(t:Nat):Inv X pins σ H {s with toks:=t}:=I.un (h':=s.heap) (t':=t) Un.refl I.hok
theorem Inv.kept{t':Nat}(I:Inv X pins σ H s)(k:∀b u,s.heap.get? b=some u->h'.get? b=some u):Inv X pins σ H {s with heap:=h',toks:=t'}:=I.un (Un.kept k) (I.hok.kept k)
theorem Inv.laid{a:Addr}{o:HO}{t':Nat}(I:Inv X pins σ H s)(k:∀b u,s.heap.get? b=some u->h'.get? b=some u)(hp:s.heap.objs.size<=a)(new:ObjOk X.prog X.w (upd H a o) h' a o):
  Inv X pins σ (upd H a o) {s with heap:=h',toks:=t'}:=I.un (Un.laid k hp (I.hok.fresh hp)) (I.hok.laid k hp new)
theorem Inv.write{x e:Addr}{o:HO}{t':Nat}(I:Inv X pins σ H s)(mu:pE (H x))(he:e=x∨H e=some (.own x))(k:∀b u,b≠e->s.heap.get? b=some u->h'.get? b=some u)(heo:∃u,h'.get? e=some u)
  (new:ObjOk X.prog X.w (upd H x o) h' x o):Inv X pins σ (upd H x o) {s with heap:=h',toks:=t'}:=I.un (Un.write mu he k heo) (I.hok.write mu he k heo new)
theorem Inv.pins_of{pins':List (Addr×Obj)}(I:Inv X pins σ H s)(h:∀p∈pins',s.heap.get? p.1=some p.2/\H p.1=none/\p.1≠X.env.locals/\p.1∉X.fs/\∀v,p.2.data≠ .cell v):Inv X pins' σ H s:=
 ⟨I.ok,I.os,I.bare,I.base,I.loc,I.cell,I.free,I.freeC,λp hp=>(b8.mp hp).elim (λz=>I.pin p (List.mem_append_left _ z)) (h p),I.hok,I.len⟩
theorem FF{N:List Str}(hN:N.Nodup){i j:Nat}{x:Str}(a:N[i]? =some x)(b:N[j]? =some x):i=j:=by
 obtain⟨h1,e1⟩:=cT.mp a;obtain⟨h2,e2⟩:=cT.mp b;exact (List.getElem_inj hN).mp (e1.trans e2.symm)
theorem tO{M:Model}{A:Around}{E:Value->Shared->Prop}{i:Nat}{x:Str}{v:V}{u:Value}{Q:Unit->Shared->Prop}(I:Inv X pins σ H s)(hN:X.N.Nodup)(hi:X.N[i]? =some x)(hx:oA X.env.scope x)(r:RelV v u)
  (h:∀s',Inv X pins (σ.set i (some v)) H s'->(∃a,Heap.SameBut a s.heap s'.heap/\(a=X.env.locals∨X.env.cells.lookup x=some a))->Q () s') (hf:X.fn x=true∨X.env.scope.names.lookup x=some .local:=by first | exact .inl rfl | exact .inr rfl | assumption):wpAny M A (storeName X.env x u) Q E s:=by
 obtain⟨m,hn,hl⟩:=id I.loc;have hcls:(X.env.scope.kind== .class||(X.env.scope.kind== .module&&X.env.locals !=X.env.globals))=false:=by rw[I.ok.kind];rfl
 have hiσ:i<σ.length:=by rw[I.len];exact (cT.mp hi).1
 have cne:=I.cne;have tracked:∀{a:Addr} {h':Heap},(∃o,s.heap.get? a=some o/\H a=none)->Heap.SameBut a s.heap h'->HOk X.prog X.w H h':=λ{a h'} ha hs b ob e=>by
  obtain⟨_,_,hfree⟩:=ha;refine (I.hok b ob e).stay (λc w' hc q=>(hs.2 c ?_).trans q) (λ_ q=>q) λ_ _ q=>q;rintro rfl;rcases hc with rfl | hc
  ·rw[hfree] at e;cases e
  ·rw[hfree] at hc;cases hc
 rcases hx with hk | hk
 ·refine wpAny_storeName_local hk hn (λh' hn' hs=>?_) hcls;obtain⟨oL,_,_,hoL,_⟩:=id hn;refine h _ ⟨I.ok,I.os,I.bare,⟨λb o e n hb hx=>?_,λb o e n hb hx=>?_,I.base.free,λb o e hx=>?_,I.base.tups,I.base.frzs,I.base.tbls⟩,⟨_,hn',λj y v' e1 e2 e3=>?_⟩,λy c e=>?_,I.free,I.freeC,λp hp=>?_,tracked ⟨oL,hoL,I.free⟩ hs,by simpa using I.len⟩ ⟨_,hs,.inl rfl⟩
  ·exact (hs.2 b (bE (bC (aZ e) I.ok.above))).trans (I.base.keep b o e n hb hx)
  ·obtain⟨sl,e1⟩:=I.base.slot b o e n hb hx;exact⟨sl,(hs.2 b (bE (bC (aZ e) I.ok.above))).trans e1⟩
  ·obtain⟨o',e1⟩:=I.base.there b o e hx;exact⟨o',(hs.2 b (bE (bC (aZ e) I.ok.above))).trans e1⟩
  ·by_cases hj:j=i
   ·subst hj;rw[hi] at e1;cases e1;rw[List.getElem?_set_self hiσ] at e2;cases e2;exact⟨u,r,.inl ⟨hk,by simp⟩⟩
   ·rw[List.getElem?_set_ne (Ne.symm hj)] at e2;obtain⟨u',r',q⟩:=hl j y v' e1 e2 e3;refine⟨u',r',?_⟩;rcases q with ⟨k,e⟩ | ⟨k,c,e,z⟩
    ·refine .inl ⟨k,?_⟩;have:y≠x:=λe=>hj (FF hN e1 (e▸hi));simp[this,e]
    ·exact .inr ⟨k,c,e,z.sameBut hs (cne y c e)⟩
  ·obtain⟨w',z⟩:=I.cell y c e;exact⟨w',z.sameBut hs (cne y c e)⟩
  ·obtain⟨e,n,ne,nf,d⟩:=I.pin p hp;exact⟨(hs.2 p.1 ne).trans e,n,ne,nf,d⟩
 ·have hfn:X.fn x=true:=by
   rcases hf with z | z
   ·exact z
   ·rw[z] at hk;cases hk
  obtain⟨c,hc⟩:=I.ok.has x (.inl hk);obtain⟨w',z⟩:=I.cell x c hc;refine wpAny_storeName_cell I.ok.kind hk hc z (λh' hc' hs=>?_);obtain⟨oc,hoc,hocd⟩:=id z;refine h {s with heap:=h'} ⟨I.ok,I.os,I.bare,⟨λb o e n hb hx=>?_,λb o e n hb hx=>?_,I.base.free,λb o e hx=>?_,I.base.tups,I.base.frzs,I.base.tbls⟩,⟨m,hn.sameBut hs (Ne.symm (cne x c hc)),λj y v' e1 e2 e3=>?_⟩,λy c' e=>?_,I.free,I.freeC,λp hp=>?_,tracked ⟨oc,hoc,I.freeC x c hc⟩ hs,by simpa using I.len⟩ ⟨c,hs,.inr hc⟩
  ·exact (hs.2 b (bE (bC (aZ e) (I.ok.cab x c hfn hc)))).trans (I.base.keep b o e n hb hx)
  ·obtain⟨sl,e1⟩:=I.base.slot b o e n hb hx;exact⟨sl,(hs.2 b (bE (bC (aZ e) (I.ok.cab x c hfn hc)))).trans e1⟩
  ·obtain⟨o',e1⟩:=I.base.there b o e hx;exact⟨o',(hs.2 b (bE (bC (aZ e) (I.ok.cab x c hfn hc)))).trans e1⟩
  ·by_cases hj:j=i
   ·subst hj;rw[hi] at e1;cases e1;rw[List.getElem?_set_self hiσ] at e2;cases e2;exact⟨u,r,.inr ⟨.inl hk,c,hc,hc'⟩⟩
   ·rw[List.getElem?_set_ne (Ne.symm hj)] at e2;obtain⟨u',r',q⟩:=hl j y v' e1 e2 e3;refine⟨u',r',?_⟩;rcases q with q | ⟨k,c',e,z'⟩
    ·exact .inl q
    ·refine .inr ⟨k,c',e,z'.sameBut hs ?_⟩;rintro rfl;exact hj (FF hN e1 (I.ok.inj _ _ _ e hc▸hi))
  ·by_cases hcc:c'=c
   ·subst hcc;exact⟨_,hc'⟩
   ·obtain⟨w2,z2⟩:=I.cell y c' e;exact⟨w2,z2.sameBut hs hcc⟩
  ·obtain⟨e,n,ne,nf,d⟩:=I.pin p hp;refine⟨(hs.2 p.1 ?_).trans e,n,ne,nf,d⟩;intro q;rw[q,hoc] at e;have q':oc=p.2:=bG e;exact d w' (by rw[←q'];exact hocd)
theorem Ib{M:Model}{A:Around}{E:Value->Shared->Prop}{i:Nat}{x:Str}{v:V}{u:Value}{Q:Unit->Shared->Prop}(I:Inv X pins σ H s)(hN:X.N.Nodup)(hi:X.N[i]? =some x)(hx:oA X.env.scope x)(r:RelV v u)
  (h:∀s',Inv X pins (σ.set i (some v)) H s'->Q () s') (hf:X.fn x=true∨X.env.scope.names.lookup x=some .local:=by first | exact .inl rfl | exact .inr rfl | assumption):wpAny M A (storeName X.env x u) Q E s:=
 tO I hN hi hx r (λs' I' _=>h s' I') hf
theorem Inv.call'{s':Shared}{ch:List Addr}(I:Inv X pins σ H s)(ho:s'.os=s.os)(u:Un (jW X.stack) ch H H' s.heap s'.heap)(hok:HOk X.prog X.w H' s'.heap)(hg:AllBare s'.gens)
  (hch:∀b∈ch,(b∈X.ex∨X.s₀.heap.objs.size<=b)/\b≠X.env.locals/\(∀x c,X.env.cells.lookup x=some c->c≠b)/\∀p∈X.pn++pins,p.1≠b):Inv X pins σ H' s':=by
 obtain⟨h',g',d',t',o'⟩:=s';have e:o'=s.os:=ho;subst e;exact I.call (g':=g') (t':=t') (d':=d') u hok hg hch
end
noncomputable abbrev XK:=Value->Option Addr->Hp->Prop
noncomputable abbrev St:=List (Option V)
noncomputable abbrev VK:=V->Hp->Prop
noncomputable abbrev TE:=St->Hp->VK->Prop
noncomputable abbrev TT:=St->Hp->(Bool->Hp->Prop)->Prop
noncomputable abbrev TA:=St->Hp->(List V->Hp->Prop)->Prop
structure ic where
 nx:St->Hp->Prop
 rt:VK
 bk:St->Hp->Prop:=λ_ _=>False
 ct:St->Hp->Prop:=λ_ _=>False
noncomputable abbrev TS:=ic->St->Hp->Prop
def EP(X:Cx)(pins:List (Addr×Obj))(σ:St)(Q:VK)(u:Value)(s':Shared):Prop:=∃v H',Inv X pins σ H' s'/\RelV v u/\Q v H'
def TP(X:Cx)(pins:List (Addr×Obj))(σ:St)(Q:Bool->Hp->Prop)(b:Bool)(s':Shared):Prop:=∃H',Inv X pins σ H' s'/\Q b H'
def AP(X:Cx)(pins:List (Addr×Obj))(σ:St)(Q:List V->Hp->Prop)(us:List Value)(s':Shared):Prop:=∃vs H',Inv X pins σ H' s'/\Vals vs us/\Q vs H'
def SP(X:Cx)(pins:List (Addr×Obj))(D:ic)(f:Flow)(s':Shared):Prop:=
 match f with
 |.next=>∃σ' H',Inv X pins σ' H' s'/\D.nx σ' H'
 |.brk=>∃σ' H',Inv X pins σ' H' s'/\D.bk σ' H'
 |.cont=>∃σ' H',Inv X pins σ' H' s'/\D.ct σ' H'
 |.ret u=>∃v σ' H',Inv X pins σ' H' s'/\RelV v u/\D.rt v H'
def PE(X:Cx)(e:Expr)(t:TE):Prop:=
 ∀(pins:List (Addr×Obj)) (s:Shared) (σ:St) (H:Hp) (Q:VK),Inv X pins σ H s->t σ H Q->wpAny (model X.prog X.w) X.A (eval e X.env) (EP X pins σ Q) X.xe s
def PT(X:Cx)(e:Expr)(t:TT):Prop:=
 ∀(pins:List (Addr×Obj)) (s:Shared) (σ:St) (H:Hp) (Q:Bool->Hp->Prop),Inv X pins σ H s->t σ H Q->wpAny (model X.prog X.w) X.A (isTrue e X.env (eval e X.env)) (TP X pins σ Q) X.xe s
def PW(X:Cx)(e:Expr)(t:TT):Prop:=
 ∀(whole:Sem Value) (pins:List (Addr×Obj)) (s:Shared) (σ:St) (H:Hp) (Q:Bool->Hp->Prop),Inv X pins σ H s->t σ H Q->wpAny (model X.prog X.w) X.A (isTrue e X.env whole) (TP X pins σ Q) X.xe s
theorem PW.pt{X:Cx}{e:Expr}{t:TT}(h:PW X e t):PT X e t:=h _
def PA(X:Cx)(es:List Expr)(t:TA):Prop:=
 ∀(pos:Pos) (pins:List (Addr×Obj)) (s:Shared) (σ:St) (H:Hp) (Q:List V->Hp->Prop),Inv X pins σ H s->t σ H Q->wpAny (model X.prog X.w) X.A (spliced (backTo pos (starEach es X.env))) (AP X pins σ Q) X.xe s
def PS(X:Cx)(st:Stmt)(t:TS):Prop:=
 ∀(pins:List (Addr×Obj)) (s:Shared) (σ:St) (H:Hp) (D:ic),Inv X pins σ H s->t D σ H->wpAny (model X.prog X.w) X.A (exec st X.env) (SP X pins D) X.xe s
def PSs(X:Cx)(st:List Stmt)(t:TS):Prop:=
 ∀(pins:List (Addr×Obj)) (s:Shared) (σ:St) (H:Hp) (D:ic),Inv X pins σ H s->t D σ H->wpAny (model X.prog X.w) X.A (execs st X.env) (SP X pins D) X.xe s
theorem eX{α:Type}{t:Sem α}{Q Q':α->Shared->Prop}{M:Model}{A:Around}{E:Value->Shared->Prop}{s:Shared}(h:wpAny M A t Q E s)(hQ:∀a s,Q a s->Q' a s):wpAny M A t Q' E s:=dM h hQ λ_ _ x=>x
section
variable{X:Cx}
inductive MD (i:Nat) (σ:St) (H:Hp) (Q:VK):Prop
 |mk (v:V) (e:σ[i]? =some (some v)) (r:Q v H)
def mP(i:Nat):TE:=MD i
def tC(v:V):TE:=λ_ H Q=>Q v H
theorem YX{i:Nat}{x:Str}{pos:Pos}(hN:X.N[i]? =some x)(hv:tV X.env.scope x)(hd:(x==("__debug__":Str))=false:=by decide)(hcd:(x==("__classdict__":Str))=false:=by decide):PE X (.Name x pos) (mP i):=by
 intro pins s σ H Q I h;obtain⟨v,e,h⟩:=h;obtain⟨m,hn,hl⟩:=I.loc;obtain⟨u,r,l⟩:=hl i x v hN e hv;have fE:EP X pins σ Q u s:=⟨v,H,I,r,h⟩;rcases l with ⟨hk,hm⟩ | ⟨hk,c,hc,hcell⟩
 ·exact wpAny_Name (wpAny_loadName_local I.ok.kind hk hn hm fE) hd
 ·rcases hk with hk | hk
  ·exact wpAny_Name (wpAny_loadName_cell I.ok.kind hk hc hcell fE) hd
  ·exact wpAny_Name (wpAny_loadName_free I.ok.kind hk hc hcell fE hcd) hd
theorem Io{i j pos}:PE X (.Constant (.int i) j pos) (tC (.int i)):=λ_ _ _ H _ I h=>wpAny_Constant_int ⟨.int i,H,I.tok _,⟨()⟩,h⟩
theorem aQ8{b j pos}:PE X (.Constant (.bool b) j pos) (tC (.bl b)):=λ_ _ _ H _ I h=>Constant_bool ⟨.bl b,H,I,rfl,h⟩
theorem aKJ{j pos}:PE X (.Constant .none j pos) (tC .non):=λ_ _ _ H _ I h=>Constant_none ⟨.non,H,I,rfl,h⟩
theorem Kb{x j pos}:PE X (.Constant (.str x) j pos) (tC (.str x)):=λ_ _ _ H _ I h=>Calls.Constant_str ⟨.str x,H,I.tok _,⟨()⟩,h⟩
def Gl(X:Cx)(x:Str):Prop:=X.env.kindOf x=some .globalImplicit
theorem mS{E:Value->Shared->Prop}{pins:List (Addr×Obj)}{s:Shared}{σ:St}{H:Hp}{x:Str}{u:Value}{pos:Pos}{Q:Value->Shared->Prop}(I:Inv X pins σ H s)(hg:Gl X x)(hm:X.mg x=some u)(h:Q u s)
  (hd:(x==("__debug__":Str))=false:=by decide):wpAny (model X.prog X.w) X.A (eval (.Name x pos) X.env) Q E s:=
 Calls.Name_function_global I.ok.kind hg (Calls.loadGlobal_global (by rw[I.ok.glob];exact I.mod.glob.keeps I.bk) hm h) hd
theorem nz{E:Value->Shared->Prop}{pins:List (Addr×Obj)}{s:Shared}{σ:St}{H:Hp}{x:Str}{u:Value}{pos:Pos}{Q:Value->Shared->Prop}(I:Inv X pins σ H s)(hg:Gl X x)(hm:X.mg x=none)(hv:bootBuiltins x=some u)(h:Q u s)
  (hn:x≠"__name__":=by decide) (hd:(x==("__debug__":Str))=false:=by decide):wpAny (model X.prog X.w) X.A (eval (.Name x pos) X.env) Q E s:=by
 obtain⟨mb,h1,h2⟩:=I.mod.blt;exact Calls.Name_function_global I.ok.kind hg (Calls.loadGlobal_builtin (by rw[I.ok.glob];exact I.mod.glob.keeps I.bk) hm (by rw[I.ok.blt];exact h1.keeps I.bk) ((h2 x hn).trans hv) h) hd
theorem ML{x:Str}{v:V}{u:Value}{pos:Pos}(hg:Gl X x)(hm:X.mg x=some u)(r:RelV v u)(hd:(x==("__debug__":Str))=false:=by decide):PE X (.Name x pos) (tC v):=
 λ_ _ _ H _ I h=>mS I hg hm ⟨v,H,I,r,h⟩ hd
theorem Ww{x:Str}{v:V}{u:Value}{pos:Pos}(hg:Gl X x)(hm:X.mg x=none)(hv:bootBuiltins x=some u)(r:RelV v u)(hn:x≠"__name__":=by decide)(hd:(x==("__debug__":Str))=false:=by decide):PE X (.Name x pos) (tC v):=
 λ_ _ _ H _ I h=>nz I hg hm hv ⟨v,H,I,r,h⟩ hn hd
variable{a b:Expr}{ta tb:TE}{pos:Pos}
def PC(X:Cx)(op:CmpOp)(a b:Expr)(t:TE):Prop:=
 ∀(pins:List (Addr×Obj)) (s:Shared) (σ:St) (H:Hp) (Q:VK),Inv X pins σ H s->t σ H Q->
  wpAny (model X.prog X.w) X.A (eval a X.env) (λv s₁=>wpAny (model X.prog X.w) X.A (eval b X.env) (λu s₂=>wpAny (model X.prog X.w) X.A (compareOp op v u) (EP X pins σ Q) X.xe s₂) X.xe s₁) X.xe s
theorem Re(b:Expr){op:CmpOp}(h:op≠ .In)(h2:op≠ .NotIn):behindInMarks op b=false:=by
 have e1:(op==CmpOp.In)=false:=by cases op<;>first | rfl | exact absurd rfl h
 have e2:(op==CmpOp.NotIn)=false:=by cases op<;>first | rfl | exact absurd rfl h2
 cases b<;>simp[behindInMarks,e1,e2]
inductive oO (x:V) (H:Hp) (Q:Bool->Hp->Prop):Prop
 |mk (c:Bool) (e:x=.bl c) (r:Q c H)
def tB(t:TE):TT:=λσ H Q=>t σ H λx H1=>oO x H1 Q
theorem N8{op:CmpOp}{t:TE}(h:PC X op a b t)(h1:behindInMarks op b=false:=by first | exact Re _ (by decide) (by decide) | rfl):PT X (.Compare a [op] [b] pos) (tB t):=by
 intro pins s σ H Q I hw;refine wpAny_isTrue_Compare1 (eX (h pins s σ H _ I hw) λv s1 h1=>eX h1 λu s2 h2=>eX h2 λc s3 ⟨x,H1,I1,r1,q1⟩=>?_) h1;obtain⟨d,rfl,q⟩:=q1;cases r1;exact dY ⟨H1,I1,q⟩
theorem Zy{e:Expr}{t:TE}(h:PE X e t)(he:∀whole,isTrue e X.env whole=(do let v ←whole;standAt e.pos;holding [v] (truthy v)):=by intro _;rfl):PT X e (tB t):=by
 intro pins s σ H Q I hw;refine isTrue_plain (eX (h pins s σ H _ I hw) λv s1 ⟨x,H1,I1,r1,q1⟩=>?_) (he _);obtain⟨d,rfl,q⟩:=q1;cases r1;exact dY ⟨H1,I1,q⟩
variable{tA tB':TT}{rest:List Expr}
def G7(t u:TT):TT:=λσ H Q=>t σ H λc H1=>if c=true then u σ H1 Q else Q false H1
def IJ(t u:TT):TT:=λσ H Q=>t σ H λc H1=>if c=true then Q true H1 else u σ H1 Q
def JM(t:TT):TT:=λσ H Q=>t σ H λc H1=>Q (!c) H1
theorem aGM(ha:PT X a tA):PW X (.BoolOp .And [a] pos) tA:=by
 intro wh pins s σ H Q I h;refine isTrue_and (eX (ha pins s σ H Q I h) λc s1 e=>?_);cases c with
 |true=>exact isTrue_and_nil e
 |false=>exact e
theorem Ow(ha:PT X a tA):PW X (.BoolOp .Or [a] pos) tA:=by
 intro wh pins s σ H Q I h;refine isTrue_or (eX (ha pins s σ H Q I h) λc s1 e=>?_);cases c with
 |false=>exact isTrue_or_nil e
 |true=>exact e
theorem ME(ha:PT X a tA)(hb:PW X (.BoolOp .And (b::rest) pos) tB'):PW X (.BoolOp .And (a::b::rest) pos) (G7 tA tB'):=by
 intro wh pins s σ H Q I h;refine isTrue_and (eX (ha pins s σ H _ I h) λc s1 ⟨H1,I1,q1⟩=>?_);cases c with
 |true=>exact hb wh pins s1 σ H1 Q I1 q1
 |false=>exact⟨H1,I1,q1⟩
theorem XI(ha:PT X a tA)(hb:PW X (.BoolOp .Or (b::rest) pos) tB'):PW X (.BoolOp .Or (a::b::rest) pos) (IJ tA tB'):=by
 intro wh pins s σ H Q I h;refine isTrue_or (eX (ha pins s σ H _ I h) λc s1 ⟨H1,I1,q1⟩=>?_);cases c with
 |true=>exact⟨H1,I1,q1⟩
 |false=>exact hb wh pins s1 σ H1 Q I1 q1
theorem TY(ha:PT X a tA):PT X (.UnaryOp .Not a pos) (JM tA):=by
 intro pins s σ H Q I h;exact isTrue_not (ha pins s σ H (λc H1=>Q (!c) H1) I h)
def KQ(ta tb:TE):TE:=λσ H Q=>ta σ H λx H1=>oO x H1 λc H1=>if c=true then tb σ H1 Q else Q (.bl false) H1
def GV(ta tb:TE):TE:=λσ H Q=>ta σ H λx H1=>oO x H1 λc H1=>if c=true then Q (.bl true) H1 else tb σ H1 Q
def KF(ta:TE):TE:=λσ H Q=>ta σ H λx H1=>oO x H1 λc H1=>Q (.bl (!c)) H1
theorem VU{op}{t:TE}(h:PE X a t):PE X (.BoolOp op [a] pos) t:=λpins s σ H Q I hw=>BoolOp_one (h pins s σ H Q I hw)
theorem aKU(ha:PE X a ta)(hb:PE X (.BoolOp .And (b::rest) pos) tb):PE X (.BoolOp .And (a::b::rest) pos) (KQ ta tb):=by
 intro pins s σ H Q I h;refine BoolOp_and (eX (ha pins s σ H _ I h) λv s1 ⟨x,H1,I1,r1,q1⟩=>?_);obtain⟨c,rfl,q1⟩:=q1;cases r1;refine dY ?_;cases c with
 |true=>exact hb pins s1 σ H1 Q I1 q1
 |false=>exact⟨.bl false,H1,I1,rfl,q1⟩
theorem aNU(ha:PE X a ta)(hb:PE X (.BoolOp .Or (b::rest) pos) tb):PE X (.BoolOp .Or (a::b::rest) pos) (GV ta tb):=by
 intro pins s σ H Q I h;refine BoolOp_or (eX (ha pins s σ H _ I h) λv s1 ⟨x,H1,I1,r1,q1⟩=>?_);obtain⟨c,rfl,q1⟩:=q1;cases r1;refine dY ?_;cases c with
 |false=>exact hb pins s1 σ H1 Q I1 q1
 |true=>exact⟨.bl true,H1,I1,rfl,q1⟩
theorem SC(ha:PE X a ta):PE X (.UnaryOp .Not a pos) (KF ta):=by
 intro pins s σ H Q I h;refine UnaryOp_ (eX (ha pins s σ H _ I h) λv s1 ⟨x,H1,I1,r1,q1⟩=>?_);obtain⟨c,rfl,q1⟩:=q1;cases r1;exact not_of (dY ⟨.bl (!c),H1,I1,rfl,q1⟩)
def JZ(t:TT)(ta tb:TE):TE:=λσ H Q=>t σ H λc H1=>if c=true then ta σ H1 Q else tb σ H1 Q
theorem NC{c:Expr}(hc:PT X c tA)(ha:PE X a ta)(hb:PE X b tb):PE X (.IfExp c a b pos) (JZ tA ta tb):=by
 intro pins s σ H Q I h;refine wpAny_IfExp (eX (hc pins s σ H _ I h) λd s1 ⟨H1,I1,q1⟩=>?_);cases d with
 |true=>exact ha pins s1 σ H1 Q I1 q1
 |false=>exact hb pins s1 σ H1 Q I1 q1
end
def SqL(K:FG)(H:Hp)(a:Addr)(xs:List V):Prop:=
 Rd H a (.lst xs)∨
  ∃(o:Obj) (its:Array Value) (n:Nat),K.lookup a=some o/\o.cls=.type "list"/\o.dict=none/\o.data=.seq its n/\its.size<=sizeLine/\Vals xs its.toList
def SqT(K:FG)(H:Hp)(a:Addr)(xs:List V):Prop:=
 Rd H a (.tup xs)∨
  ∃(o:Obj) (its:Array Value) (n:Nat),K.lookup a=some o/\o.cls=.type "tuple"/\o.data=.seq its n/\its.size<=sizeLine/\Vals xs its.toList
noncomputable def Al:Value->Option V
 |.none=>some .non
 |.bool b=>some (.bl b)
 |.int i _=>some (.int i)
 |.str x _=>some (.str x)
 |.bytes b _=>some (.byt b)
 |.float b _=>some (.flt b)
 |.ref a=>some (.ref a)
 |.type n=>some (.ty n)
 |_=>none
theorem RelV.abs{x:V}{u:Value}(r:RelV x u):Al u=some x:=by
 cases x with
 |non=>cases r;rfl
 |bl _=>cases r;rfl
 |int _=>obtain⟨t,rfl⟩:=r;rfl
 |str _=>obtain⟨t,rfl⟩:=r;rfl
 |byt _=>obtain⟨t,rfl⟩:=r;rfl
 |flt _=>obtain⟨t,rfl⟩:=r;rfl
 |ref _=>cases r;rfl
 |ty _=>cases r;rfl
theorem RelV.inj{x y:V}{u:Value}(r:RelV x u)(q:RelV y u):x=y:=bG (r.abs.symm.trans q.abs)
theorem Vals.inj:∀{xs ys:List V} {us:List Value},Vals xs us->Vals ys us->xs=ys
 |_,_,_,.nil,.nil=>rfl
 |_,_,_,.cons r t,.cons r' t'=>by rw[r.inj r',Vals.inj t t']
section
variable{X:Cx}{pins:List (Addr×Obj)}{σ:St}{H:Hp}{s:Shared}{a:Addr}{xs ys:List V}
theorem SqL.of{K:FG}(h:H a=some (.lst xs)):SqL K H a xs:=.inl (.inl h)
theorem SqT.of{K:FG}(h:H a=some (.tup xs)):SqT K H a xs:=.inl (.inl h)
theorem Inv.list(I:Inv X pins σ H s)(h:SqL X.K H a xs):∃its:List Value,Vals xs its/\PlainL s.heap a its.toArray/\xs.length<=sizeLine:=by
 rcases h with h | ⟨o,its,n,hk,hc,hd,hs,hz,r⟩
 ·obtain⟨z,its,n,r,e⟩:=h.ok I.hok;exact⟨its,r,⟨_,n,e,rfl,rfl,rfl⟩,z⟩
 ·refine⟨its.toList,r,⟨o,n,I.kIn a o hk,hc,hd,by simpa using hs⟩,?_⟩;have e:=r.length;simp only[dD] at e;omega
theorem Inv.tuple(I:Inv X pins σ H s)(h:SqT X.K H a xs):∃its:List Value,Vals xs its/\IsTup s.heap a its.toArray/\xs.length<=sizeLine:=by
 rcases h with h | ⟨o,its,n,hk,hc,hs,hz,r⟩
 ·obtain⟨z,its,r,p⟩:=h.ok I.hok;exact⟨its,r,p,z⟩
 ·refine⟨its.toList,r,⟨o,I.kIn a o hk,hc,n,by simpa using hs⟩,?_⟩;have e:=r.length;simp only[dD] at e;omega
theorem Inv.list_inj(I:Inv X pins σ H s)(h:SqL X.K H a xs)(h':SqL X.K H a ys):xs=ys:=by
 obtain⟨its,r,⟨o,n,e,_,_,d⟩,_⟩:=I.list h;obtain⟨its',r',⟨o',n',e',_,_,d'⟩,_⟩:=I.list h';rw[e] at e';cases e';rw[d] at d';injection d' with d1 _;have:its=its':=by simpa using congrArg Array.toList d1
 subst this;exact r.inj r'
theorem Inv.tuple_inj(I:Inv X pins σ H s)(h:SqT X.K H a xs)(h':SqT X.K H a ys):xs=ys:=by
 obtain⟨its,r,⟨o,e,_,n,d⟩,_⟩:=I.tuple h;obtain⟨its',r',⟨o',e',_,n',d'⟩,_⟩:=I.tuple h';rw[e] at e';cases e';rw[d] at d';injection d' with d1 _;have:its=its':=by simpa using congrArg Array.toList d1
 subst this;exact r.inj r'
end
noncomputable abbrev Cx.wish(X:Cx)(E:Value->Shared->Prop):Cx:={X with xe:=E}
noncomputable abbrev Cx.nox(X:Cx):Cx:=X.wish λ_ _=>False
theorem Cx.Ok.wish{X:Cx}(ok:X.Ok)(E:Value->Shared->Prop):(X.wish E).Ok:=
 ⟨ok.mod,ok.kind,ok.glob,ok.blt,ok.above,ok.inj,ok.has,ok.cab,ok.hd,ok.frames,ok.stk,ok.exf,ok.bs,ok.bsz,ok.noex,ok.exfs,ok.funs,ok.frf⟩
theorem Cx.Ok.unwish{X:Cx}{E:Value->Shared->Prop}(ok:(X.wish E).Ok):X.Ok:=
 ⟨ok.mod,ok.kind,ok.glob,ok.blt,ok.above,ok.inj,ok.has,ok.cab,ok.hd,ok.frames,ok.stk,ok.exf,ok.bs,ok.bsz,ok.noex,ok.exfs,ok.funs,ok.frf⟩
section
variable{X:Cx}{pins:List (Addr×Obj)}{σ:St}{H:Hp}{s:Shared}{E:Value->Shared->Prop}
theorem Inv.wish(I:Inv X pins σ H s)(E:Value->Shared->Prop):Inv (X.wish E) pins σ H s:=⟨I.ok.wish E,I.os,I.bare,I.base,I.loc,I.cell,I.free,I.freeC,I.pin,I.hok,I.len⟩
theorem Inv.unwish(I:Inv (X.wish E) pins σ H s):Inv X pins σ H s:=⟨I.ok.unwish,I.os,I.bare,I.base,I.loc,I.cell,I.free,I.freeC,I.pin,I.hok,I.len⟩
theorem SP.unwish{D:ic}{f:Flow}{s':Shared}(h:SP (X.wish E) pins D f s'):SP X pins D f s':=by
 cases f with
 |next=>obtain⟨σ',H',I,q⟩:=h;exact⟨σ',H',I.unwish,q⟩
 |brk=>obtain⟨σ',H',I,q⟩:=h;exact⟨σ',H',I.unwish,q⟩
 |cont=>obtain⟨σ',H',I,q⟩:=h;exact⟨σ',H',I.unwish,q⟩
 |ret u=>obtain⟨v,σ',H',I,r,q⟩:=h;exact⟨v,σ',H',I.unwish,r,q⟩
theorem PSs.nox{st:List Stmt}{t:TS}(h:PSs X.nox st t):PSs X st t:=λpins s σ H D I hw=>
 dM (h pins s σ H D (I.wish _) hw) (λ_ _ q=>q.unwish) λ_ _ z=>False.elim z
end
section
variable{X:Cx}{st:Stmt}{rest:List Stmt}{t u:TS}{e:Expr}{te:TE}{pos:Pos}
def GY:TS:=λD σ H=>D.nx σ H
def rP(t u:TS):TS:=λD σ H=>t {D with nx:=u D} σ H
theorem QC:PSs X [] GY:=λ_ _ σ H _ I h=>wpAny_execs_nil ⟨σ,H,I,h⟩
theorem P2(h1:PS X st t)(h2:PSs X rest u):PSs X (st::rest) (rP t u):=by
 intro pins s σ H D I h;refine wpAny_execs_cons (eX (h1 pins s σ H {D with nx:=u D} I h) λf s1 q=>?_);cases f with
 |next=>
  obtain⟨σ',H',I',q⟩:=q;exact h2 pins s1 σ' H' D I' q
 |ret v=>exact q
 |brk=>exact q
 |cont=>exact q
theorem Nw(h1:PS X st t):PSs X [st] t:=by
 intro pins s σ H D I h;refine wpAny_execs_cons (eX (h1 pins s σ H D I h) λf s1 q=>?_);cases f with
 |next=>exact wpAny_execs_nil q
 |ret v=>exact q
 |brk=>exact q
 |cont=>exact q
theorem Inv.quiet{pins:List (Addr×Obj)}{σ:St}{H:Hp}{s:Shared}(I:Inv X pins σ H s):interactive X.env=false:=by simp[interactive,I.ok.kind]
def FO(te:TE):TS:=λD σ H=>te σ H λ_ H1=>D.nx σ H1
theorem Sv(he:PE X e te)(hs:swapsWith e none pos.line X.env=pure false:=by rfl):PS X (.Expr e pos) (FO te):=by
 intro pins s σ H D I h;exact wpAny_Expr_any (eX (he pins s σ H _ I h) λv s1 ⟨x,H1,I1,r1,q1⟩=>⟨σ,H1,I1,q1⟩) I.quiet hs
def Fi(te:TE):TS:=λD σ H=>te σ H D.rt
theorem WI(he:PE X e te):PS X (.Return (some e) pos) (Fi te):=by
 intro pins s σ H D I h;exact wpAny_Return_some (eX (he pins s σ H _ I h) λv s1 ⟨x,H1,I1,r1,q1⟩=>⟨x,σ,H1,I1,r1,q1⟩)
def GD(c:TT)(t u:TS):TS:=λD σ H=>c σ H λb H1=>if b=true then t D σ H1 else u D σ H1
theorem Sk{c:Expr}{a b:List Stmt}{tc:TT}(hc:PT X c tc)(ha:PSs X a t)(hb:PSs X b u):PS X (.If c a b pos) (GD tc t u):=by
 intro pins s σ H D I h;refine wpAny_If (eX (hc pins s σ H _ I h) λd s1 ⟨H1,I1,q1⟩=>?_);cases d with
 |true=>exact ha pins s1 σ H1 D I1 q1
 |false=>exact hb pins s1 σ H1 D I1 q1
def F9:TS:=λ_ _ _=>False
theorem aCB:PS X st F9:=λ_ _ _ _ _ _ h=>h.elim
end
noncomputable abbrev TG:=V->St->Hp->(St->Hp->Prop)->Prop
noncomputable abbrev j3:=List V->St->Hp->(St->Hp->Prop)->Prop
def PG(X:Cx)(target:Expr)(t:TG):Prop:=
 ∀(pins:List (Addr×Obj)) (s:Shared) (σ:St) (H:Hp) (v:V) (u:Value) (Q:St->Hp->Prop),Inv X pins σ H s->RelV v u->t v σ H Q->
  wpAny (model X.prog X.w) X.A (assign target X.env u) (λ_ s'=>∃σ' H',Inv X pins σ' H' s'/\Q σ' H') X.xe s
def ph(X:Cx)(ts:List Expr)(t:j3):Prop:=
 ∀(pins:List (Addr×Obj)) (s:Shared) (σ:St) (H:Hp) (vs:List V) (us:List Value) (Q:St->Hp->Prop),Inv X pins σ H s->Vals vs us->t vs σ H Q->
  wpAny (model X.prog X.w) X.A (assignInOrder ((assignEach ts X.env).map (·.2)) us) (λ_ s'=>∃σ' H',Inv X pins σ' H' s'/\Q σ' H') X.xe s
noncomputable abbrev Ak:=V->V->V->Hp->(Hp->Prop)->Prop
def Hl(X:Cx)(t:Ak):Prop:=
 ∀(pins:List (Addr×Obj)) (s:Shared) (σ:St) (H:Hp) (o i v:V) (ov iv u:Value) (Q:Hp->Prop),Inv X pins σ H s->RelV o ov->RelV i iv->RelV v u->t o i v H Q->
  wpAny (model X.prog X.w) X.A (setItem ov iv u) (λ_ s'=>∃H',Inv X pins σ H' s'/\Q H') X.xe s
section
variable{X:Cx}{pos:Pos}
def iV(i:Nat):TG:=λv σ H Q=>Q (σ.set i (some v)) H
theorem FS{i:Nat}{x:Str}(hN:X.N.Nodup)(hi:X.N[i]? =some x)(hx:oA X.env.scope x)(hf:X.fn x=true∨X.env.scope.names.lookup x=some .local:=by first | exact .inl rfl | exact .inr rfl | assumption):PG X (.Name x pos) (iV i):=by
 intro pins s σ H v u Q I r h;exact wpAny_assign_Name (Ib I hN hi hx r (λs' I'=>⟨_,H,I',h⟩) hf)
inductive XNl (vs:List V) (σ:St) (H:Hp) (Q:St->Hp->Prop):Prop
 |mk (e:vs=[]) (r:Q σ H)
def rp:j3:=XNl
inductive XCs (t:TG) (u:j3) (vs:List V) (σ:St) (H:Hp) (Q:St->Hp->Prop):Prop
 |mk (v:V) (r:List V) (e:vs=v::r) (h:t v σ H λσ' H'=>u r σ' H' Q)
def nO(t:TG)(u:j3):j3:=XCs t u
theorem aF6:ph X [] rp:=by
 intro pins s σ H vs us Q I r h;obtain⟨e,h⟩:=h;subst e;cases r;exact assignInOrder_nil ⟨σ,H,I,h⟩
theorem RM{e:Expr}{es:List Expr}{t:TG}{u:j3}(h1:PG X e t)(h2:ph X es u)
  (hs:(assignEach (e::es) X.env).map (·.2)=assign e X.env::(assignEach es X.env).map (·.2):=by rfl):ph X (e::es) (nO t u):=by
 intro pins s σ H vs us Q I r h;obtain⟨v,vr,e1,h⟩:=h;subst e1;cases r with
 |cons r rr=>
  rw[hs];refine assignInOrder_cons (eX (h1 pins s σ H _ _ _ I r h) λ_ s1 ⟨σ1,H1,I1,q1⟩=>?_);exact h2 pins s1 σ1 H1 _ _ Q I1 rr q1
inductive XTu (K:FG) (n:Nat) (t:j3) (v:V) (σ:St) (H:Hp) (Q:St->Hp->Prop):Prop
 |mk (a:Addr) (xs:List V) (e:v=.ref a) (s:SqT K H a xs) (l:xs.length=n) (r:t xs σ H Q)
def oC(K:FG)(n:Nat)(t:j3):TG:=XTu K n t
theorem Le{es:List Expr}{k:Nat}{t:j3}{n:Nat}(hc:X.calm=true)(h:ph X es t)
  (hn:(assignEach es X.env).length=n:=by rfl) (hst:(assignEach es X.env).findIdx? (·.1)=none:=by rfl):PG X (.Tuple es k pos) (oC X.K n t):=by
 intro pins s σ H v u Q I r hw;obtain⟨a,xs,e1,hq,hl,hw⟩:=hw;subst e1;cases r;obtain⟨its,rv,ht,hz⟩:=I.tuple hq;refine assign_Tuple_tuple (I.ok.hd hc) ht (by simp[hn,←hl,rv.length]) hst λh' hx=>?_;have I1:Inv X pins σ H {s with heap:=h'}:=I.kept (t':=s.toks) λb o e=>hx b o (bE (aZ e)) e;exact h pins _ σ H xs _ Q I1 (by simpa using rv) hw
def G2(to ti:TE)(t:Ak):TG:=λv σ H Q=>to σ H λo H1=>ti σ H1 λi H2=>t o i v H2 λH3=>Q σ H3
theorem aJ4{o i:Expr}{to ti:TE}{t:Ak}(ho:PE X o to)(hi:PE X i ti)(hs:Hl X t)
  (ha:∀v,assign (.Subscript o i pos) X.env v=(do
   let ov ←holding [v] (eval o X.env)
   let iv ←holding [v,ov] (eval i X.env)
   standAt pos
   holding [v,ov,iv] (setItem ov iv v)
   release [v,ov,iv] []):=by intro _;rfl):PG X (.Subscript o i pos) (G2 to ti t):=by
 intro pins s σ H v u Q I r h;rw[ha];refine dJ (dO (eX (ho pins s σ H _ I h) λov s1 ⟨x,H1,I1,r1,q1⟩=>?_));refine dJ (dO (eX (hi pins s1 σ H1 _ I1 q1) λiv s2 ⟨y,H2,I2,r2,q2⟩=>?_));refine dJ (wpAny_standAt (dJ (dO (eX (hs pins s2 σ H2 x y v ov iv u _ I2 r1 r2 r q2) λ_ s3 ⟨H3,I3,q3⟩=>?_))));exact wpAny_release ⟨σ,H3,I3,q3⟩
def mN(te:TE)(g:TG):TS:=λD σ H=>te σ H λx H1=>g x σ H1 D.nx
theorem YL{tg e:Expr}{te:TE}{g:TG}(he:PE X e te)(hg:PG X tg g)(hs:swapsWithSole [tg] e pos.line X.env=pure false:=by rfl)(hw:swappedStores [tg] e X.env=pure none:=by rfl)
  (h1:(assignEach [tg] X.env).map (·.2)=[assign tg X.env]:=by rfl):PS X (.Assign [tg] e pos) (mN te g):=by
 intro pins s σ H D I h;refine wpAny_Assign_stores (eX (he pins s σ H _ I h) λv s1 ⟨x,H1,I1,r1,q1⟩=>?_) hs hw;rw[h1];exact eX (hg pins s1 σ H1 x v _ I1 r1 q1) λ_ s2 q=>q
theorem aIC{i:Nat}{x:Str}{e:Expr}{te:TE}{pos':Pos}(hN:X.N.Nodup)(hi:X.N[i]? =some x)(hx:oA X.env.scope x)(he:PE X e te)(hs:swapsWith e (some (.Name x pos')) pos.line X.env=pure false:=by rfl)(hf:X.fn x=true∨X.env.scope.names.lookup x=some .local:=by first | exact .inl rfl | exact .inr rfl | assumption):
  PS X (.Assign [.Name x pos'] e pos) (mN te (iV i)):=by
 intro pins s σ H D I h;refine wpAny_Assign_Name (eX (he pins s σ H _ I h) λv s1 ⟨y,H1,I1,r1,q1⟩=>?_) hs;exact Ib I1 hN hi hx r1 (λs2 I2=>⟨_,H1,I2,q1⟩) hf
def wD(c:TT)(tb:TS):TS:=λD σ H=>∃W:Nat->St->Hp->Prop,(∃m,W m σ H)/\∀m σ H,W m σ H->
 c σ H λb H1=>if b=true then ∃N:St->Hp->Prop,(∀σ' H',N σ' H'->∃m',m'<m/\W m' σ' H')/\tb {D with nx:=N,ct:=N,bk:=D.nx} σ H1 else D.nx σ H1
theorem Zw{c:Expr}{body:List Stmt}{tc:TT}{tb:TS}(hp:PassesOwn (model X.prog X.w) X.A X.env X.xe)(hc:PT X c tc)(hb:PSs X body tb):PS X (.While c body [] pos) (wD tc tb):=by
 intro pins s σ H D I h;obtain⟨W,⟨m0,w0⟩,turn⟩:=h;refine wpAny_While (codeAny_whileLoop (λn s'=>∃σ' H',Inv X pins σ' H' s'/\W n σ' H') ?_ m0 ⟨σ,H,I,w0⟩);rintro n s1 ⟨σ1,H1,I1,w1⟩;refine dH hp (eX (hc pins s1 σ1 H1 _ I1 (turn n σ1 H1 w1)) λb s2 ⟨H2,I2,q2⟩=>?_);cases b with
 |true=>
  obtain⟨N,hN,q2⟩:=q2;rw[if_pos rfl];refine dH hp (eX (hb pins s2 σ1 H2 _ I2 q2) λf s3 q3=>?_);cases f with
  |next=>
   obtain⟨σ3,H3,I3,n3⟩:=q3;obtain⟨m',hm,w3⟩:=hN σ3 H3 n3;exact⟨m',hm,σ3,H3,I3,w3⟩
  |cont=>
   obtain⟨σ3,H3,I3,n3⟩:=q3;obtain⟨m',hm,w3⟩:=hN σ3 H3 n3;exact⟨m',hm,σ3,H3,I3,w3⟩
  |brk=>exact q3
  |ret v=>exact q3
 |false=>
  rw[if_neg bF];exact wpAny_execs_nil ⟨σ1,H2,I2,q2⟩
end
structure It where
 go:Nat->Hp->Prop
 yld:Nat->Hp->V->Hp->Prop
 stop:Nat->Hp->Prop
def jM(X:Cx)(pins:List (Addr×Obj))(H:Hp)(b:Addr):Prop:=
 H b=none/\b≠X.env.locals/\b∉X.fs/\(b∈X.ex∨X.s₀.heap.objs.size<=b)/\(∀x c,X.env.cells.lookup x=some c->c≠b)/\∀p∈X.pn++pins,p.1≠b
theorem Inv.fpOk{X:Cx}{pins:List (Addr×Obj)}{σ:St}{H H':Hp}{s:Shared}{b:Addr}(I:Inv X pins σ H s)(hb:s.heap.objs.size<=b)(hn:H' b=none):jM X pins H' b:=by
 refine⟨hn,Nat.ne_of_gt (bC I.lt hb),I.nofs hb,.inr (bV I.sz hb),λx c e z=>?_,λp hp z=>?_⟩
 ·obtain⟨v,q⟩:=I.cell x c e;exact absurd (bC q.lt (by rw[z];exact hb)) (cL _)
 ·exact absurd (bC (aZ (I.pin p hp).1) (by rw[z];exact hb)) (cL _)
structure iS(P:Program)(w:World)(K:FG)(tg:Expr)(J:It)(fp:List Addr)(it:Addr)(tn:Nat->Heap->Prop):Prop where
 mem:it∈fp
 obj:∀i h,tn i h->∀b∈fp,∃o,h.get? b=some o/\∀v,o.data≠ .cell v
 keep:∀i h h',tn i h->(∀b∈fp,∀o,h.get? b=some o->h'.get? b=some o)->tn i h'
 item:∀(X:Cx),X.prog=P->X.w=w->X.K=K->X.calm=true->∀(i:Nat) (pins:List (Addr×Obj)) (s:Shared) (σ:St) (H:Hp) (E:Value->Shared->Prop),Inv X pins σ H s->(∀b∈fp,jM X pins H b)->tn i s.heap->J.go i H->
  wpAny (model P w) X.A (pyNext (.ref it)) (λr s1=>∃u,r=some u/\
   wpAny (model P w) X.A (letOwnedTupleGo tg (.ref it) u) (λ_ s2=>∃x H',Inv X pins σ H' s2/\RelV x u/\J.yld i H x H'/\tn (i+1) s2.heap/\∀b∈fp,H' b=none) E s1) E s
 done:∀(X:Cx),X.prog=P->X.w=w->X.K=K->X.calm=true->∀(i:Nat) (pins:List (Addr×Obj)) (s:Shared) (σ:St) (H:Hp) (E:Value->Shared->Prop),Inv X pins σ H s->(∀b∈fp,jM X pins H b)->tn i s.heap->J.stop i H->
  wpAny (model P w) X.A (pyNext (.ref it)) (λr s1=>r=none/\Inv X pins σ H s1) E s
 self:∀(A:Around) (i:Nat) (s:Shared) (Q:Value->Shared->Prop) (E:Value->Shared->Prop),tn i s.heap->Q (.ref it) s->wpAny (model P w) A (pyIter (.ref it)) Q E s
noncomputable abbrev TI:=St->Hp->(It->Hp->Prop)->Prop
def Jd(X:Cx)(pins:List (Addr×Obj))(σ:St)(tg:Expr)(R:It->Hp->Prop)(itv:Value)(s2:Shared):Prop:=
 ∃(it:Addr) (fp:List Addr) (tn:Nat->Heap->Prop) (J:It) (H':Hp),itv=.ref it/\Inv X pins σ H' s2/\iS X.prog X.w X.K tg J fp it tn/\tn 0 s2.heap/\(∀b∈fp,jM X pins H' b)/\R J H'
def PI(X:Cx)(tg iter:Expr)(wi:TI):Prop:=
 ∀(pins:List (Addr×Obj)) (s:Shared) (σ:St) (H:Hp) (R:It->Hp->Prop),Inv X pins σ H s->wi σ H R->
  wpAny (model X.prog X.w) X.A (eval iter X.env) (λv s1=>wpAny (model X.prog X.w) X.A (pyIter v) (Jd X pins σ tg R) X.xe s1) X.xe s
theorem pY{M:Model}{A:Around}{E:Value->Shared->Prop}{s:Shared}{tg:Expr}{it:Addr}{u:Value}{o:Obj}{n:String}{vs:Array Value}{Q:Unit->Shared->Prop}(ho:s.heap.get? it=some o)(hc:o.cls=.type n)(hd:o.data=.fields vs)
  (hn:["enumerate","zip","dict_itemiterator","dict_reverseitemiterator","odict_iterator","itertools.zip_longest","itertools.pairwise"].contains n=false) (hQ:Q () s):wpAny M A (letOwnedTupleGo tg (.ref it) u) Q E s:=by
 unfold letOwnedTupleGo;cases tg<;>first
  |exact dX hQ
  |(cases u<;>first
    |exact dX hQ
    |(refine dJ (wpAny_load ho ?_)
      rw[hc,hd];show wpAny M A (if (["enumerate","zip","dict_itemiterator","dict_reverseitemiterator","odict_iterator","itertools.zip_longest","itertools.pairwise"].contains n&&vs[0]? ==some (rawInt _))=true then _ else _) Q E s;rw[if_neg (by intro h;rw[hn,Bool.false_and] at h;cases h)];exact dX hQ))
noncomputable def mV(K:FG)(a:Addr):It:=
 ⟨λi H=>∃xs x,SqL K H a xs/\xs[i]? =some x,λi H x H'=>H'=H/\∀xs,SqL K H a xs->xs[i]? =some x,λi H=>∃xs,SqL K H a xs/\xs.length<=i⟩
noncomputable def nF(K:FG)(a:Addr):It:=
 ⟨λi H=>∃xs x,SqT K H a xs/\xs[i]? =some x,λi H x H'=>H'=H/\∀xs,SqT K H a xs->xs[i]? =some x,λi H=>∃xs,SqT K H a xs/\xs.length<=i⟩
noncomputable def lT(lo:Int)(n:Nat):It:=⟨λi _=>i<n,λi H x H'=>H'=H/\x=.int (lo+i),λi _=>n<=i⟩
theorem XO{P:Program}{w:World}{K:FG}{tg:Expr}(a it:Addr):iS P w K tg (mV K a) [it] it (λi h=>h.IsListIter it a i) where
 mem:=by simp
 obj:=λi h st b hb=>by
  have e:b=it:=by simpa using hb
  subst e;obtain⟨o,e,c,d⟩:=st;exact⟨o,e,λv z=>by rw[d] at z;cases z⟩
 keep:=λi h h' st k=>st.at λo e=>k it (by simp) o e
 item:=by
  intro X hP hw hK hc i pins s σ H E I hf st hg;subst hP hw hK;obtain⟨xs,x,hq,hx⟩:=hg;obtain⟨its,rv,p,hz⟩:=I.list hq;obtain⟨u,hu,ru⟩:=rv.get hx;obtain⟨f0,f1,f2,f3,f4,f5⟩:=hf it (by simp);refine wpAny_pyNext_list_item st p.isList (x:=u) (by simpa using hu) λh' st' sb=>?_;have I1:Inv X pins σ H {s with heap:=h'}:=I.turned (t':=s.toks) (λb o hb e=>(sb.2 b hb).trans e) f0 f1 f3 f4 f5;obtain⟨o,e,c,d⟩:=id st'
  exact⟨u,rfl,pY (s:={s with heap:=h'}) e c d (by decide) ⟨x,H,I1,ru,⟨rfl,λys hy=>by rw[I.list_inj hy hq];exact hx⟩,st',λb hb=>(hf b hb).1⟩⟩
 done:=by
  intro X hP hw hK hc i pins s σ H E I hf st hg;subst hP hw hK;obtain⟨xs,hq,hx⟩:=hg;obtain⟨its,rv,p,hz⟩:=I.list hq;obtain⟨f0,f1,f2,f3,f4,f5⟩:=hf it (by simp);have hl:=rv.length;exact wpAny_pyNext_list_end (I.ok.hd hc) st p.isList (by simp;omega) λh' eb=>⟨rfl,I.turned (t':=s.toks) (λb o hb e=>eb b o hb e) f0 f1 f3 f4 f5⟩
 self:=λ_ _ _ _ _ st h=>wpAny_pyIter_listiter st h
theorem QU{P:Program}{w:World}{K:FG}{tg:Expr}(a it:Addr):iS P w K tg (nF K a) [it] it (λi h=>h.IsTupleIter it a i) where
 mem:=by simp
 obj:=λi h st b hb=>by
  have e:b=it:=by simpa using hb
  subst e;obtain⟨o,e,c,d⟩:=st;exact⟨o,e,λv z=>by rw[d] at z;cases z⟩
 keep:=λi h h' st k=>st.at λo e=>k it (by simp) o e
 item:=by
  intro X hP hw hK hc i pins s σ H E I hf st hg;subst hP hw hK;obtain⟨xs,x,hq,hx⟩:=hg;obtain⟨its,rv,p,hz⟩:=I.tuple hq;obtain⟨u,hu,ru⟩:=rv.get hx;obtain⟨f0,f1,f2,f3,f4,f5⟩:=hf it (by simp);refine wpAny_pyNext_tuple_item st (show s.heap.IsTuple a its.toArray from p) (x:=u) (by simpa using hu) λh' st' sb=>?_;have I1:Inv X pins σ H {s with heap:=h'}:=I.turned (t':=s.toks) (λb o hb e=>(sb.2 b hb).trans e) f0 f1 f3 f4 f5
  obtain⟨o,e,c,d⟩:=id st';exact⟨u,rfl,pY (s:={s with heap:=h'}) e c d (by decide) ⟨x,H,I1,ru,⟨rfl,λys hy=>by rw[I.tuple_inj hy hq];exact hx⟩,st',λb hb=>(hf b hb).1⟩⟩
 done:=by
  intro X hP hw hK hc i pins s σ H E I hf st hg;subst hP hw hK;obtain⟨xs,hq,hx⟩:=hg;obtain⟨its,rv,p,hz⟩:=I.tuple hq;obtain⟨f0,f1,f2,f3,f4,f5⟩:=hf it (by simp);have hl:=rv.length;exact wpAny_pyNext_tuple_end (I.ok.hd hc) st (show s.heap.IsTuple a its.toArray from p) (by simp;omega) λh' eb=>⟨rfl,I.turned (t':=s.toks) (λb o hb e=>eb b o hb e) f0 f1 f3 f4 f5⟩
 self:=λ_ _ _ _ _ st h=>wpAny_pyIter_tupleiter st h
theorem LA{P:Program}{w:World}{K:FG}{tg:Expr}(it:Addr)(lo:Int)(n:Nat):iS P w K tg (lT lo n) [it] it (λi h=>IsRangeIter h it (lo+(i:Nat)*1) ((n:Int)-(i:Nat)) 1) where
 mem:=by simp
 obj:=λi h st b hb=>by
  have e:b=it:=by simpa using hb
  subst e;exact⟨_,st,λv z=>by
   have z':Data.fields _=Data.cell v:=z;cases z'⟩
 keep:=λi h h' st k=>k it (by simp) _ st
 item:=by
  intro X hP hw hK hc i pins s σ H E I hf st hg;subst hP hw hK;obtain⟨f0,f1,f2,f3,f4,f5⟩:=hf it (by simp);have W:=Walks.range (prog:=X.prog) (w:=X.w) (I.ok.hd hc) it lo 1 n;refine W.item i s _ _ hg st λv h' tk hv st' kk=>?_;obtain⟨t,rfl⟩:=hv;have I1:Inv X pins σ H {s with heap:=h',toks:=tk}:=I.turned (λb o hb e=>kk b o (by simpa using hb) e) f0 f1 f3 f4 f5;refine⟨(),pY (s:={s with heap:=h',toks:=tk}) (n:="range_iterator") st' rfl rfl (by decide) ⟨.int (lo+i),H,I1,⟨t,?_⟩,⟨rfl,rfl⟩,st',λb hb=>(hf b hb).1⟩⟩
  rw[Int.mul_one]
 done:=by
  intro X hP hw hK hc i pins s σ H E I hf st hg;subst hP hw hK;obtain⟨f0,f1,f2,f3,f4,f5⟩:=hf it (by simp);exact wpAny_pyNext_range_end (I.ok.hd hc) st (by have:n<=i:=hg;omega) λh' eb=>⟨rfl,I.turned (t':=s.toks) (λb o hb e=>eb b o hb e) f0 f1 f3 f4 f5⟩
 self:=λ_ _ _ _ _ st h=>wpAny_pyIter_rangeiter st h
section
variable{X:Cx}{tg:Expr}
def Ai(K:FG)(tl:TE):TI:=λσ H R=>tl σ H λx H1=>∃a,x=.ref a/\(∃xs,SqL K H1 a xs)/\R (mV K a) H1
def HK(K:FG)(tl:TE):TI:=λσ H R=>tl σ H λx H1=>∃a,x=.ref a/\(∃xs,SqT K H1 a xs)/\R (nF K a) H1
theorem M1{l:Expr}{tl:TE}(hl:PE X l tl):PI X tg l (Ai X.K tl):=by
 intro pins s σ H R I h;refine eX (hl pins s σ H _ I h) λv s1 ⟨x,H1,I1,r1,q1⟩=>?_;obtain⟨a,e,⟨xs,hq⟩,q⟩:=q1;subst e;cases r1;obtain⟨its,rv,p,hz⟩:=I1.list hq;refine wpAny_pyIter_list p.isList ?_;refine⟨s1.heap.objs.size,[s1.heap.objs.size],_,_,H1,rfl,I1.kept (t':=s1.toks) λb o e=>bD _ e,XO a _,⟨_,bO _ rfl,rfl,rfl⟩,λb hb=>?_,q⟩;have e:b=s1.heap.objs.size:=by simpa using hb
 subst e;exact I1.fpOk (aX _) (I1.hok.fresh (aX _))
theorem Xm{l:Expr}{tl:TE}(hl:PE X l tl):PI X tg l (HK X.K tl):=by
 intro pins s σ H R I h;refine eX (hl pins s σ H _ I h) λv s1 ⟨x,H1,I1,r1,q1⟩=>?_;obtain⟨a,e,⟨xs,hq⟩,q⟩:=q1;subst e;cases r1;obtain⟨its,rv,p,hz⟩:=I1.tuple hq;refine wpAny_pyIter_tuple (show s1.heap.IsTuple a its.toArray from p) ?_;refine⟨s1.heap.objs.size,[s1.heap.objs.size],_,_,H1,rfl,I1.kept (t':=s1.toks) λb o e=>bD _ e,QU a _,⟨_,bO _ rfl,rfl,rfl⟩,λb hb=>?_,q⟩;have e:b=s1.heap.objs.size:=by simpa using hb
 subst e;exact I1.fpOk (aX _) (I1.hok.fresh (aX _))
theorem KJ{pins:List (Addr×Obj)}{σ:St}{H:Hp}{s:Shared}{R:It->Hp->Prop}{E:Value->Shared->Prop}{lo hi:Int}{t u v:Tok}{tk:Nat}(I:Inv X pins σ H s)(h1: -(2^62)<=lo)(h2:lo<2^62)(h3: -(2^62)<=hi)(h4:hi<2^62)
  (q:R (lT lo (hi-lo).toNat) H):wpAny (model X.prog X.w) X.A (pyIter (.ref s.heap.objs.size)) (Jd X pins σ tg R) E {s with heap:=s.heap.push {cls:=.type "range",data:=.fields #[.int lo t,.int hi u,.int 1 v]},toks:=tk}:=by
 refine wpAny_pyIter_range (IsRange.new ..) (small_one h1 h2 h3 h4) ?_;have I1:Inv X pins σ H {s with heap:=s.heap.push {cls:=.type "range",data:=.fields #[.int lo t,.int hi u,.int 1 v]},toks:=tk}:=I.kept λb o e=>bD _ e;refine⟨(s.heap.push {cls:=.type "range",data:=.fields #[.int lo t,.int hi u,.int 1 v]}).objs.size,[(s.heap.push {cls:=.type "range",data:=.fields #[.int lo t,.int hi u,.int 1 v]}).objs.size],_,_,H,rfl,
  I1.kept (t':=tk) λb o e=>bD _ e,LA _ lo (hi-lo).toNat,?_,λb hb=>?_,q⟩
 ·have e1:lo+((0:Nat):Int)*1=lo:=by simp
  have e2:(((hi-lo).toNat:Nat):Int)-((0:Nat):Int)=Builtin.Range.rangeSize lo hi 1:=by rw[rangeSize_one];split<;>omega
  show IsRangeIter _ _ (lo+((0:Nat):Int)*1) ((((hi-lo).toNat:Nat):Int)-((0:Nat):Int)) 1;rw[e1,e2];exact bO _ rfl
 ·have e:b=(s.heap.push {cls:=.type "range",data:=.fields #[.int lo t,.int hi u,.int 1 v]}).objs.size:=by simpa using hb
  subst e;exact I1.fpOk (aX _) (I1.hok.fresh (aX _))
def Gg(ta:TA):TI:=λσ H R=>ta σ H λvs H1=>∃j:Int,vs=[.int j]/\ -(2^62)<=j/\j<2^62/\R (lT 0 j.toNat) H1
def F2(ta:TA):TI:=λσ H R=>ta σ H λvs H1=>∃i j:Int,vs=[.int i,.int j]/\(-(2^62)<=i/\i<2^62/\ -(2^62)<=j/\j<2^62)/\R (lT i (j-i).toNat) H1
theorem OI{a:Expr}{ta:TA}{p pos:Pos}(hg:Gl X "range")(hm:X.mg "range"=none)(ha:PA X [a] ta)(hs:starEach [a] X.env=[(false,eval a X.env)]:=by rfl):PI X tg (.Call (.Name "range" p) [a] [] pos) (Gg ta):=by
 intro pins s σ H R I h;refine Call_ (nz I hg hm boot_range (PyProof.Rows.callWith_type1 (eX (ha pos pins s σ H _ I h) λus s1 ⟨vs,H1,I1,r1,q1⟩=>?_) hs rfl));obtain⟨j,e,q1,q2,q⟩:=q1;subst e;cases r1 with
 |cons r rr=>
  cases rr;obtain⟨t,rfl⟩:=r;exact call_range_1 (KJ I1 ⋯ ⋯ q1 q2 (by simpa using q))
theorem S8{a b:Expr}{ta:TA}{p pos:Pos}(hg:Gl X "range")(hm:X.mg "range"=none)(ha:PA X [a,b] ta)(hs:starEach [a,b] X.env=[(false,eval a X.env),(false,eval b X.env)]:=by rfl)(hs2:starEach [b] X.env=[(false,eval b X.env)]:=by rfl):
  PI X tg (.Call (.Name "range" p) [a,b] [] pos) (F2 ta):=by
 intro pins s σ H R I h;refine Call_ (nz I hg hm boot_range (PyProof.Rows.callWith_type1 (eX (ha pos pins s σ H _ I h) λus s1 ⟨vs,H1,I1,r1,q1⟩=>?_) (by rw[hs,hs2]) (by rw[hs2];rfl)));obtain⟨i,j,e,⟨q1,q2,q3,q4⟩,q⟩:=q1;subst e;cases r1 with
 |cons r rr=>
  cases rr with
  |cons r' rr=>
   cases rr;obtain⟨t,rfl⟩:=r;obtain⟨t',rfl⟩:=r';exact call_range_2 (KJ I1 q1 q2 q3 q4 q)
def He(wi:TI)(g:TG)(tb:TS):TS:=λD σ H=>wi σ H λJ H1=>∃W:Nat->Nat->St->Hp->Prop,(∃m,W 0 m σ H1)/\∀i m σ H,W i m σ H->
 (J.stop i H/\D.nx σ H)∨(J.go i H/\∃N:St->Hp->Prop,(∀σ' H',N σ' H'->∃m',m'<m/\W (i+1) m' σ' H')/\∀x H',J.yld i H x H'->g x σ H' λσ2 H2=>tb {D with nx:=N,ct:=N,bk:=D.nx} σ2 H2)
noncomputable def pG(fp:List Addr)(h:Heap):List (Addr×Obj):=fp.filterMap λb=>(h.get? b).map λo=>(b,o)
theorem rK{fp:List Addr}{h:Heap}{b:Addr}{o:Obj}(hb:b∈fp)(e:h.get? b=some o):(b,o)∈pG fp h:=List.mem_filterMap.mpr ⟨b,hb,by rw[e];rfl⟩
theorem YQ{fp:List Addr}{h:Heap}{p:Addr×Obj}(hp:p∈pG fp h):p.1∈fp/\h.get? p.1=some p.2:=by
 obtain⟨b,hb,e⟩:=List.mem_filterMap.mp hp;cases q:h.get? b with
 |none=>rw[q] at e;cases e
 |some o=>
  rw[q] at e;have e':(b,o)=p:=bG e;subst e';exact⟨hb,q⟩
theorem Inv.pinned{pins:List (Addr×Obj)}{σ:St}{H:Hp}{s:Shared}{fp:List Addr}(I:Inv X pins σ H s)(hf:∀b∈fp,jM X pins H b)(ho:∀b∈fp,∃o,s.heap.get? b=some o/\∀v,o.data≠ .cell v):Inv X (pins++pG fp s.heap) σ H s:=
 I.pins_of λp hp=>(b8.mp hp).elim (λz=>I.pin p (cH _ z)) λz=>by
  obtain⟨hb,e⟩:=YQ z;obtain⟨f0,f1,f2,_⟩:=hf p.1 hb;obtain⟨o,e',d⟩:=ho p.1 hb;rw[e] at e';cases e';exact⟨e,f0,f1,f2,d⟩
theorem Inv.unpinned{pins pl:List (Addr×Obj)}{σ:St}{H:Hp}{s:Shared}(I:Inv X (pins++pl) σ H s):Inv X pins σ H s:=I.pins_of λp hp=>I.pin p (cH _ (List.mem_append_left _ hp))
theorem aJR{iter:Expr}{body:List Stmt}{wi:TI}{g:TG}{tb:TS}{pos:Pos}(hp:PassesOwn (model X.prog X.w) X.A X.env X.xe)(hc:X.calm=true)(hi:PI X tg iter wi)(hg:PG X tg g)(hb:PSs X body tb)
  (hs:∀x,foldedSetIterable iter X.env x=pure x:=by intro _;rfl):PS X (.For tg iter body [] pos) (He wi g tb):=by
 intro pins s σ H D I h;refine wpAny_For (eX (hi pins s σ H _ I h) λv s1 h1=>eX h1 λitv s2 h2=>?_) hs;obtain⟨it,fp,tn,J,H2,e,I2,T,st2,f2,W,⟨m0,w0⟩,turn⟩:=h2;subst e
 -- what stays true of the iterator's objects through the loop
 have stat:∀{H':Hp},(∀b∈fp,H' b=none)->∀b∈fp,jM X pins H' b:=λhn b hb=>⟨hn b hb,(f2 b hb).2⟩;refine codeAny_forLoop_any (λn s'=>∃i σ' H',Inv X pins σ' H' s'/\tn i s'.heap/\(∀b∈fp,H' b=none)/\W i n σ' H') ?_ m0 ⟨0,σ,H2,I2,st2,λb hb=>(f2 b hb).1,w0⟩;rintro n s3 ⟨i,σ3,H3,I3,st3,fr3,w3⟩;rcases turn i n σ3 H3 w3 with ⟨stop,qn⟩ | ⟨go,N,hN,step⟩
 ·refine dH hp (eX (T.done X rfl rfl rfl hc i pins s3 σ3 H3 X.xe I3 (stat fr3) st3 stop) λr s4 ⟨hr,I4⟩=>?_);subst hr;exact wpAny_execs_nil ⟨σ3,H3,I4,qn⟩
 ·refine dH hp (eX (T.item X rfl rfl rfl hc i pins s3 σ3 H3 X.xe I3 (stat fr3) st3 go) λr s4 ⟨u,hr,h4⟩=>?_);subst hr;refine dH hp (eX h4 λ_ s5 ⟨x,H5,I5,r5,y5,st5,fr5⟩=>?_);have I5':=I5.pinned (stat fr5) (T.obj _ _ st5);refine dH hp (eX (hg _ s5 σ3 H5 x u _ I5' r5 (step x H5 y5)) λ_ s6 ⟨σ6,H6,I6,q6⟩=>?_);refine dH hp (eX (hb _ s6 σ6 H6 _ I6 q6) λf s7 q7=>?_);have again:∀{σ7:St} {H7:Hp},Inv X (pins++pG fp s5.heap) σ7 H7 s7->N σ7 H7->∃m,m<n/\∃i σ' H',Inv X pins σ' H' s7/\tn i s7.heap/\(∀b∈fp,H' b=none)/\W i m σ' H':=λ{σ7 H7} I7 n7=>by
   obtain⟨m',hm,w7⟩:=hN σ7 H7 n7;refine⟨m',hm,i+1,σ7,H7,I7.unpinned,T.keep _ _ _ st5 λb hb o e=>(I7.pin (b,o) (cH _ (cH _ (rK hb e)))).1,λb hb=>?_,w7⟩;obtain⟨o,e,d⟩:=T.obj _ _ st5 b hb;exact (I7.pin (b,o) (cH _ (cH _ (rK hb e)))).2.1
  cases f with
  |next=>obtain⟨σ7,H7,I7,n7⟩:=q7;exact again I7 n7
  |cont=>obtain⟨σ7,H7,I7,n7⟩:=q7;exact again I7 n7
  |brk=>obtain⟨σ7,H7,I7,q7⟩:=q7;exact⟨σ7,H7,I7.unpinned,q7⟩
  |ret v=>obtain⟨x7,σ7,H7,I7,r7,q7⟩:=q7;exact⟨x7,σ7,H7,I7.unpinned,r7,q7⟩
end
theorem mw{K:FG}{a:Addr}{xs:List V}{g:TG}{tb:TS}{D:ic}{σ:St}{H:Hp}(Pv:Nat->St->Hp->Prop)(h0:Pv 0 σ H)(hl:∀i σ H,i<=xs.length->Pv i σ H->SqL K H a xs)
  (hs:∀i x σ H,xs[i]? =some x->Pv i σ H->g x σ H λσ2 H2=>tb {D with nx:=Pv (i+1),ct:=Pv (i+1),bk:=D.nx} σ2 H2) (hd:∀σ H,Pv xs.length σ H->D.nx σ H):
  ∃W:Nat->Nat->St->Hp->Prop,(∃m,W 0 m σ H)/\∀i m σ H,W i m σ H->
   ((mV K a).stop i H/\D.nx σ H)∨((mV K a).go i H/\∃N:St->Hp->Prop,(∀σ' H',N σ' H'->∃m',m'<m/\W (i+1) m' σ' H')/\∀x H',(mV K a).yld i H x H'->g x σ H' λσ2 H2=>tb {D with nx:=N,ct:=N,bk:=D.nx} σ2 H2):=by
 refine⟨λi m σ H=>m=xs.length-i/\i<=xs.length/\Pv i σ H,⟨xs.length,by simp,bK _,h0⟩,?_⟩;rintro i m σ H ⟨rfl,hi,p⟩;have q:=hl i σ H hi p;by_cases hlt:i<xs.length
 ·refine .inr ⟨⟨xs,xs[i],q,by simp[hlt]⟩,Pv (i+1),λσ' H' p'=>⟨xs.length-(i+1),⋯,rfl,hlt,p'⟩,λx H' y=>?_⟩;obtain⟨e,y⟩:=y;subst e;exact hs i x σ _ (y xs q) p
 ·have e:i=xs.length:=⋯;subst e;exact .inl ⟨⟨xs,q,aX _⟩,hd σ H p⟩
theorem pQ{K:FG}{a:Addr}{xs:List V}{g:TG}{tb:TS}{D:ic}{σ:St}{H:Hp}(Pv:Nat->St->Hp->Prop)(h0:Pv 0 σ H)(hl:∀i σ H,i<=xs.length->Pv i σ H->SqT K H a xs)
  (hs:∀i x σ H,xs[i]? =some x->Pv i σ H->g x σ H λσ2 H2=>tb {D with nx:=Pv (i+1),ct:=Pv (i+1),bk:=D.nx} σ2 H2) (hd:∀σ H,Pv xs.length σ H->D.nx σ H):
  ∃W:Nat->Nat->St->Hp->Prop,(∃m,W 0 m σ H)/\∀i m σ H,W i m σ H->
   ((nF K a).stop i H/\D.nx σ H)∨((nF K a).go i H/\∃N:St->Hp->Prop,(∀σ' H',N σ' H'->∃m',m'<m/\W (i+1) m' σ' H')/\∀x H',(nF K a).yld i H x H'->g x σ H' λσ2 H2=>tb {D with nx:=N,ct:=N,bk:=D.nx} σ2 H2):=by
 refine⟨λi m σ H=>m=xs.length-i/\i<=xs.length/\Pv i σ H,⟨xs.length,by simp,bK _,h0⟩,?_⟩;rintro i m σ H ⟨rfl,hi,p⟩;have q:=hl i σ H hi p;by_cases hlt:i<xs.length
 ·refine .inr ⟨⟨xs,xs[i],q,by simp[hlt]⟩,Pv (i+1),λσ' H' p'=>⟨xs.length-(i+1),⋯,rfl,hlt,p'⟩,λx H' y=>?_⟩;obtain⟨e,y⟩:=y;subst e;exact hs i x σ _ (y xs q) p
 ·have e:i=xs.length:=⋯;subst e;exact .inl ⟨⟨xs,q,aX _⟩,hd σ H p⟩
theorem vn{lo:Int}{n:Nat}{g:TG}{tb:TS}{D:ic}{σ:St}{H:Hp}(Pv:Nat->St->Hp->Prop)(h0:Pv 0 σ H)
  (hs:∀i σ H,i<n->Pv i σ H->g (.int (lo+i)) σ H λσ2 H2=>tb {D with nx:=Pv (i+1),ct:=Pv (i+1),bk:=D.nx} σ2 H2) (hd:∀σ H,Pv n σ H->D.nx σ H):
  ∃W:Nat->Nat->St->Hp->Prop,(∃m,W 0 m σ H)/\∀i m σ H,W i m σ H->
   ((lT lo n).stop i H/\D.nx σ H)∨((lT lo n).go i H/\∃N:St->Hp->Prop,(∀σ' H',N σ' H'->∃m',m'<m/\W (i+1) m' σ' H')/\∀x H',(lT lo n).yld i H x H'->g x σ H' λσ2 H2=>tb {D with nx:=N,ct:=N,bk:=D.nx} σ2 H2):=by
 refine⟨λi m σ H=>m=n-i/\i<=n/\Pv i σ H,⟨n,by simp,bK _,h0⟩,?_⟩;rintro i m σ H ⟨rfl,hi,p⟩;by_cases hlt:i<n
 ·refine .inr ⟨hlt,Pv (i+1),λσ' H' p'=>⟨n-(i+1),⋯,rfl,hlt,p'⟩,λx H' y=>?_⟩;obtain⟨e,y⟩:=y;subst e y;exact hs i σ _ hlt p
 ·have e:i=n:=⋯;subst e;exact .inl ⟨aX _,hd σ H p⟩
noncomputable abbrev R2:=V->V->Hp->VK->Prop
def gG(X:Cx)(f:Value->Value->Sem Value)(r:R2):Prop:=
 ∀(pins:List (Addr×Obj)) (s:Shared) (σ:St) (H:Hp) (x y:V) (v u:Value) (Q:VK),Inv X pins σ H s->RelV x v->RelV y u->r x y H Q->
  wpAny (model X.prog X.w) X.A (f v u) (EP X pins σ Q) X.xe s
def oI(X:Cx)(f:Value->Sem Value)(r:V->Hp->VK->Prop):Prop:=
 ∀(pins:List (Addr×Obj)) (s:Shared) (σ:St) (H:Hp) (x:V) (v:Value) (Q:VK),Inv X pins σ H s->RelV x v->r x H Q->
  wpAny (model X.prog X.w) X.A (f v) (EP X pins σ Q) X.xe s
def j2(X:Cx)(f:Value)(r:List V->Hp->VK->Prop):Prop:=
 ∀(pins:List (Addr×Obj)) (s:Shared) (σ:St) (H:Hp) (xs:List V) (us:List Value) (Q:VK),Inv X pins σ H s->Vals xs us->r xs H Q->
  wpAny (model X.prog X.w) X.A (call f us) (EP X pins σ Q) X.xe s
def mq(r:R2)(ta tb:TE):TE:=λσ H Q=>ta σ H λx H1=>tb σ H1 λy H2=>r x y H2 Q
def GI(r:V->Hp->VK->Prop)(ta:TE):TE:=λσ H Q=>ta σ H λx H1=>r x H1 Q
inductive XIc (C:Int->Int->Prop) (g:Int->Int->V) (x y:V) (H:Hp) (Q:VK):Prop
 |mk (i j:Int) (a:x=.int i) (b:y=.int j) (c:C i j) (r:Q (g i j) H)
def rI(C:Int->Int->Prop)(g:Int->Int->V):R2:=XIc C g
inductive Lv (g:Int->Int->V) (x y:V) (H:Hp) (Q:VK):Prop
 |mk (i j:Int) (a:x=.int i) (b:y=.int j) (r:Q (g i j) H)
def iI(g:Int->Int->V):R2:=Lv g
inductive W3 (g:Int->V) (x:V) (H:Hp) (Q:VK):Prop
 |mk (i:Int) (a:x=.int i) (r:Q (g i) H)
def rU(g:Int->V):V->Hp->VK->Prop:=W3 g
section
variable{X:Cx}{a b c:Expr}{ta tb tc:TE}{pos:Pos}
theorem wY(ha:PE X a ta)(hb:PE X b tb){pins:List (Addr×Obj)}{s:Shared}{σ:St}{H:Hp}{R:V->V->Hp->Prop}(I:Inv X pins σ H s)
  (h:ta σ H λx H1=>tb σ H1 λy H2=>R x y H2) {Q:Value->Shared->Prop} {f:Value->Value->Sem Value}
  (hf:∀v u s2 x y H2,Inv X pins σ H2 s2->RelV x v->RelV y u->R x y H2->wpAny (model X.prog X.w) X.A (f v u) Q X.xe s2):
  wpAny (model X.prog X.w) X.A (eval a X.env) (λv s₁=>wpAny (model X.prog X.w) X.A (eval b X.env) (λu s₂=>wpAny (model X.prog X.w) X.A (f v u) Q X.xe s₂) X.xe s₁) X.xe s:=by
 refine eX (ha pins s σ H _ I h) λv s1 ⟨x,H1,I1,r1,q1⟩=>?_;refine eX (hb pins s1 σ H1 _ I1 q1) λu s2 ⟨y,H2,I2,r2,q2⟩=>?_;exact hf v u s2 x y H2 I2 r1 r2 q2
theorem Ro{op:Operator}{r:R2}(ho:gG X (binaryOp op) r)(ha:PE X a ta)(hb:PE X b tb):PE X (.BinOp a op b pos) (mq r ta tb):=by
 intro pins s σ H Q I h;exact wpAny_BinOp (wY ha hb I h λv u s2 x y H2 I2 rx ry q=>ho pins s2 σ H2 x y v u Q I2 rx ry q)
theorem MU{op:UnaryOp}{r:V->Hp->VK->Prop}(ho:oI X (unaryOp op) r)(ha:PE X a ta):PE X (.UnaryOp op a pos) (GI r ta):=by
 intro pins s σ H Q I h;exact UnaryOp_ (eX (ha pins s σ H _ I h) λv s1 ⟨x,H1,I1,r1,q1⟩=>ho pins s1 σ H1 x v Q I1 r1 q1)
theorem mJ{f:Value->Value->Sem Value}{C:Int->Int->Prop}{g:Int->Int->Int}
  (rule:∀(i j:Int) (t u:Tok) (s:Shared) (Q:Value->Shared->Prop) (E:Value->Shared->Prop),C i j->Q (.int (g i j) s.toks) {s with toks:=s.toks+1}->wpAny (model X.prog X.w) X.A (f (.int i t) (.int j u)) Q E s):
  gG X f (rI C λi j=>.int (g i j)):=by
 intro pins s σ H x y v u Q I rx ry h;obtain⟨i,j,rfl,rfl,hc,q⟩:=h;obtain⟨t,rfl⟩:=rx;obtain⟨t',rfl⟩:=ry;exact rule i j t t' s _ _ hc ⟨.int (g i j),H,I.tok _,⟨()⟩,q⟩
theorem pe{f:Value->Value->Sem Value}{g:Int->Int->Int}
  (rule:∀(i j:Int) (t u:Tok) (s:Shared) (Q:Value->Shared->Prop) (E:Value->Shared->Prop),Q (.int (g i j) s.toks) {s with toks:=s.toks+1}->wpAny (model X.prog X.w) X.A (f (.int i t) (.int j u)) Q E s):
  gG X f (iI λi j=>.int (g i j)):=by
 intro pins s σ H x y v u Q I rx ry h;obtain⟨i,j,rfl,rfl,q⟩:=h;obtain⟨t,rfl⟩:=rx;obtain⟨t',rfl⟩:=ry;exact rule i j t t' s _ _ ⟨.int (g i j),H,I.tok _,⟨()⟩,q⟩
theorem sj{f:Value->Value->Sem Value}{g:Int->Int->Bool}
  (rule:∀(i j:Int) (t u:Tok) (s:Shared) (Q:Value->Shared->Prop) (E:Value->Shared->Prop),Q (.bool (g i j)) s->wpAny (model X.prog X.w) X.A (f (.int i t) (.int j u)) Q E s):
  gG X f (iI λi j=>.bl (g i j)):=by
 intro pins s σ H x y v u Q I rx ry h;obtain⟨i,j,rfl,rfl,q⟩:=h;obtain⟨t,rfl⟩:=rx;obtain⟨t',rfl⟩:=ry;exact rule i j t t' s _ _ ⟨.bl (g i j),H,I,rfl,q⟩
def HR(i j:Int):Prop:=0<j/\j<1073741824
def qW(i j:Int):Prop:=0<=j/\j<=1000000/\i.natAbs<2^64
def CMul(i j:Int):Prop:=(-(2^64)<i/\i<2^64)∨(-(2^64)<j/\j<2^64)
theorem CMul.ok{i j:Int}(h:CMul i j):IntMulOk i j:=by
 rcases h with ⟨h1,h2⟩ | ⟨h1,h2⟩
 ·exact .of_left (intBits_le_64 h1 h2)
 ·exact .of_right (intBits_le_64 h1 h2)
theorem axW(k:Nat):(0:Int)<=2^k:=by
 rw[two_pow_cast];exact cZ _
theorem OM:gG X (binaryOp .Add) (iI λi j=>.int (i+j)):=pe λ_ _ _ _ _ _ _ q=>add_int q
theorem Sj:gG X (binaryOp .Sub) (iI λi j=>.int (i-j)):=pe λ_ _ _ _ _ _ _ q=>sub_int q
theorem N6:gG X (binaryOp .Mult) (rI CMul λi j=>.int (i*j)):=mJ λ_ _ _ _ _ _ _ hc q=>mul_int q hc.ok
theorem aE7:gG X (binaryOp .FloorDiv) (rI HR λi j=>.int (i / j)):=mJ λi j _ _ _ _ _ hc q=>by
 have h1:(0:Int)<j:=hc.1;have h2:j<1073741824:=hc.2;exact floordiv_int ⋯ (by rw[Int.fdiv_eq_ediv_of_nonneg i ⋯];exact q) (.inl (PyProof.noPylong_small ⋯))
theorem S4:gG X (binaryOp .Mod) (rI (λ_ j=>0<j) λi j=>.int (i%j)):=mJ λi j _ _ _ _ _ hc q=>by
 have h1:(0:Int)<j:=hc;exact mod_int' ⋯ (by rw[Int.fmod_eq_emod_of_nonneg i ⋯];exact q)
theorem aJE:gG X (binaryOp .Pow) (rI qW λi j=>.int (i^j.toNat)):=mJ λ_ _ _ _ _ _ _ hc q=>pow_int_small hc.1 hc.2.1 hc.2.2 q
theorem RP:gG X (binaryOp .LShift) (rI qW λi j=>.int (i*2^j.toNat)):=mJ λ_ _ _ _ _ _ _ hc q=>lshift_int_small hc.1 hc.2.1 hc.2.2 q
theorem NG:gG X (binaryOp .RShift) (rI (λ_ j=>0<=j) λi j=>.int (i / 2^j.toNat)):=mJ λi j _ _ _ _ _ hc q=>
 rshift_int hc (by rw[Int.fdiv_eq_ediv_of_nonneg i (axW _)];exact q)
theorem aI9:gG X (binaryOp .BitAnd) (iI λi j=>.int (Builtin.bitAnd i j)):=pe λ_ _ _ _ _ _ _ q=>and_int q
theorem Sg:gG X (binaryOp .BitOr) (iI λi j=>.int (Builtin.bitOr i j)):=pe λ_ _ _ _ _ _ _ q=>or_int q
theorem X7:gG X (binaryOp .BitXor) (iI λi j=>.int (Builtin.bitXor i j)):=pe λ_ _ _ _ _ _ _ q=>xor_int q
theorem Jj{f:Value->Sem Value}{g:Int->Int}
  (rule:∀(i:Int) (t:Tok) (s:Shared) (Q:Value->Shared->Prop) (E:Value->Shared->Prop),Q (.int (g i) s.toks) {s with toks:=s.toks+1}->wpAny (model X.prog X.w) X.A (f (.int i t)) Q E s):
  oI X f (rU λi=>.int (g i)):=by
 intro pins s σ H x v Q I rx h;obtain⟨i,rfl,q⟩:=h;obtain⟨t,rfl⟩:=rx;exact rule i t s _ _ ⟨.int (g i),H,I.tok _,⟨()⟩,q⟩
theorem Sf:oI X (unaryOp .USub) (rU λi=>.int (-i)):=Jj λ_ _ _ _ _ q=>neg_int q
theorem aH7:oI X (unaryOp .Invert) (rU λi=>.int (Builtin.bitNot i)):=Jj λ_ _ _ _ _ q=>invert_int q
end
noncomputable def I0:V->V->Bool
 |.non,.non=>true | .non,.int _=>true | .int _,.non=>true | .non,.bl _=>true | .bl _,.non=>true | .non,.str _=>true | .str _,.non=>true
 |.int _,.int _=>true | .bl _,.bl _=>true | .str _,.str _=>true | .byt _,.byt _=>true
 |.int _,.str _=>true | .str _,.int _=>true | .bl _,.str _=>true | .str _,.bl _=>true
 |_,_=>false
inductive Nn (x y:V) (H:Hp) (Q:VK):Prop
 |mk (s:I0 x y=true) (r:Q (.bl (decide (x=y))) H)
def Ef:R2:=Nn
inductive Tj (x y:V) (H:Hp) (Q:VK):Prop
 |mk (s:I0 x y=true) (r:Q (.bl (!decide (x=y))) H)
def E6:R2:=Tj
theorem Ha{i j:Int}:decide (V.int i=V.int j)=(i==j):=by
 rw[cS];simp
theorem Eu{i j:Bool}:decide (V.bl i=V.bl j)=(i==j):=by
 rw[cS];simp
theorem K7{i j:Str}:decide (V.str i=V.str j)=(i==j):=by
 rw[cS];simp
theorem FH{i j:Array UInt8}:decide (V.byt i=V.byt j)=(i.toList==j.toList):=by
 rw[cS];cases i;cases j;simp
section
variable{X:Cx}{a b c:Expr}{ta tb tc:TE}{pos:Pos}
theorem gU{pins:List (Addr×Obj)}{σ:St}{H:Hp}{s:Shared}{Q:VK}{k k':Bool}(I:Inv X pins σ H s)(q:Q (.bl k) H)(e:k=k'):EP X pins σ Q (.bool k') s:=by
 subst e;exact⟨.bl k,H,I,rfl,q⟩
theorem MX:gG X (compareOp .Eq) Ef:=by
 intro pins s σ H x y v u Q I rx ry h;obtain⟨hs,q⟩:=h;cases x with
 |non=>
  cases rx;cases y with
  |non=>cases ry;exact PySem.EqNone.eq_none_none (gU I q (by simp))
  |bl j=>cases ry;exact PySem.EqNone.eq_none_bool (gU I q (by simp))
  |int j=>obtain⟨t',rfl⟩:=ry;exact PySem.EqNone.eq_none_int (gU I q (by simp))
  |str j=>obtain⟨t',rfl⟩:=ry;exact PySem.EqNone.eq_none_str (gU I q (by simp))
  |_=>exact absurd (show false=true from hs) bF
 |bl i=>
  cases rx;cases y with
  |non=>cases ry;exact PySem.EqNone.eq_bool_none (gU I q (by simp))
  |bl j=>cases ry;exact eq_bool (gU I q Eu)
  |str j=>obtain⟨t',rfl⟩:=ry;exact PySem.EqMixed.eq_bool_str (gU I q (by simp))
  |_=>exact absurd (show false=true from hs) bF
 |int i=>
  obtain⟨t,rfl⟩:=rx;cases y with
  |non=>cases ry;exact PySem.EqNone.eq_int_none (gU I q (by simp))
  |int j=>obtain⟨t',rfl⟩:=ry;exact eq_int (gU I q Ha)
  |str j=>obtain⟨t',rfl⟩:=ry;exact PySem.EqMixed.eq_int_str (gU I q (by simp))
  |_=>exact absurd (show false=true from hs) bF
 |str i=>
  obtain⟨t,rfl⟩:=rx;cases y with
  |non=>cases ry;exact PySem.EqNone.eq_str_none (gU I q (by simp))
  |bl j=>cases ry;exact PySem.EqMixed.eq_str_bool (gU I q (by simp))
  |int j=>obtain⟨t',rfl⟩:=ry;exact PySem.EqMixed.eq_str_int (gU I q (by simp))
  |str j=>obtain⟨t',rfl⟩:=ry;exact eq_str (gU I q K7)
  |_=>exact absurd (show false=true from hs) bF
 |byt i=>
  obtain⟨t,rfl⟩:=rx;cases y with
  |byt j=>obtain⟨t',rfl⟩:=ry;exact PySem.W.eq_bytes (gU I q FH)
  |_=>exact absurd (show false=true from hs) bF
 |_=>cases y<;>exact absurd (show false=true from hs) bF
theorem Nd:gG X (compareOp .NotEq) E6:=by
 intro pins s σ H x y v u Q I rx ry h;obtain⟨hs,q⟩:=h;cases x with
 |non=>
  cases rx;cases y with
  |non=>cases ry;exact PySem.EqNone.ne_none_none (gU I q (by simp))
  |bl j=>cases ry;exact PySem.EqNone.ne_none_bool (gU I q (by simp))
  |int j=>obtain⟨t',rfl⟩:=ry;exact PySem.EqNone.ne_none_int (gU I q (by simp))
  |str j=>obtain⟨t',rfl⟩:=ry;exact PySem.EqNone.ne_none_str (gU I q (by simp))
  |_=>exact absurd (show false=true from hs) bF
 |bl i=>
  cases rx;cases y with
  |non=>cases ry;exact PySem.EqNone.ne_bool_none (gU I q (by simp))
  |bl j=>cases ry;exact ne_bool (gU I q (congrArg not Eu))
  |str j=>obtain⟨t',rfl⟩:=ry;exact PySem.EqMixed.ne_bool_str (gU I q (by simp))
  |_=>exact absurd (show false=true from hs) bF
 |int i=>
  obtain⟨t,rfl⟩:=rx;cases y with
  |non=>cases ry;exact PySem.EqNone.ne_int_none (gU I q (by simp))
  |int j=>obtain⟨t',rfl⟩:=ry;exact ne_int (gU I q (congrArg not Ha))
  |str j=>obtain⟨t',rfl⟩:=ry;exact PySem.EqMixed.ne_int_str (gU I q (by simp))
  |_=>exact absurd (show false=true from hs) bF
 |str i=>
  obtain⟨t,rfl⟩:=rx;cases y with
  |non=>cases ry;exact PySem.EqNone.ne_str_none (gU I q (by simp))
  |bl j=>cases ry;exact PySem.EqMixed.ne_str_bool (gU I q (by simp))
  |int j=>obtain⟨t',rfl⟩:=ry;exact PySem.EqMixed.ne_str_int (gU I q (by simp))
  |str j=>obtain⟨t',rfl⟩:=ry;exact ne_str (gU I q (congrArg not K7))
  |_=>exact absurd (show false=true from hs) bF
 |byt i=>
  obtain⟨t,rfl⟩:=rx;cases y with
  |byt j=>obtain⟨t',rfl⟩:=ry;exact PySem.W.ne_bytes (gU I q (congrArg not FH))
  |_=>exact absurd (show false=true from hs) bF
 |_=>cases y<;>exact absurd (show false=true from hs) bF
theorem OO:gG X (compareOp .Lt) (iI λi j=>.bl (decide (i<j))):=sj λ_ _ _ _ _ _ _ q=>lt_int q
theorem aUE:gG X (compareOp .LtE) (iI λi j=>.bl (decide (i<=j))):=sj λ_ _ _ _ _ _ _ q=>le_int q
theorem Yu:gG X (compareOp .Gt) (iI λi j=>.bl (decide (j<i))):=sj λ_ _ _ _ _ _ _ q=>gt_int q
theorem aTA:gG X (compareOp .GtE) (iI λi j=>.bl (decide (j<=i))):=sj λ_ _ _ _ _ _ _ q=>ge_int q
theorem L0:gG X (compareOp .In) (λx y H Q=>∃i j,x=.str i/\y=.str j/\Q (.bl (!(Builtin.Str.occurrences j i 0 j.length 1).isEmpty)) H):=by
 intro pins s σ H x y v u Q I rx ry h;obtain⟨i,j,rfl,rfl,q⟩:=h;obtain⟨t,rfl⟩:=rx;obtain⟨t',rfl⟩:=ry;exact in_str (gU I q rfl)
theorem YF:gG X (compareOp .Is) (λx y H Q=>y=.non/\Q (.bl (decide (x=.non))) H):=by
 intro pins s σ H x y v u Q I rx ry h;obtain⟨rfl,q⟩:=h;cases ry;refine is_none_gen (gU I q ?_);cases x<;>first
  |(cases rx;rfl)
  |(obtain⟨t,rfl⟩:=rx;rfl)
theorem Vp:gG X (compareOp .IsNot) (λx y H Q=>y=.non/\Q (.bl (!decide (x=.non))) H):=by
 intro pins s σ H x y v u Q I rx ry h;obtain⟨rfl,q⟩:=h;cases ry;refine isnot_none_gen (gU I q ?_);cases x<;>first
  |(cases rx;rfl)
  |(obtain⟨t,rfl⟩:=rx;rfl)
theorem Hv(b:Expr){op:CmpOp}(h:op≠ .In:=by decide)(h2:op≠ .NotIn:=by decide):behindInMarks op b=false:=by
 have e1:(op==CmpOp.In)=false:=by cases op<;>first | rfl | exact absurd rfl h
 have e2:(op==CmpOp.NotIn)=false:=by cases op<;>first | rfl | exact absurd rfl h2
 cases b<;>simp[behindInMarks,e1,e2]
theorem YM{op:CmpOp}{r:R2}(ho:gG X (compareOp op) r)(ha:PE X a ta)(hb:PE X b tb)(hm:behindInMarks op b=false):PE X (.Compare a [op] [b] pos) (mq r ta tb):=by
 intro pins s σ H Q I h;exact wpAny_Compare1 (wY ha hb I h λv u s2 x y H2 I2 rx ry q=>ho pins s2 σ H2 x y v u Q I2 rx ry q) hm
def sy(t:TE):TT:=λσ H Q=>t σ H λx H'=>oO x H' Q
theorem Qm{op:CmpOp}{r:R2}(ho:gG X (compareOp op) r)(ha:PE X a ta)(hb:PE X b tb)(hm:behindInMarks op b=false):PT X (.Compare a [op] [b] pos) (sy (mq r ta tb)):=by
 intro pins s σ H Q I h;refine wpAny_isTrue_Compare1 (eX (ha pins s σ H _ I h) λv s1 ⟨x,H1,I1,r1,q1⟩=>eX (hb pins s1 σ H1 _ I1 q1) λu s2 ⟨y,H2,I2,r2,q2⟩=>
  eX (ho pins s2 σ H2 x y v u _ I2 r1 r2 q2) λc s3 ⟨z,H3,I3,r3,k,e,q3⟩=>?_) hm
 subst e;cases r3;exact dY ⟨H3,I3,q3⟩
def qu(r r':R2)(ta tb tc:TE):TE:=λσ H Q=>ta σ H λx H1=>tb σ H1 λy H2=>r x y H2 λz H3=>∃k,z=.bl k/\
 (if k=true then tc σ H3 λw' H4=>r' y w' H4 Q else Q (.bl false) H3)
theorem M3{op op':CmpOp}{r r':R2}(ho:gG X (compareOp op) r)(ho':gG X (compareOp op') r')(ha:PE X a ta)(hb:PE X b tb)(hc:PE X c tc)
  (hm:lastMarks [op,op'] [b,c]=false:=by with_unfolding_all rfl):PE X (.Compare a [op,op'] [b,c] pos) (qu r r' ta tb tc):=by
 intro pins s σ H Q I h;refine Compare_chain (eX (ha pins s σ H _ I h) λv s1 ⟨x,H1,I1,r1,q1⟩=>chain_link (eX (hb pins s1 σ H1 _ I1 q1) λu s2 ⟨y,H2,I2,r2,q2⟩=>
  eX (ho pins s2 σ H2 x y v u _ I2 r1 r2 q2) λd s3 ⟨z,H3,I3,r3,k,e,q3⟩=>?_)) hm
 subst e;cases r3;refine dY ?_;cases k with
 |false=>exact ite_ff ⟨.bl false,H3,I3,rfl,q3⟩
 |true=>exact ite_tt (chain_last (eX (hc pins s3 σ H3 _ I3 q3) λw' s4 ⟨z',H4,I4,r4,q4⟩=>ho' pins s4 σ H4 y z' u w' Q I4 r2 r4 q4))
theorem aCI{op op':CmpOp}{r r':R2}(ho:gG X (compareOp op) r)(ho':gG X (compareOp op') r')(ha:PE X a ta)(hb:PE X b tb)(hc:PE X c tc)
  (hm:lastMarks [op,op'] [b,c]=false:=by with_unfolding_all rfl):PT X (.Compare a [op,op'] [b,c] pos) (sy (qu r r' ta tb tc)):=by
 intro pins s σ H Q I h;refine isTrue_chain (eX (ha pins s σ H _ I h) λv s1 ⟨x,H1,I1,r1,q1⟩=>test_link (eX (hb pins s1 σ H1 _ I1 q1) λu s2 ⟨y,H2,I2,r2,q2⟩=>
  eX (ho pins s2 σ H2 x y v u _ I2 r1 r2 q2) λd s3 ⟨z,H3,I3,r3,k,e,q3⟩=>?_)) hm
 subst e;cases r3;refine dY ?_;cases k with
 |false=>
  obtain⟨k',e',q'⟩:=q3;cases e';exact ite_ff ⟨H3,I3,q'⟩
 |true=>
  refine ite_tt (test_last (eX (hc pins s3 σ H3 _ I3 q3) λw' s4 ⟨z',H4,I4,r4,q4⟩=>eX (ho' pins s4 σ H4 y z' u w' _ I4 r2 r4 q4) λd' s5 ⟨z2,H5,I5,r5,k2,e2,q5⟩=>?_));subst e2;cases r5;exact dY ⟨H5,I5,q5⟩
theorem oa:(sizeLine:Nat)<2^63:=by rw[dN];decide
theorem Qi:gG X (binaryOp .Add) (λx y H Q=>∃i j,x=.str i/\y=.str j/\i.length+j.length<=sizeLine/\Q (.str (i++j)) H):=by
 intro pins s σ H x y v u Q I rx ry h;obtain⟨i,j,rfl,rfl,hz,q⟩:=h;obtain⟨t,rfl⟩:=rx;obtain⟨t',rfl⟩:=ry;exact add_str (λt' tk=>⟨.str (i++j),H,I.tok _,⟨()⟩,q⟩) hz
theorem jr{x:V}{us:List Value}(r:Vals [x] us):∃u,us=[u]/\RelV x u:=by
 cases r with
 |cons r1 r2=>cases r2;exact⟨(),r1⟩
theorem mO{x y:V}{us:List Value}(r:Vals [x,y] us):∃u w',us=[u,w']/\RelV x u/\RelV y w':=by
 cases r with
 |cons r1 r2=>
  cases r2 with
  |cons r3 r4=>cases r4;exact⟨_,(),r1,r3⟩
theorem WT:j2 X (.builtin "abs") (λxs H Q=>∃i,xs=[.int i]/\Q (.int (if i<0 then -i else i)) H):=by
 intro pins s σ H xs us Q I r h;obtain⟨i,rfl,q⟩:=h;obtain⟨u,rfl,t,rfl⟩:=jr r;exact call_abs_int λu tk=>⟨.int (if i<0 then -i else i),H,I.tok _,⟨()⟩,q⟩
theorem R1(hc:X.calm=true):j2 X (.builtin "max") (λxs H Q=>∃i j,xs=[.int i,.int j]/\Q (.int (if j>i then j else i)) H):=by
 intro pins s σ H xs us Q I r h;obtain⟨i,j,rfl,q⟩:=h;obtain⟨u,w',rfl,⟨t,rfl⟩,⟨t',rfl⟩⟩:=mO r;refine max_two_ints (I.ok.hd hc) λh' tk k=>⟨_,H,I.kept k,?_,q⟩;by_cases hj:j>i
 ·rw[if_pos hj,if_pos hj];exact⟨()⟩
 ·rw[if_neg hj,if_neg hj];exact⟨()⟩
theorem S6(hc:X.calm=true):j2 X (.builtin "min") (λxs H Q=>∃i j,xs=[.int i,.int j]/\Q (.int (if j<i then j else i)) H):=by
 intro pins s σ H xs us Q I r h;obtain⟨i,j,rfl,q⟩:=h;obtain⟨u,w',rfl,⟨t,rfl⟩,⟨t',rfl⟩⟩:=mO r;refine min_two_ints (I.ok.hd hc) λh' tk k=>⟨_,H,I.kept k,?_,q⟩;by_cases hj:j<i
 ·rw[if_pos hj,if_pos hj];exact⟨()⟩
 ·rw[if_neg hj,if_neg hj];exact⟨()⟩
theorem atF:j2 X (.type "str") (λxs H Q=>∃i,xs=[.int i]/\i.natAbs.log2<1920/\Q (.str (toString i)) H):=by
 intro pins s σ H xs us Q I r h;obtain⟨i,rfl,hz,q⟩:=h;obtain⟨u,rfl,t,rfl⟩:=jr r;exact PySem.P.str_of_int hz ⟨.str _,H,I.tok _,⟨()⟩,q⟩
end
structure ObjM(h:Heap)(x dx C:Addr)(mA:Str->Option Value):Prop where
 obj:h.get? x=some (PySem.W.instObj C dx)
 ns:h.Ns1 dx mA
 ne:dx≠x
theorem S9{h:Heap}{dx:Addr}{mA:Str->Option Value}(n:h.Ns1 dx mA):∃od,h.get? dx=some od/\∀name,PySem.W.lookIn name od=some (mA name):=by
 obtain⟨o,es,ep,ho,hd,hk,_,hm⟩:=n;refine⟨o,ho,λname=>?_⟩;have e:=hm name;unfold nsFind findBy at e;rw[←Array.find?_toList] at e;unfold PySem.W.lookIn;rw[hd];dsimp only;split
 ·rename_i y q;rw[q] at e;exact congrArg some e
 ·rename_i q;rw[q] at e;have a:es.toList.any (·.refKey)=false:=by
   rw[c5];intro y hy;obtain⟨z,t,hkey⟩:=hk y (Array.mem_toList_iff.mp hy);simp[DictEntry.refKey,hkey]
  have a':¬es.toList.any (·.refKey)=true:=by rw[a];exact bF
  rw[if_neg a'];exact congrArg some e
theorem ObjM.look{h:Heap}{x dx C:Addr}{mA:Str->Option Value}(I:ObjM h x dx C mA):∃od,PySem.W.InstAt h x (PySem.W.instObj C dx) C (some od)/\∀name,PySem.W.lookIn name od=some (mA name):=
 let ⟨od,ho,hl⟩:=S9 I.ns
 ⟨od,⟨I.obj,rfl,rfl,ho⟩,hl⟩
section
variable{prog:Program}{w:World}{A:Around}{E:Value->Shared->Prop}{s:Shared}{K:FG}{x dx C f:Addr}{mA:Str->Option Value}{name:Str}{v:Value}
theorem NK{expr:Bool}{Q:Value->Shared->Prop}(X:K.In s.heap)(I:ObjM s.heap x dx C mA)(hg:PySem.W.plainGet K C name=true)(hh:PySem.W.hasDictIn K C=true)
  (ha:PySem.W.findIn K (.ref C) name=some none) (hv:mA name=some v) (hv':PySem.W.handedIn v=true) (h:Q v {s with toks:=s.toks+1}):
  wpAny (model prog w) A (getAttr (.ref x) name expr) Q E s:=by
 obtain⟨od,J,hl⟩:=I.look;exact PySem.W.get_value X J (PySem.W.plainGet_of hg).1 (PySem.W.findObj_own hh ha rfl (by rw[hl,hv])) hv' h
theorem Lo{pl:Sem Bool}{Q:Value×List Value->Shared->Prop}(X:K.In s.heap)(I:ObjM s.heap x dx C mA)(hg:PySem.W.plainGet K C name=true)
  (hf:PySem.W.findIn K (.ref C) name=some (some (.ref f))) (ht:PySem.W.isFn K (.ref f)=true) (hv:mA name=none) (h:Q (.ref f,[.ref x]) s):
  wpAny (model prog w) A (getMethod (.ref x) name pl) Q E s:=by
 obtain⟨od,J,hl⟩:=I.look;exact PySem.W.method_fn X J (PySem.W.plainGet_of hg).1 (PySem.W.plainGet_of hg).2 hf (beq_iff_eq.mp ht) (by show (PySem.W.lookIn name od).map (·.isSome)=some false;rw[hl,hv];rfl) h
theorem ZT{ns:List Str}{Q:Unit->Shared->Prop}(X:K.In s.heap)(I:ObjM s.heap x dx C mA)
  (hs:PySem.W.findIn K (.ref C) "__setattr__"=some (some (.builtin "object.__setattr__"))) (hp:PySem.W.plainOver K C=true) (ht:PySem.W.takerIn K C name=some none) (hh:PySem.W.hasDictIn K C=true)
  (hw:PySem.Within mA ns) (hsz:ns.length<=sizeLine)
  (h:∀h',ObjM h' x dx C (λy=>if y=name then some v else mA y)->Heap.SameBut dx s.heap h'->Q () {s with heap:=h',toks:=s.toks+2}):
  wpAny (model prog w) A (setAttr (.ref x) name v) Q E s:=by
 obtain⟨od,J,hl⟩:=I.look;refine PySem.W.set_plain X J hs (PySem.W.osa_open (s:={s with toks:=s.toks+1}) (r:=none) X J hp ht λb=>?_);obtain⟨cd,hc,hd'⟩:=PySem.W.any_some hh;have hx:s.heap.get? x=some ⟨.ref C,some dx,.plain,#[]⟩:=I.obj;refine dJ (dX (dJ (dJ (wpAny_loadPart hx (dJ (PySem.W.Looks.here (s:={s with toks:=s.toks+1}) (PySem.W.looks_clsIn X hc) ?_))))));rw[hd'];refine dX (a:=some dx) (dJ (dX (dJ ?_)))
 refine wpAny_nsSet1 (s:={s with toks:=s.toks+1}) I.ns λh' hn2 hs2=>?_;obtain⟨oD,esD,epD,hoD,hdD,hcD⟩:=hn2.count (PySem.Within.cons name v hw);refine dJ (wpAny_lookBehind hoD (by rw[hdD];exact pastItsLine_dict (bV hcD (by rw[bQ];omega))) ?_);exact dX (h _ ⟨(hs2.2 _ (Ne.symm I.ne)).trans I.obj,hn2,I.ne⟩ hs2)
theorem Wl{R:Result->Shared->Prop}{vs:List Value}{kw:List (Str×Value)}(X:K.In s.heap)(hm:PySem.W.makesIn K C=true)
  (hi:PySem.W.findIn K (.ref C) "__init__"=some (some (.ref f))) (hf:PySem.W.typeIn K (.ref f)=some (.type "function"))
  (h:codeAny (model prog w) (A.under (.builtin "type.__call__" ⟨.ref C::vs,kw⟩)) (.call (.ref f) ⟨.ref (s.heap.objs.size+1)::vs,kw⟩) (PySem.W.InitBack (s.heap.objs.size+1) R)
   {s with heap:=(s.heap.push PySem.W.emptyDict).push (PySem.W.instObj C s.heap.objs.size)}):
  codeAny (model prog w) A (.call (.ref C) ⟨vs,kw⟩) R s:=by
 obtain⟨hh,g,d,t,os⟩:=s;exact PySem.W.make_core (PySem.W.makes_of X hm) (PySem.W.looks_findIn X hi) (λself=>PySem.W.bind_fn X self hf) (.inl rfl) h
theorem NR{R:Result->Shared->Prop}(X:K.In s.heap)(hm:PySem.W.makesIn K C=true)
  (hi:PySem.W.findIn K (.ref C) "__init__"=some (some (.builtin "object.__init__")))
  (hb:∀self,PySem.W.Looks (model prog w) s.heap (bindSpecial (.builtin "object.__init__") self) (.builtin "object.__init__",[self]))
  (h:codeAny (model prog w) (A.under (.builtin "type.__call__" ⟨[.ref C],[]⟩)) (.call (.builtin "object.__init__") ⟨[.ref (s.heap.objs.size+1)],[]⟩) (PySem.W.InitBack (s.heap.objs.size+1) R)
   {s with heap:=(s.heap.push PySem.W.emptyDict).push (PySem.W.instObj C s.heap.objs.size)}):
  codeAny (model prog w) A (.call (.ref C) ⟨[],[]⟩) R s:=by
 obtain⟨hh,g,d,t,os⟩:=s;exact PySem.W.make_core (PySem.W.makes_of X hm) (PySem.W.looks_findIn X hi) hb (.inr ⟨rfl,rfl⟩) h
end
noncomputable def fJ(f:Str)(v:V):List (Str×V)->List (Str×V)
 |[]=>[(f,v)]
 |(g,x)::r=>if g=f then (g,v)::r else (g,x)::fJ f v r
theorem fO(f g:Str)(v:V):∀fs:List (Str×V),(fJ f v fs).lookup g=if g=f then some v else fs.lookup g
 |[]=>by
  show List.lookup g [(f,v)]=_;by_cases h:g=f
  ·have hb:(g==f)=true:=beq_iff_eq.mpr h;simp only[List.lookup,hb,if_pos h]
  ·have hb:(g==f)=false:=beq_eq_false_iff_ne.mpr h;simp only[List.lookup,hb,if_neg h]
 |(k,x)::r=>by
  have ih:=fO f g v r;rw[show fJ f v ((k,x)::r)=(if k=f then (k,v)::r else (k,x)::fJ f v r) from rfl];by_cases hk:k=f
  ·rw[if_pos hk];by_cases h:g=k
   ·have hb:(g==k)=true:=beq_iff_eq.mpr h;simp only[List.lookup,hb,if_pos (h.trans hk)]
   ·have hb:(g==k)=false:=beq_eq_false_iff_ne.mpr h;simp only[List.lookup,hb,if_neg (λe:g=f=>h (e.trans hk.symm))]
  ·rw[if_neg hk];by_cases h:g=k
   ·have hb:(g==k)=true:=beq_iff_eq.mpr h;simp only[List.lookup,hb,if_neg (λe:g=f=>hk (h.symm.trans e))]
   ·have hb:(g==k)=false:=beq_eq_false_iff_ne.mpr h;simp only[List.lookup,hb];exact ih
theorem Cc(f:Str)(v:V):∀fs:List (Str×V),f∈(fJ f v fs).map (·.1)/\∀g,g∈fs.map (·.1)->g∈(fJ f v fs).map (·.1)
 |[]=>⟨by simp[fJ],λg h=>by simp at h⟩
 |(k,x)::r=>by
  obtain⟨i1,i2⟩:=Cc f v r;rw[show fJ f v ((k,x)::r)=(if k=f then (k,v)::r else (k,x)::fJ f v r) from rfl];by_cases hk:k=f
  ·rw[if_pos hk];subst hk;exact⟨by simp,λg h=>by simpa using h⟩
  ·rw[if_neg hk];refine⟨?_,λg h=>?_⟩
   ·rw[bM];exact bP _ i1
   ·rw[bM] at h ⊢;rcases a9.mp h with e | e
    ·exact a9.mpr (.inl e)
    ·exact bP _ (i2 g e)
theorem EK(f:Str)(v:V):∀fs:List (Str×V),(fJ f v fs).length<=fs.length+1
 |[]=>by simp[fJ]
 |(k,x)::r=>by
  have ih:=EK f v r;rw[show fJ f v ((k,x)::r)=(if k=f then (k,v)::r else (k,x)::fJ f v r) from rfl];by_cases hk:k=f
  ·rw[if_pos hk,bQ,bQ];omega
  ·rw[if_neg hk,bQ,bQ];omega
theorem RelO.some_of{v:V}{o:Option Value}(r:RelO (some v) o):∃u,o=some u/\RelV v u:=by
 cases o with
 |none=>exact (show False from r).elim
 |some u=>exact⟨u,rfl,r⟩
theorem RelO.none_of{o:Option Value}(r:RelO none o):o=none:=by
 cases o with
 |none=>rfl
 |some u=>exact (show False from r).elim
theorem azW{v:V}{u:Value}(r:RelV v u):PySem.W.handedIn u=true:=by
 cases v with
 |non=>cases (show u=Value.none from r);rfl
 |bl b=>cases (show u=Value.bool b from r);rfl
 |int i=>obtain⟨t,e⟩:=(show ∃t,u=Value.int i t from r);cases e;rfl
 |str x=>obtain⟨t,e⟩:=(show ∃t,u=Value.str x t from r);cases e;rfl
 |byt b=>obtain⟨t,e⟩:=(show ∃t,u=Value.bytes b t from r);cases e;rfl
 |flt b=>obtain⟨t,e⟩:=(show ∃t,u=Value.float b t from r);cases e;rfl
 |ref a=>cases (show u=Value.ref a from r);rfl
 |ty n=>cases (show u=Value.type n from r);rfl
section
variable{P:Program}{w:World}{H H':Hp}{h h':Heap}{a C dx:Addr}{fs fs':List (Str×V)}
theorem qf(hok:HOk P w H h)(e:H a=some (.ins C dx fs)):∃mA,ObjM h a dx C mA/\(∀f,RelO (fs.lookup f) (mA f))/\PySem.Within mA (fs.map (·.1))/\fs.length<=1000/\H dx=some (.own a):=by
 obtain⟨d,z,ne,ob,mA,n,r,q⟩:=(show ObjOk P w H h a (.ins C dx fs) from hok a _ e);exact⟨mA,⟨ob,n,ne⟩,r,q,z,d⟩
end
structure Cls(K:FG)(C:Addr):Prop where
 pg:PySem.W.plainGet K C Str.empty=true
 hd:PySem.W.hasDictIn K C=true
 po:PySem.W.plainOver K C=true
 sa:PySem.W.findIn K (.ref C) "__setattr__"=some (some (.builtin "object.__setattr__"))
theorem Cls.get{K:FG}{C:Addr}(c:Cls K C)(f:Str):PySem.W.plainGet K C f=true:=c.pg
def NoAttr(K:FG)(C:Addr)(f:Str):Prop:=PySem.W.findIn K (.ref C) f=some none
theorem NoAttr.taker{K:FG}{C:Addr}{f:Str}(n:NoAttr K C f):PySem.W.takerIn K C f=some none:=by
 unfold PySem.W.takerIn;rw[show PySem.W.findIn K (.ref C) f=some none from n];rfl
structure jG(K:FG)(C:Addr)(m:Str)(f:Addr):Prop where
 at_:PySem.W.findIn K (.ref C) m=some (some (.ref f))
 fn:PySem.W.isFn K (.ref f)=true
 kp:PySem.W.keepIn K (.ref f)=true
section
variable{X:Cx}{pins:List (Addr×Obj)}{σ:St}{H:Hp}{s:Shared}{a C dx:Addr}{fs:List (Str×V)}{f:Str}{v:V}{A:Around}{E:Value->Shared->Prop}
theorem Sw{b:Bool}{Q:Value->Shared->Prop}(I:Inv X pins σ H s)(e:H a=some (.ins C dx fs))(c:Cls X.K C)(n:NoAttr X.K C f)(l:fs.lookup f=some v)
  (h:∀u s',Inv X pins σ H s'->RelV v u->Q u s'):wpAny (model X.prog X.w) A (getAttr (.ref a) f b) Q E s:=by
 obtain⟨mA,O,r,_,_,_⟩:=qf I.hok e;obtain⟨u,hu,ru⟩:=RelO.some_of (v:=v) (o:=mA f) (by rw[←l];exact r f);exact NK I.kIn O (c.get f) c.hd n hu (azW ru) (h u _ (I.tok _) ru)
theorem Ge{m:Str}{g:Addr}{pl:Sem Bool}{Q:Value×List Value->Shared->Prop}(I:Inv X pins σ H s)(e:H a=some (.ins C dx fs))(c:Cls X.K C)(k:jG X.K C m g)(l:fs.lookup m=none)
  (h:Q (.ref g,[.ref a]) s):wpAny (model X.prog X.w) A (getMethod (.ref a) m pl) Q E s:=by
 obtain⟨mA,O,r,_,_,_⟩:=qf I.hok e;have hn:mA m=none:=RelO.none_of (by rw[←l];exact r m);exact Lo I.kIn O (c.get m) k.at_ k.fn hn h
theorem axX{y:V}{u:Value}{Q:Unit->Shared->Prop}(I:Inv X pins σ H s)(e:H a=some (.ins C dx fs))(c:Cls X.K C)(n:NoAttr X.K C f)(hl:fs.length<1000)(ry:RelV y u)
  (h:∀s',Inv X pins σ (upd H a (.ins C dx (fJ f y fs))) s'->Q () s'):wpAny (model X.prog X.w) A (setAttr (.ref a) f u) Q E s:=by
 obtain⟨mA,O,r,wi,_,ho⟩:=qf I.hok e;have hz:(fs.map (·.1)).length<=sizeLine:=by rw[aY,dN];omega
 refine ZT I.kIn O c.sa c.po n.taker c.hd wi hz λh' O' sb=>h _ ?_;have hd:∃o,h'.get? dx=some o:=let ⟨o,_,_,e',_⟩:=O'.ns;⟨o,e'⟩;refine I.write (x:=a) (e:=dx) (by rw[e];exact True.intro) (.inr ho) (λb q hb z=>(sb.2 b hb).trans z) hd ?_;refine⟨by rw[eW O.ne];exact ho,?_,O.ne,O'.obj,_,O'.ns,λg=>?_,λg hg=>?_⟩
 ·have:=EK f y fs;omega
 ·show RelO ((fJ f y fs).lookup g) (if g=f then some u else mA g);rw[fO];by_cases q:g=f
  ·rw[if_pos q,if_pos q];exact ry
  ·rw[if_neg q,if_neg q];exact r g
 ·by_cases q:g=f
  ·rw[q];exact (Cc f y fs).1
  ·refine (Cc f y fs).2 g (wi g λz=>hg ?_);show (if g=f then some u else mA g)=none;rw[if_neg q];exact z
theorem Inv.made(I:Inv X pins σ H s):Inv X pins σ (upd (upd H s.heap.objs.size (.own (s.heap.objs.size+1))) (s.heap.objs.size+1) (.ins C s.heap.objs.size []))
  {s with heap:=(s.heap.push PySem.W.emptyDict).push (PySem.W.instObj C s.heap.objs.size)}:=by
 have e1:(s.heap.push PySem.W.emptyDict).get? s.heap.objs.size=some PySem.W.emptyDict:=bO s.heap rfl;have e2:((s.heap.push PySem.W.emptyDict).push (PySem.W.instObj C s.heap.objs.size)).get? (s.heap.objs.size+1)=some (PySem.W.instObj C s.heap.objs.size):=by
  have:=bO (s.heap.push PySem.W.emptyDict) (o:=PySem.W.instObj C s.heap.objs.size) rfl
  rwa [Heap.size_push] at this
 have e3:(s.heap.push PySem.W.emptyDict).Ns s.heap.objs.size (λ_=>none):=⟨PySem.W.emptyDict,#[],_,e1,rfl,(λe he=>absurd he (by simp)),λ_=>rfl⟩;have I1:=I.laid (a:=s.heap.objs.size) (o:=.own (s.heap.objs.size+1)) (h':=s.heap.push PySem.W.emptyDict) (t':=s.toks) (λb u q=>bD _ q) (aX _) ⟨_,e1⟩;refine I1.laid (a:=s.heap.objs.size+1) (o:=.ins C s.heap.objs.size []) (t':=s.toks) (λb u q=>bD _ q) (Nat.le_of_eq (Heap.size_push _ _)) ?_
 have ne:s.heap.objs.size≠s.heap.objs.size+1:=bE (Nat.lt_succ_self _);refine⟨by rw[eW ne,eF],bK _,ne,e2,λ_=>none,(Heap.Ns1.of_empty e3).at λo q=>bD _ q,λ_=>True.intro,λy hy=>absurd rfl hy⟩
theorem OB{prog:Program}{w:World}{env:Env}{e:Expr}{f:Str}{pos:Pos}{s:Shared}{Q:Value->Shared->Prop}(hb:attributeBase e f env (eval e env)=eval e env)
  (h:wpAny (model prog w) A (eval e env) (λo s₁=>wpAny (model prog w) A (getAttr o f true) Q E s₁) E s):wpAny (model prog w) A (eval (.Attribute e f pos) env) Q E s:=
 Attribute_any_ h (by rw[arm_eval_Attribute,hb])
end
inductive Xv (K:FG) (f:Str) (x:V) (H1:Hp) (Q:VK):Prop
 |mk (a C dx:Addr) (fs:List (Str×V)) (v:V) (e:x=.ref a) (h:H1 a=some (.ins C dx fs)) (c:Cls K C) (n:NoAttr K C f) (l:fs.lookup f=some v) (r:Q v H1)
def p9(K:FG)(ta:TE)(f:Str):TE:=λσ H Q=>ta σ H λx H1=>Xv K f x H1 Q
def IS(K:FG)(ta tv:TE)(f:Str):TS:=λD σ H=>tv σ H λy H1=>ta σ H1 λx H2=>∃a C dx fs,x=.ref a/\H2 a=some (.ins C dx fs)/\Cls K C/\NoAttr K C f/\fs.length<1000/\
 D.nx σ (upd H2 a (.ins C dx (fJ f y fs)))
section
variable{X:Cx}{o e value:Expr}{f:Str}{pos pos' tpos:Pos}{ta tv:TE}
theorem Zt(he:PE X e ta)(hb:attributeBase e f X.env (eval e X.env)=eval e X.env):PE X (.Attribute e f pos) (p9 X.K ta f):=by
 intro pins s σ H Q I h;refine OB hb (eX (he pins s σ H _ I h) λu s1 ⟨x,H1,I1,rx,a,C,dx,fs,v,ex,ea,c,n,l,q⟩=>?_);subst ex;obtain rfl:u=Value.ref a:=rx;exact Sw I1 ea c n l λu' s2 I2 ru=>⟨v,H1,I2,ru,q⟩
theorem P1(ha:PE X o ta)(hv:PE X value tv)(hs:swapsWith value (some (.Attribute o f pos')) pos.line X.env=pure false):PS X (.Assign [.Attribute o f pos'] value pos) (IS X.K ta tv f):=by
 intro pins s σ H D I h;refine plainObj_wpAny_Assign_Attribute (eX (hv pins s σ H _ I h) λu s1 ⟨y,H1,I1,ry,q⟩=>eX (ha pins s1 σ H1 _ I1 q) λov s2 ⟨x,H2,I2,rx,a,C,dx,fs,ex,ea,c,n,l,q2⟩=>?_) hs;subst ex;obtain rfl:ov=Value.ref a:=rx;exact axX I2 ea c n l ry λs3 I3=>⟨σ,_,I3,q2⟩
end
section
variable{X:Cx}{pins:List (Addr×Obj)}{σ:St}{H:Hp}{s:Shared}{A:Around}{E:Value->Shared->Prop}{Q:Value->Shared->Prop}{c:Value}{b:Bool}
inductive jb (K:FG) (H:Hp):V->Value->Prop where
 |non:jb K H .non (.type "NoneType")
 |bl (x:Bool):jb K H (.bl x) (.type "bool")
 |int (i:Int):jb K H (.int i) (.type "int")
 |str (x:Str):jb K H (.str x) (.type "str")
 |flt (x:UInt64):jb K H (.flt x) (.type "float")
 |lst {a:Addr} {xs:List V} (e:H a=some (.lst xs)):jb K H (.ref a) (.type "list")
 |frz {a:Addr} {o:Obj} {xs:List V} (e:H a=some (.frz o (.lst xs))):jb K H (.ref a) (.type "list")
 |tup {a:Addr} {xs:List V} (e:H a=some (.tup xs)):jb K H (.ref a) (.type "tuple")
 |dK {a:Addr} {kvs:List (fG×V)} (e:H a=some (.dK kvs)):jb K H (.ref a) (.type "dict")
 |dT {a:Addr} {kvs:List (List fG×V)} (e:H a=some (.dT kvs)):jb K H (.ref a) (.type "dict")
 |ins {a C dx:Addr} {fs:List (Str×V)} (e:H a=some (.ins C dx fs)) (cl:Cls K C) (ha:PySem.W.findIn K (.ref C) "__class__"=some (some (.builtin "object.__class__")))
   (hn:PySem.W.specialIn K (.builtin "object.__class__") "__get__"=some (some (.builtin "getset_descriptor.__get__"))) (htk:PySem.W.takesIn K (.builtin "object.__class__")=some true)
   (hm:PySem.W.mroIn K C (.type "object")=some true):jb K H (.ref a) (.ref C)
theorem az9{x:V}{u t:Value}(I:Inv X pins σ H s)(rx:RelV x u)(ty:jb X.K H x t)(e:PySem.W.kitOne X.K t c=some b)(h:∀tk,Q (.bool b) {s with toks:=tk}):
  wpAny (model X.prog X.w) A (call (.builtin "isinstance") [u,c]) Q E s:=by
 cases ty with
 |non=>cases (show u=Value.none from rx);exact PySem.W.kia_one PySem.W.kitx_none I.kIn True.intro e (λz=>nomatch z) h
 |bl y=>cases (show u=Value.bool y from rx);exact PySem.W.kia_one PySem.W.kitx_bool I.kIn True.intro e (λz=>nomatch z) h
 |int i=>obtain⟨t,q⟩:=(show ∃t,u=Value.int i t from rx);cases q;exact PySem.W.kia_one PySem.W.kitx_int I.kIn True.intro e (λz=>nomatch z) h
 |str y=>obtain⟨t,q⟩:=(show ∃t,u=Value.str y t from rx);cases q;exact PySem.W.kia_one PySem.W.kitx_str I.kIn True.intro e (λz=>nomatch z) h
 |flt y=>obtain⟨t,q⟩:=(show ∃t,u=Value.float y t from rx);cases q;exact PySem.W.kia_one PySem.W.kitx_float I.kIn True.intro e (λz=>nomatch z) h
 |@lst a xs ea=>
  cases (show u=Value.ref a from rx);obtain⟨_,_,n,_,h1⟩:=(show ObjOk X.prog X.w H s.heap a (.lst xs) from I.hok a _ ea);exact PySem.W.kia_one PySem.W.kitx_list I.kIn ⟨_,h1,rfl⟩ e (λz=>nomatch z) h
 |@frz a ob xs ea=>
  cases (show u=Value.ref a from rx);obtain⟨_,_,_,n,_,h1⟩:=(show ObjOk X.prog X.w H s.heap a (.frz ob (.lst xs)) from I.hok a _ ea);exact PySem.W.kia_one PySem.W.kitx_list I.kIn ⟨_,h1,rfl⟩ e (λz=>nomatch z) h
 |@tup a xs ea=>
  cases (show u=Value.ref a from rx);obtain⟨_,_,_,p⟩:=(show ObjOk X.prog X.w H s.heap a (.tup xs) from I.hok a _ ea);obtain⟨o,h1,h2,_⟩:=p;exact PySem.W.kia_one PySem.W.kitx_tuple I.kIn ⟨o,h1,h2⟩ e (λz=>nomatch z) h
 |@dK a kvs ea=>
  cases (show u=Value.ref a from rx);obtain⟨_,_,vs,_,p⟩:=(show ObjOk X.prog X.w H s.heap a (.dK kvs) from I.hok a _ ea);obtain⟨o,es,ep,h1,h2,_⟩:=p;exact PySem.W.kia_one PySem.W.kitx_dict I.kIn ⟨o,h1,h2.1⟩ e (λz=>nomatch z) h
 |@dT a kvs ea=>
  cases (show u=Value.ref a from rx);obtain⟨_,_,xs,_,o,es,ep,h1,h2,_⟩:=(show ObjOk X.prog X.w H s.heap a (.dT kvs) from I.hok a _ ea);exact PySem.W.kia_one PySem.W.kitx_dict I.kIn ⟨o,h1,h2.1⟩ e (λz=>nomatch z) h
 |@ins a C dx fs ea cl ha hn htk hm=>
  cases (show u=Value.ref a from rx);obtain⟨mA,O,_⟩:=qf I.hok ea;obtain⟨od,J,_⟩:=O.look;exact PySem.W.kia_one (PySem.W.kitx_own (cl.get _) cl.hd ha hn htk hm) I.kIn J e (λz=>nomatch z) h
end
structure Room(k:Nat)(A:Around):Prop where
 hd:A.handled=none
 dp:A.depth+3*k+5<recursionLimit
 un:A.units+16*k+200<cLine
theorem Room.mono{j k:Nat}{A:Around}(r:Room k A)(h:j<=k):Room j A:=⟨r.hd,by have:=r.dp;omega,by have:=r.un;omega⟩
theorem Room.deeper{k:Nat}{A:Around}(r:Room (k+1) A)(env:Env):Room k (A.deeper env):=
 ⟨r.hd,by have:=r.dp;show A.depth+1+3*k+5<_;omega,by have:=r.un;show A.units+3+16*k+200<_;omega⟩
theorem Tg{A:Around}{C:Addr}{us:List Value}{kw:List (Str×Value)}:(A.under (.builtin "type.__call__" ⟨.ref C::us,kw⟩)).depth=A.depth+1:=by
 first | rfl | simp[Around.under,Code.weight,Code.isCreation,Code.isGuard,Code.isCaller,Code.frames,Code.isFrame,guardIds]
theorem Pq{A:Around}{C:Addr}{us:List Value}{kw:List (Str×Value)}:(A.under (.builtin "type.__call__" ⟨.ref C::us,kw⟩)).units=A.units+1:=by
 first | rfl | simp[Around.under,Code.cUnits,Code.frames,Code.isFrame]
theorem Room.make{k:Nat}{A:Around}(r:Room (k+1) A)(C:Addr)(us:List Value)(kw:List (Str×Value)):Room k (A.under (.builtin "type.__call__" ⟨.ref C::us,kw⟩)):=
 ⟨r.hd,by have:=r.dp;rw[Tg];omega,by have:=r.un;rw[Pq];omega⟩
theorem Room.depth{k:Nat}{A:Around}(r:Room k A):A.depth<recursionLimit:=by have:=r.dp;omega
theorem Room.units{k:Nat}{A:Around}(r:Room k A):A.units+64<cLine:=by have:=r.un;omega
def iP:TA:=λ_ H Q=>Q [] H
def jc(ta:TE)(tr:TA):TA:=λσ H Q=>ta σ H λx H1=>tr σ H1 λxs H2=>Q (x::xs) H2
section
variable{X:Cx}{e:Expr}{es:List Expr}{te:TE}{t:TA}{pos:Pos}
theorem lH:PA X [] iP:=λ_ _ _ _ H Q I h=>Calls.spliced_nil ⟨[],H,I,.nil,h⟩
theorem kZ(ha:PE X e te)(hr:PA X es t)(hs:starEach (e::es) X.env=(false,eval e X.env)::starEach es X.env:=by rfl):PA X (e::es) (jc te t):=by
 intro pos pins s σ H Q I h;rw[hs];show wpAny _ _ (spliced ((false,eval e X.env)::backTo pos (starEach es X.env))) _ _ s;refine Calls.spliced_cons (eX (ha pins s σ H _ I h) λu s1 ⟨x,H1,I1,r1,q1⟩=>?_);exact eX (hr pos pins s1 σ H1 _ I1 q1) λus s2 ⟨xs,H2,I2,r2,q2⟩=>⟨x::xs,H2,I2,.cons r1 r2,q2⟩
inductive XR (xs:List V) (H1:Hp) (Q:VK):Prop
 |mk (l:xs.length<=sizeLine) (r:∀p,H1 p=none->Q (.ref p) (upd H1 p (.tup xs)))
def Jy(t:TA):TE:=λσ H Q=>t σ H λxs H1=>XR xs H1 Q
inductive Vr (xs:List V) (H1:Hp) (Q:VK):Prop
 |mk (l:xs.length<=sizeLine) (r:∀p,H1 p=none->Q (.ref p) (upd H1 p (.lst xs)))
def HD(t:TA):TE:=λσ H Q=>t σ H λxs H1=>Vr xs H1 Q
theorem ZF{x1}(h:PA X es t):PE X (.Tuple es x1 pos) (Jy t):=by
 intro pins s σ H Q I hq;refine wpAny_Tuple_spliced (eX (h pos pins s σ H _ I hq) λus s1 ⟨xs,H1,I1,r,z,q⟩=>⟨by rw[←r.length];exact z,?_⟩);have hf:H1 s1.heap.objs.size=none:=I1.hok.fresh (aX _);refine⟨.ref s1.heap.objs.size,upd H1 s1.heap.objs.size (.tup xs),I1.laid (t':=s1.toks) (λb u e=>bD _ e) (aX _) ?_,rfl,q _ hf⟩;exact⟨z,us,r,⟨_,bO _ rfl,rfl,()⟩⟩
theorem ZJ(h:PA X es t):PE X (.List es pos) (HD t):=by
 intro pins s σ H Q I hq;refine wpAny_List_spliced (eX (h pos pins s σ H _ I hq) λus s1 ⟨xs,H1,I1,r,z,q⟩=>⟨by rw[←r.length];exact z,?_⟩);have hf:H1 s1.heap.objs.size=none:=I1.hok.fresh (aX _);refine⟨.ref s1.heap.objs.size,upd H1 s1.heap.objs.size (.lst xs),I1.laid (t':=s1.toks) (λb u e=>bD _ e) (aX _) ?_,rfl,q _ hf⟩;exact⟨z,us,0,r,bO _ rfl⟩
end
noncomputable abbrev Sp:=List V->Hp->VK->XK->Prop
noncomputable abbrev lC:=List Env->Hp->Shared->XK->Value->Shared->Prop
structure Env0(P:Program)(w:World)(K:FG)(mg:Str->Option Value)(base:Heap)(A:Around)(outer:List Env)(s:Shared)(H:Hp):Prop where
 frames:A.frames=some outer
 mod:Mod K mg base
 bs:∀b o,base.get? b=some o->s.heap.get? b=some o/\H b=none
 bsz:base.objs.size<=s.heap.objs.size
 funs:s.heap.FunFrames base outer
 frf:∀b∈jW outer,H b=none
 hok:HOk P w H s.heap
 bare:AllBare s.gens
def CE(outer:List Env)(P:Program)(w:World)(H:Hp)(s:Shared)(Q:VK)(u:Value)(s':Shared):Prop:=
 ∃v H',s'.os=s.os/\AllBare s'.gens/\Un (jW outer) [] H H' s.heap s'.heap/\HOk P w H' s'.heap/\RelV v u/\Q v H'
def CR(CX:lC)(outer:List Env)(P:Program)(w:World)(H:Hp)(s:Shared)(Q:VK)(E:XK)(r:Result)(s':Shared):Prop:=
 match r with
 |.ok (.ret u)=>CE outer P w H s Q u s'
 |.ok _=>False
 |.error e=>CX outer H s E e s'
structure gz(P:Program)(w:World)(K:FG)(mg:Str->Option Value)(base:Heap)(CX:lC)(k:Nat)(f:Addr)(fd:FuncData)(ps:List Str)(sp:Sp):Prop where
 len:∀vs H Q E,sp vs H Q E->vs.length=ps.length
 run:∀(A:Around) (outer:List Env) (s:Shared) (H:Hp) (args:Args) (us:List Value) (vs:List V) (Q:VK) (E:XK),Room k A->Env0 P w K mg base A outer s H->BindsTo s fd args (ps.zip us)->Vals vs us->sp vs H Q E->
  codeAny (model P w) A (.call (.ref f) args) (CR CX outer P w H s Q E) s
theorem Env0.make{P:Program}{w:World}{K:FG}{mg:Str->Option Value}{base:Heap}{A:Around}{outer:List Env}{s:Shared}{H:Hp}(e:Env0 P w K mg base A outer s H)(C:Addr)(us:List Value)(kw:List (Str×Value)):
  Env0 P w K mg base (A.under (.builtin "type.__call__" ⟨.ref C::us,kw⟩)) outer s H:=⟨by first | exact e.frames | (simpa [Around.under,Code.envs,Code.isFrame,pushEnvs] using e.frames),e.mod,e.bs,e.bsz,e.funs,e.frf,e.hok,e.bare⟩
section
variable{X:Cx}{pins:List (Addr×Obj)}{σ:St}{H:Hp}{s s':Shared}
theorem Inv.env0(I:Inv X pins σ H s):Env0 X.prog X.w X.K X.mg X.base X.A X.stack s H:=
 ⟨I.ok.frames,I.ok.mod,I.bs,bV I.ok.bsz I.sz,I.stack,I.stkFree,I.hok,I.bare⟩
theorem Inv.after{Q:VK}{u:Value}(I:Inv X pins σ H s)(h:CE X.stack X.prog X.w H s Q u s'):EP X pins σ Q u s':=by
 obtain⟨v,H',os,bare,un,hok,r,q⟩:=h;obtain⟨hh,g,d,t,os'⟩:=s';obtain rfl:os'=s.os:=os;exact⟨v,H',I.call (h':=hh) (g':=g) (d':=d) (t':=t) (ch:=[]) un hok bare (λb z=>absurd z (by simp)),r,q⟩
end
def mK(sp:Sp)(dvs:List V)(E:XK)(t:TA):TE:=λσ H Q=>t σ H λvs H1=>sp (vs++dvs) H1 Q E
inductive LI (C:Addr) (m:Str) (x:V) (H1:Hp) (R:Prop):Prop
 |mk (a dx:Addr) (fs:List (Str×V)) (e:x=.ref a) (h:H1 a=some (.ins C dx fs)) (l:fs.lookup m=none) (r:R)
def nT(C:Addr)(m:Str)(sp:Sp)(dvs:List V)(E:XK)(ta:TE)(t:TA):TE:=λσ H Q=>ta σ H λx H1=>LI C m x H1 (t σ H1 λvs H2=>sp (x::(vs++dvs)) H2 Q E)
def rN(C:Addr)(sp:Sp)(dvs:List V)(E:XK)(t:TA):TE:=λσ H Q=>t σ H λvs H1=>∀x dx,H1 x=none->H1 dx=none->dx≠x->
 sp (.ref x::(vs++dvs)) (upd (upd H1 dx (.own x)) x (.ins C dx [])) (λv H2=>v=.non/\Q (.ref x) H2) E
def Binds(K:FG)(fd:FuncData)(ps:List Str)(ds:List Value):Prop:=
 ∀(s:Shared) (us:List Value),K.In s.heap->(us++ds).length=ps.length->BindsTo s fd ⟨us,[]⟩ (ps.zip (us++ds))
theorem Binds.all{K:FG}{fd:FuncData}{ps:List Str}(h:∀us:List Value,us.length=ps.length->bindArgs fd ⟨us,[]⟩=pure (ps.zip us)):Binds K fd ps []:=λs us _ hl=>by
 rw[cU] at hl ⊢;exact .of_eq (h us hl)
def l4(CX:lC)(X:Cx)(E:XK):Prop:=∀(pins:List (Addr×Obj)) (σ:St) (H:Hp) (s:Shared) (e:Value) (s':Shared),Inv X pins σ H s->CX X.stack H s E e s'->X.xe e s'
section
variable{X:Cx}{CX:lC}{k:Nat}{f C:Addr}{fd:FuncData}{ps:List Str}{sp:Sp}{dvs:List V}{ds:List Value}{E:XK}{x m:Str}{p pos apos:Pos}{e o:Expr}{es:List Expr}{ta:TE}{t:TA}
theorem pD{pins:List (Addr×Obj)}{σ:St}{H:Hp}{s:Shared}{Q:VK}{us:List Value}{vs:List V}(F:gz X.prog X.w X.K X.mg X.base CX k f fd ps sp)(hr:Room k X.A)(hb:Binds X.K fd ps ds)(hd:Vals dvs ds)(hx:l4 CX X E)
  (I:Inv X pins σ H s) (r:Vals vs us) (h:sp (vs++dvs) H Q E):wpAny (model X.prog X.w) X.A (call (.ref f) us) (EP X pins σ Q) X.xe s:=by
 have r2:Vals (vs++dvs) (us++ds):=r.append hd;have hl:(us++ds).length=ps.length:=by rw[←r2.length];exact F.len _ _ _ _ h
 refine wpAny_call (codeAny_mono (F.run X.A X.stack s H ⟨us,[]⟩ (us++ds) (vs++dvs) Q E hr I.env0 (hb s us I.kIn hl) r2 h) λr s' hq=>?_);cases r with
 |error e=>exact hx pins σ H s e s' I hq
 |ok fl=>
  cases fl with
  |ret u=>exact I.after hq
  |next=>exact False.elim hq
  |brk=>exact False.elim hq
  |cont=>exact False.elim hq
theorem WA(F:gz X.prog X.w X.K X.mg X.base CX k f fd ps sp)(hr:Room k X.A)(hg:Gl X x)(hm:X.mg x=some (.ref f))(hk:PySem.W.keepIn X.K (.ref f)=true)(hb:Binds X.K fd ps ds)(hd:Vals dvs ds)(hx:l4 CX X E)
  (ha:PA X (e::es) t) (hdb:(x==("__debug__":Str))=false:=by decide) (he:starEach (e::es) X.env=(false,eval e X.env)::starEach es X.env:=by rfl) (hpl:(backTo pos (starEach es X.env)).any (·.1)=false:=by rfl):
  PE X (.Call (.Name x p) (e::es) [] pos) (mK sp dvs E t):=by
 intro pins s σ H Q I h;refine dW (mS I hg hm ?_ hdb);refine PySem.W.callWith_K (h₀:=X.base) I.ok.mod.kin hk (eX (ha pos pins s σ H _ I h) λus s1 ⟨vs,H1,I1,r,q⟩=>⟨I1.kIn,?_⟩) he hpl;exact pD F hr hb hd hx I1 r q
theorem aCF(F:gz X.prog X.w X.K X.mg X.base CX k f fd ps sp)(hr:Room k X.A)(hg:Gl X x)(hm:X.mg x=some (.ref f))(hk:PySem.W.keepIn X.K (.ref f)=true)(hb:Binds X.K fd ps ds)(hd:Vals dvs ds)(hx:l4 CX X E)
  (hdb:(x==("__debug__":Str))=false:=by decide):PE X (.Call (.Name x p) [] [] pos) (mK sp dvs E iP):=by
 intro pins s σ H Q I h;refine dW (mS I hg hm ?_ hdb);exact PySem.W.callWith_K0 I.kIn hk (pD (us:=[]) F hr hb hd hx I .nil h)
theorem Qw{pl:Sem Bool}(he:PE X o ta)(c:Cls X.K C)(hm:jG X.K C m f)(F:gz X.prog X.w X.K X.mg X.base CX k f fd ps sp)(hr:Room k X.A)(hb:Binds X.K fd ps ds)(hd:Vals dvs ds)(hx:l4 CX X E)(ha:PA X (e::es) t)
  (hst:starEach (e::es) X.env=(false,eval e X.env)::starEach es X.env:=by rfl) (hpl:(backTo pos (starEach es X.env)).any (·.1)=false:=by rfl)
  (ht:eval (.Call (.Attribute o m apos) (e::es) [] pos) X.env=(do
   let ov ←eval o X.env
   standAt apos.atName
   let (f,first) ←holding [ov] (getMethod ov m pl)
   callWith pos f first (backTo pos (starEach (e::es) X.env)) (backToKw pos (keywordEach [] X.env))):=by rfl):
  PE X (.Call (.Attribute o m apos) (e::es) [] pos) (nT C m sp dvs E ta t):=by
 intro pins s σ H Q I h;refine PySem.W.methodCall_KW (pl:=pl) (eX (he pins s σ H _ I h) λu s1 ⟨x,H1,I1,rx,a,dx,fs,ex,ea,l,q⟩=>?_) ht;subst ex;obtain rfl:u=Value.ref a:=rx;refine Ge I1 ea c hm l ?_;refine PySem.W.callWith_K (first:=[.ref a]) (h₀:=X.base) I.ok.mod.kin hm.kp (eX (ha pos pins s1 σ H1 _ I1 q) λus s2 ⟨vs,H2,I2,r,q2⟩=>⟨I2.kIn,?_⟩) hst hpl;exact pD (us:=.ref a::us) (vs:=.ref a::vs) F hr hb hd hx I2 (.cons rfl r) q2
theorem Yq{pl:Sem Bool}(he:PE X o ta)(c:Cls X.K C)(hm:jG X.K C m f)(F:gz X.prog X.w X.K X.mg X.base CX k f fd ps sp)(hr:Room k X.A)(hb:Binds X.K fd ps ds)(hd:Vals dvs ds)(hx:l4 CX X E)
  (ht:eval (.Call (.Attribute o m apos) [] [] pos) X.env=(do
   let ov ←eval o X.env
   standAt apos.atName
   let (f,first) ←holding [ov] (getMethod ov m pl)
   callWith pos f first (backTo pos (starEach [] X.env)) (backToKw pos (keywordEach [] X.env))):=by rfl):
  PE X (.Call (.Attribute o m apos) [] [] pos) (nT C m sp dvs E ta iP):=by
 intro pins s σ H Q I h;refine PySem.W.methodCall_KW (pl:=pl) (eX (he pins s σ H _ I h) λu s1 ⟨x,H1,I1,rx,a,dx,fs,ex,ea,l,q⟩=>?_) ht;subst ex;obtain rfl:u=Value.ref a:=rx;refine Ge I1 ea c hm l ?_;exact PySem.W.callWith_K0 (first:=[.ref a]) I1.kIn hm.kp (pD (us:=[.ref a]) (vs:=[.ref a]) F hr hb hd hx I1 (.cons rfl .nil) q)
structure Mk(K:FG)(C f:Addr):Prop where
 makes:PySem.W.makesIn K C=true
 init:PySem.W.findIn K (.ref C) "__init__"=some (some (.ref f))
 fn:PySem.W.isFn K (.ref f)=true
 kp:PySem.W.keepIn K (.ref C)=true
theorem Eg{pins:List (Addr×Obj)}{σ:St}{H:Hp}{s:Shared}{Q:VK}{us:List Value}{vs:List V}(M:Mk X.K C f)(F:gz X.prog X.w X.K X.mg X.base CX k f fd ps sp)(hr:Room (k+1) X.A)(hb:Binds X.K fd ps ds)(hd:Vals dvs ds)
  (hx:l4 CX X E) (I:Inv X pins σ H s) (r:Vals vs us)
  (h:∀x dx,H x=none->H dx=none->dx≠x->sp (.ref x::(vs++dvs)) (upd (upd H dx (.own x)) x (.ins C dx [])) (λv H2=>v=.non/\Q (.ref x) H2) E):
  wpAny (model X.prog X.w) X.A (call (.ref C) us) (EP X pins σ Q) X.xe s:=by
 have hq:=h (s.heap.objs.size+1) s.heap.objs.size (I.hok.fresh (Nat.le_succ _)) (I.hok.fresh (aX _)) (bE (Nat.lt_succ_self _));have I2:=Inv.made (C:=C) I;have r2:Vals (V.ref (s.heap.objs.size+1)::(vs++dvs)) (Value.ref (s.heap.objs.size+1)::(us++ds)):=.cons rfl (r.append hd);have hl:(Value.ref (s.heap.objs.size+1)::us++ds).length=ps.length:=by
  have e:=r2.length;rw[F.len _ _ _ _ hq] at e;exact e.symm
 refine wpAny_call (Wl (f:=f) I.kIn M.makes M.init (beq_iff_eq.mp M.fn) (codeAny_mono (F.run _ X.stack _ _ ⟨Value.ref (s.heap.objs.size+1)::us,[]⟩ (Value.ref (s.heap.objs.size+1)::(us++ds)) _ _ E (hr.make C us [])
  (I2.env0.make C us []) (hb _ (Value.ref (s.heap.objs.size+1)::us) I2.kIn hl) r2 hq) λr s' hq'=>?_))
 cases r with
 |error e=>exact hx pins σ _ _ e s' I2 hq'
 |ok fl=>
  cases fl with
  |ret u=>
   obtain⟨v,H',I3,rv,ev,q3⟩:=I2.after hq';subst ev;exact⟨rv,⟨V.ref (s.heap.objs.size+1),H',I3,rfl,q3⟩⟩
  |next=>exact False.elim hq'
  |brk=>exact False.elim hq'
  |cont=>exact False.elim hq'
theorem NP(M:Mk X.K C f)(F:gz X.prog X.w X.K X.mg X.base CX k f fd ps sp)(hr:Room (k+1) X.A)(hg:Gl X x)(hm:X.mg x=some (.ref C))(hb:Binds X.K fd ps ds)(hd:Vals dvs ds)(hx:l4 CX X E)
  (ha:PA X (e::es) t) (hdb:(x==("__debug__":Str))=false:=by decide) (he:starEach (e::es) X.env=(false,eval e X.env)::starEach es X.env:=by rfl) (hpl:(backTo pos (starEach es X.env)).any (·.1)=false:=by rfl):
  PE X (.Call (.Name x p) (e::es) [] pos) (rN C sp dvs E t):=by
 intro pins s σ H Q I h;refine dW (mS I hg hm ?_ hdb);refine PySem.W.callWith_K (h₀:=X.base) I.ok.mod.kin M.kp (eX (ha pos pins s σ H _ I h) λus s1 ⟨vs,H1,I1,r,q⟩=>⟨I1.kIn,?_⟩) he hpl;exact Eg M F hr hb hd hx I1 r q
theorem XD(M:Mk X.K C f)(F:gz X.prog X.w X.K X.mg X.base CX k f fd ps sp)(hr:Room (k+1) X.A)(hg:Gl X x)(hm:X.mg x=some (.ref C))(hb:Binds X.K fd ps ds)(hd:Vals dvs ds)(hx:l4 CX X E)
  (hdb:(x==("__debug__":Str))=false:=by decide):PE X (.Call (.Name x p) [] [] pos) (rN C sp dvs E iP):=by
 intro pins s σ H Q I h;refine dW (mS I hg hm ?_ hdb);exact PySem.W.callWith_K0 I.kIn M.kp (Eg (us:=[]) M F hr hb hd hx I .nil h)
end
structure dZ(N P:List Str)(sc:Scope):Prop where
 kind:sc.kind=.function
 co:sc.isCoroutine=false
 gen:sc.isGenerator=false
 nd:N.Nodup
 pre:N.take P.length=P
 par:∀x∈P,sc.names.lookup x=some .local∨sc.names.lookup x=some .cell
 nofree:∀y∈sc.names,y.2≠ .free
theorem Kx{kindOf:Str->Option NameKind}{x:Str}:∀{binds:List (Str×Value)} {m:Str->Option Value},(∀v,(x,v)∉binds)->bindL kindOf binds m x=m x
 |[],_,_=>rfl
 |(n,v)::r,m,h=>by
  unfold bindL;rw[Kx λw hw=>h w (bP _ hw)];split
  ·have:x≠n:=by rintro rfl;exact h v bW
   simp[this]
  ·rfl
theorem I9{kindOf:Str->Option NameKind}{x:Str}:∀{binds:List (Str×Value)} {m:Str->Option Value},(∀v,(x,v)∉binds)->bindC kindOf binds m x=m x
 |[],_,_=>rfl
 |(n,v)::r,m,h=>by
  unfold bindC;rw[I9 λw hw=>h w (bP _ hw)];split
  ·rfl
  ·have:x≠n:=by rintro rfl;exact h v bW
   simp[this]
theorem EO{kindOf:Str->Option NameKind}{x:Str}{v:Value}:∀{P:List Str} {vs:List Value} {i:Nat} {m:Str->Option Value},P.Nodup->P[i]? =some x->vs[i]? =some v->kindOf x=some .local->
  bindL kindOf (P.zip vs) m x=some v
 |[],_,_,_,_,h,_,_=>by simp at h
 |_::_,[],_,_,_,_,h,_=>by simp at h
 |p::P,w::vs,0,m,nd,h1,h2,hk=>by
  simp at h1 h2;subst h1;subst h2;show bindL kindOf ((p,w)::P.zip vs) m p=_;unfold bindL;rw[Kx λv hv=>(List.nodup_cons.mp nd).1 (List.of_mem_zip hv).1,if_pos hk];simp
 |p::P,w::vs,i+1,m,nd,h1,h2,hk=>by
  show bindL kindOf ((p,w)::P.zip vs) m x=_;unfold bindL;exact EO (i:=i) (List.nodup_cons.mp nd).2 (by simpa using h1) (by simpa using h2) hk
theorem Fp{kindOf:Str->Option NameKind}{x:Str}{v:Value}:∀{P:List Str} {vs:List Value} {i:Nat} {m:Str->Option Value},P.Nodup->P[i]? =some x->vs[i]? =some v->kindOf x≠some .local->
  bindC kindOf (P.zip vs) m x=some v
 |[],_,_,_,_,h,_,_=>by simp at h
 |_::_,[],_,_,_,_,h,_=>by simp at h
 |p::P,w::vs,0,m,nd,h1,h2,hk=>by
  simp at h1 h2;subst h1;subst h2;show bindC kindOf ((p,w)::P.zip vs) m p=_;unfold bindC;rw[I9 λv hv=>(List.nodup_cons.mp nd).1 (List.of_mem_zip hv).1,if_neg hk];simp
 |p::P,w::vs,i+1,m,nd,h1,h2,hk=>by
  show bindC kindOf ((p,w)::P.zip vs) m x=_;unfold bindC;exact Fp (i:=i) (List.nodup_cons.mp nd).2 (by simpa using h1) (by simpa using h2) hk
noncomputable def start(N:List Str)(vs:List V):St:=vs.map some++List.replicate (N.length-vs.length) none
noncomputable def mf(CX:lC)(P:Program)(w:World)(K:FG)(mg:Str->Option Value)(base:Heap)(N:List Str)(qual:Str)(scope:Scope)(f:Addr)(cd:Value)(A:Around)(outer:List Env)(s:Shared)(H:Hp)(E:XK):Cx where
 prog:=P
 w:=w
 K:=K
 mg:=mg
 base:=base
 A:=A.deeper (envOfC qual scope s.heap.objs.size f cd)
 N:=N
 s₀:=s
 H₀:=H
 env:=envOfC qual scope s.heap.objs.size f cd
 outer:=outer
 stack:=envOfC qual scope s.heap.objs.size f cd::outer
 ex:=[]
 calm:=true
 fn:=λ_=>true
 pn:=[]
 xe:=λe s'=>wpAny (model P w) (A.deeper (envOfC qual scope s.heap.objs.size f cd)) (leaving (envOfC qual scope s.heap.objs.size f cd) e) (λ_ s''=>CX outer H s E e s'') (λe' s''=>CX outer H s E e' s'') s'
theorem IH{sc:Scope}{n:Nat}{x:Str}(h:sc.names.lookup x=some .cell):∃c,(cellsFrom n sc.names []).lookup x=some c:=by
 have q:=PySem.W.cellsFrom_some sc.names n [] (.inl h);exact c6.mp q
theorem Qy{CX:lC}{P:Program}{w:World}{K:FG}{mg:Str->Option Value}{base:Heap}{N ps:List Str}{qual:Str}{scope:Scope}{f:Addr}{cd:Value}{A:Around}{outer:List Env}{s s1:Shared}{H:Hp}{E:XK}{us:List Value}{vs:List V}
  (S:dZ N ps scope) (hd:A.handled=none) (e0:Env0 P w K mg base A outer s H) (hl:vs.length=ps.length) (r:Vals vs us)
  (x:InCallC s s.heap.objs.size (bindL (envOfC qual scope s.heap.objs.size f cd).kindOf (ps.zip us) λ_=>none) (cellsFrom (s.heap.objs.size+1) scope.names []) (bindC (envOfC qual scope s.heap.objs.size f cd).kindOf (ps.zip us) λ_=>none) s1):
  Inv (mf CX P w K mg base N qual scope f cd A outer s H E) [] (start N vs) H s1:=by
 have hpl:ps.length<=N.length:=by have:=congrArg List.length S.pre;rw[cF] at this;omega
 obtain⟨h1,tk,rfl,hk⟩:=x.done;have noA:∀b:Addr,b∉(mf CX P w K mg base N qual scope f cd A outer s H E).ex:=λb z=>absurd (show b∈([]:List Addr) from z) (by simp);refine⟨⟨e0.mod,S.kind,rfl,rfl,aX _,λy z c h1 h2=>?_,λy hy=>?_,λy c _ h=>?_,λ_=>hd,Around.frames_deeper e0.frames,.inr ⟨rfl,rfl⟩,λb z=>absurd z (noA b),e0.bs,e0.bsz,λb _ _=>noA b,λb z=>absurd z (noA b),e0.funs,e0.frf⟩,
  rfl,e0.bare,Un.kept hk,⟨_,x.toInCall.ns,λi y v h1 h2 h3=>?_⟩,λy c h=>⟨_,x.cell y c h⟩,e0.hok.fresh (aX _),λy c h=>?_,λp hp=>absurd (show p∈([]:List (Addr×Obj)) from hp) (by simp),e0.hok.kept hk,?_⟩
 ·exact name_of_addr x.apart (PySem.mem_of_lookup h1) (PySem.mem_of_lookup h2)
 ·have hy:scope.names.lookup y=some .cell∨scope.names.lookup y=some .free:=hy;rcases hy with hy | hy
  ·exact IH hy
  ·exact absurd rfl (S.nofree _ (PySem.mem_of_lookup hy))
 ·exact Nat.le_of_lt (x.above y c (PySem.mem_of_lookup h))
 ·have hi:i<vs.length:=by
   unfold start at h2;by_cases hi:i<vs.length
   ·exact hi
   ·rw[List.getElem?_append_right (by simpa using hi)] at h2;rw[List.getElem?_replicate] at h2;split at h2<;>cases h2
  have ha:vs[i]? =some v:=by
   unfold start at h2;rw[List.getElem?_append_left (by simpa using hi),bI] at h2;cases e:vs[i]? with
   |none=>rw[e] at h2;cases h2
   |some a=>rw[e] at h2;cases h2;rfl
  obtain⟨u,hu,rv⟩:=r.get ha;have hp:ps[i]? =some y:=by
   rw[←S.pre,List.getElem?_take_of_lt ⋯];exact h1
  have ndP:ps.Nodup:=by rw[←S.pre];exact S.nd.sublist (List.take_sublist _ _)
  refine⟨u,rv,?_⟩;rcases S.par y (bR hp) with k | k
  ·exact .inl ⟨k,EO ndP hp hu k⟩
  ·obtain⟨c,e⟩:=IH (n:=s.heap.objs.size+1) k;refine .inr ⟨.inl k,c,e,?_⟩;have q:=x.cell y c e;rw[Fp ndP hp hu (by show scope.names.lookup y≠_;rw[k];decide)] at q;exact q
 ·exact e0.hok.fresh (Nat.le_of_lt (x.above y c (PySem.mem_of_lookup h)))
 ·unfold start;show _=N.length;rw[a8,aY,c7];omega
theorem uW{CX:lC}{P:Program}{w:World}{K:FG}{mg:Str->Option Value}{base:Heap}{k:Nat}{f:Addr}{name qual:Str}{params:Arguments}{body:List Stmt}{scope:Scope}{dV kV doc pm cdv ct oc:Value}{an od:Option Addr}
  {osl:Array (Option Value)} {N ps:List Str} {sp:Sp} (lk:K.lookup f=some ⟨oc,od,.func (PySem.W.fnOf name qual params body scope dV kV doc pm an cdv ct),osl⟩) (hcd:PySem.W.codeIn K cdv qual=true) (S:dZ N ps scope)
  (len:∀vs H Q E,sp vs H Q E->vs.length=ps.length)
  (hbody:∀(A:Around) (outer:List Env) (s:Shared) (H:Hp) (vs:List V) (Q:VK) (E:XK),Room k (A.deeper (envOfC qual scope s.heap.objs.size f cdv))->sp vs H Q E->
   ∃t,PSs (mf CX P w K mg base N qual scope f cdv A outer s H E) body t/\t {nx:=λ_ H'=>Q .non H',rt:=Q} (start N vs) H):
  gz P w K mg base CX (k+1) f (PySem.W.fnOf name qual params body scope dV kV doc pm an cdv ct) ps sp:=by
 refine⟨len,λA outer s H args us vs Q E hr e0 hb r hsp=>?_⟩;have hl:=len _ _ _ _ hsp;have KX:K.In s.heap:=e0.mod.kin.keeps λb o e=>(e0.bs b o e).1;have lim:s.heap.NoLimit:=e0.mod.nolimit.keeps λb o e=>(e0.bs b o e).1;have hkind:∀y∈ps.zip us,scope.names.lookup y.1=some .local∨(scope.names.lookup y.1=some .cell/\((cellsFrom (s.heap.objs.size+1) scope.names []).lookup y.1).isSome=true):=λ⟨n,v⟩ hy=>by
  rcases S.par n (List.of_mem_zip hy).1 with q | q
  ·exact .inl q
  ·exact .inr ⟨q,PySem.W.cellsFrom_some _ _ _ (.inl q)⟩
 refine codeAny_call_function hr.depth (KX _ _ lk) rfl S.co S.gen rfl (PySem.W.codeRec_of KX hcd) (hb _ _ _ _ ?_);refine wpAny_newFunctionEnv_cells S.kind hkind λenv he s1 x=>?_;subst he;refine⟨lim.keeps x.toInCall.keep,codeAny_func ?_⟩;obtain⟨t,ht,hq⟩:=hbody A outer s H vs Q E (hr.deeper _) hsp;have I:Inv (mf CX P w K mg base N qual scope f cdv A outer s H E) [] (start N vs) H s1:=Qy S hr.hd e0 hl r x
 refine dM (ht [] s1 (start N vs) H _ I hq) (λfl s' hs=>?_) λe s' hs=>hs;have fE:∀{σ':St} {H':Hp} {v:V} {u:Value},Inv (mf CX P w K mg base N qual scope f cdv A outer s H E) [] σ' H' s'->RelV v u->Q v H'->CE outer P w H s Q u s':=
  λ{σ' H' v u} J rv q=>⟨v,H',J.os,J.bare,J.base,J.hok,rv,q⟩
 cases fl with
 |ret u=>
  obtain⟨v,σ',H',J,rv,q⟩:=hs;exact fE J rv q
 |next=>
  obtain⟨σ',H',J,q⟩:=hs;exact fE (v:=V.non) (u:=Value.none) J rfl q
 |brk=>
  obtain⟨_,_,_,q⟩:=hs;exact False.elim q
 |cont=>
  obtain⟨_,_,_,q⟩:=hs;exact False.elim q
section
variable{X:Cx}{x:Str}{p pos:Pos}{e:Expr}{es:List Expr}{t:TA}{id T:String}{r:List V->Hp->VK->Prop}
def rl(r:List V->Hp->VK->Prop)(t:TA):TE:=λσ H Q=>t σ H λvs H1=>r vs H1 Q
theorem MF(hc:j2 X (.builtin id) r)(hg:Gl X x)(hm:X.mg x=none)(hv:bootBuiltins x=some (.builtin id))(ha:PA X (e::es) t)(hn:x≠"__name__":=by decide)(hdb:(x==("__debug__":Str))=false:=by decide)
  (he:starEach (e::es) X.env=(false,eval e X.env)::starEach es X.env:=by rfl) (hpl:(backTo pos (starEach es X.env)).any (·.1)=false:=by rfl):PE X (.Call (.Name x p) (e::es) [] pos) (rl r t):=by
 intro pins s σ H Q I h;refine dW (nz I hg hm hv ?_ hn hdb);exact PyProof.Rows.callWith_builtin1 (eX (ha pos pins s σ H _ I h) λus s1 ⟨vs,H1,I1,r1,q1⟩=>hc pins s1 σ H1 vs us Q I1 r1 q1) he hpl
theorem aAF(hc:j2 X (.type T) r)(hg:Gl X x)(hm:X.mg x=none)(hv:bootBuiltins x=some (.type T))(ha:PA X (e::es) t)(hn:x≠"__name__":=by decide)(hdb:(x==("__debug__":Str))=false:=by decide)
  (he:starEach (e::es) X.env=(false,eval e X.env)::starEach es X.env:=by rfl) (hpl:(backTo pos (starEach es X.env)).any (·.1)=false:=by rfl):PE X (.Call (.Name x p) (e::es) [] pos) (rl r t):=by
 intro pins s σ H Q I h;refine dW (nz I hg hm hv ?_ hn hdb);exact PyProof.Rows.callWith_type1 (eX (ha pos pins s σ H _ I h) λus s1 ⟨vs,H1,I1,r1,q1⟩=>hc pins s1 σ H1 vs us Q I1 r1 q1) he hpl
end
end L2
namespace HT
open PySem PyProof.Rows
section
variable{prog:Program}{w:World}{A:Around}{E:Value->Shared->Prop}{s:Shared}
noncomputable def sIx(n d:Nat):Option Int->Nat
 |none=>d
 |some v=>if v<0 then (v+(n:Int)).toNat else min v.toNat n
theorem sIx_le(n d:Nat)(hd:d<=n)(o:Option Int):sIx n d o<=n:=by
 cases o with
 |none=>exact hd
 |some v=>
  show (if v<0 then (v+(n:Int)).toNat else min v.toNat n)<=n;by_cases hv:v<0
  ·rw[if_pos hv];omega
  ·rw[if_neg hv];exact Nat.min_le_right _ _
end
end HT
namespace L2
open PySem PySem.Spec PyProof.Rows
noncomputable abbrev TO:=St->Hp->(Option Int->Hp->Prop)->Prop
def PO(X:Cx)(e:Option Expr)(t:TO):Prop:=
 ∀(pins:List (Addr×Obj)) (s:Shared) (σ:St) (H:Hp) (Q:Option Int->Hp->Prop),Inv X pins σ H s->t σ H Q->
  wpAny (model X.prog X.w) X.A (evalPart e X.env) (λu s'=>∃o H',Inv X pins σ H' s'/\IsPart u o/\Q o H') X.xe s
def Hc:TO:=λ_ H Q=>Q none H
def Gd(t:TE):TO:=λσ H Q=>t σ H λx H1=>∃i,x=.int i/\Q (some i) H1
section
variable{X:Cx}{e:Expr}{te:TE}{lo hi:Option Expr}{tl th:TO}{pos p2:Pos}
theorem Zd:PO X none Hc:=by
 intro pins s σ H Q I h;rw[evalPart_none];exact dX ⟨none,H,I,.none,h⟩
theorem Rg(h:PE X e te):PO X (some e) (Gd te):=by
 intro pins s σ H Q I hw;rw[evalPart_some];refine eX (h pins s σ H _ I hw) λu s1 ⟨x,H1,I1,r1,q1⟩=>?_;obtain⟨i,rfl,q⟩:=q1;obtain⟨t,rfl⟩:=r1;exact⟨some i,H1,I1,.int i t,q⟩
def DK(X:Cx)(r:V->Option Int->Option Int->Hp->VK->Prop):Prop:=
 ∀(pins:List (Addr×Obj)) (s:Shared) (σ:St) (H:Hp) (x:V) (v vl vu:Value) (lo hi:Option Int) (sl:Addr) (Q:VK),Inv X pins σ H s->RelV x v->s.heap.IsSliceOf sl vl vu .none->IsPart vl lo->IsPart vu hi->r x lo hi H Q->
  ∃T id,typeLookup (.type T) "__getitem__"=pure (some (.builtin id))/\s.TypeIs v T/\wpAny (model X.prog X.w) X.A (getItem v (.ref sl)) (EP X pins σ Q) X.xe s
def GS(r:V->Option Int->Option Int->Hp->VK->Prop)(te:TE)(tl th:TO):TE:=λσ H Q=>te σ H λx H1=>tl σ H1 λl H2=>th σ H2 λu H3=>r x l u H3 Q
theorem Tu{r:V->Option Int->Option Int->Hp->VK->Prop}(hr:DK X r)(he:PE X e te)(hl:PO X lo tl)(hu:PO X hi th):PE X (.Subscript e (.Slice lo hi none p2) pos) (GS r te tl th):=by
 intro pins s σ H Q I h;refine Subscript_ (eX (he pins s σ H _ I h) λv s1 ⟨x,H1,I1,r1,q1⟩=>?_);refine wpAny_Slice (eX (hl pins s1 σ H1 _ I1 q1) λvl s2 ⟨l,H2,I2,pl,q2⟩=>eX (hu pins s2 σ H2 _ I2 q2) λvu s3 ⟨u,H3,I3,pu,q3⟩=>?_);rw[evalPart_none];refine dX ?_;have I4:Inv X pins σ H3 {s3 with heap:=s3.heap.push {cls:=.type "slice",data:=.fields #[vl,vu,.none]} }:=I3.kept (t':=s3.toks) λb ob q=>bD _ q
 obtain⟨T,id,hT,ht,hg⟩:=hr pins {s3 with heap:=s3.heap.push {cls:=.type "slice",data:=.fields #[vl,vu,.none]} } σ H3 x v vl vu l u s3.heap.objs.size Q I4 r1 (Heap.IsSliceOf.new ..) pl pu q3;show wpAny (model X.prog X.w) X.A (subscriptTail e (.Slice lo hi none p2) v (.ref s3.heap.objs.size)) (EP X pins σ Q) X.xe {s3 with heap:=s3.heap.push {cls:=.type "slice",data:=.fields #[vl,vu,.none]} };exact tail_any (ops:=[.ref s3.heap.objs.size,v]) ht hT hg (by with_unfolding_all rfl)
noncomputable def jR(xs:List V)(lo hi:Option Int):List V:=(xs.drop (HT.sIx xs.length 0 lo)).take (HT.sIx xs.length xs.length hi-HT.sIx xs.length 0 lo)
theorem P6(xs:List V)(lo hi:Option Int):(jR xs lo hi).length<=xs.length:=by
 unfold jR;rw[cF,cN];omega
end
noncomputable def j1(n:Nat)(i:Int):Option Nat:=if 0<=i then (if i<n then some i.toNat else none) else if -(n:Int)<=i then some (i+n).toNat else none
noncomputable def ie{α:Type}(xs:List α)(i:Int):Option α:=(j1 xs.length i).bind λj=>xs[j]?
theorem Gm{n:Nat}{i:Int}{j:Nat}(h:j1 n i=some j):seqIndex? i n=some j/\j<n/\ -(n:Int)<=i/\i<n:=by
 unfold j1 at h;by_cases h0:0<=i
 ·rw[if_pos h0] at h;by_cases h1:i<n
  ·rw[if_pos h1] at h;have e:i.toNat=j:=bG h;exact⟨by rw[seqIndex_of h0 h1,e],⋯,⋯,h1⟩
  ·rw[if_neg h1] at h;cases h
 ·rw[if_neg h0] at h;by_cases h1: -(n:Int)<=i
  ·rw[if_pos h1] at h;have e:(i+n).toNat=j:=bG h;exact⟨by rw[seqIndex_neg ⋯ h1,e],⋯,h1,⋯⟩
  ·rw[if_neg h1] at h;cases h
theorem uT{α:Type}{xs:List α}{i:Int}{v:α}(h:ie xs i=some v):∃j,seqIndex? i xs.length=some j/\xs[j]? =some v/\j<xs.length/\ -(xs.length:Int)<=i/\i<xs.length:=by
 unfold ie at h;cases e:j1 xs.length i with
 |none=>rw[e] at h;cases h
 |some j=>
  rw[e] at h;obtain⟨h1,h2,h3,h4⟩:=Gm e;exact⟨j,h1,h,h2,h3,h4⟩
theorem kT{α:Type}{xs:List α}{j:Nat}{v:α}(h:xs[j]? =some v):ie xs (j:Int)=some v:=by
 have hj:j<xs.length:=(cT.mp h).1;have e:j1 xs.length (j:Int)=some j:=by
  unfold j1;rw[if_pos ⋯,if_pos ⋯];simp
 unfold ie;rw[e];exact h
theorem V4{α:Type}(xs:List α)(v:α):ie (xs++[v]) (-1)=some v:=by
 have hl:(xs++[v]).length=xs.length+1:=by simp
 have e:j1 (xs++[v]).length (-1)=some xs.length:=by
  unfold j1;rw[hl,if_neg (by decide),if_pos ⋯];congr 1;omega
 unfold ie;rw[e];show (xs++[v])[xs.length]? =some v;simp
def GE(b:Expr):Prop:=∀o i,subscripted b false o i=operate [o,i] (getItem o i)
def oF(X:Cx)(r:R2):Prop:=
 ∀(value slice:Expr) (pins:List (Addr×Obj)) (s:Shared) (σ:St) (H:Hp) (x y:V) (v u:Value) (Q:VK),Inv X pins σ H s->RelV x v->RelV y u->r x y H Q->
  subscripted slice false v u=operate [v,u] (getItem v u)->wpAny (model X.prog X.w) X.A (subscriptTail value slice v u) (EP X pins σ Q) X.xe s
def nB(X:Cx)(id:String)(r:V->List V->Hp->VK->Prop):Prop:=
 ∀(pins:List (Addr×Obj)) (s:Shared) (σ:St) (H:Hp) (x:V) (xs:List V) (v:Value) (us:List Value) (Q:VK),Inv X pins σ H s->RelV x v->Vals xs us->r x xs H Q->
  wpAny (model X.prog X.w) X.A (call (.builtin id) (v::us)) (EP X pins σ Q) X.xe s
section
variable{X:Cx}{a b:Expr}{ta tb:TE}{pos:Pos}
theorem Q2{r:R2}(hr:oF X r)(ha:PE X a ta)(hb:PE X b tb)(hs:GE b):PE X (.Subscript a b pos) (mq r ta tb):=by
 intro pins s σ H Q I h;exact Subscript_ (wY ha hb I h λv u s2 x y H2 I2 rx ry q=>hr a b pins s2 σ H2 x y v u Q I2 rx ry q (hs _ _))
inductive RU (K:FG) (x y:V) (H:Hp) (Q:VK):Prop
 |mk (p:Addr) (xs:List V) (i:Int) (v:V) (e:x=.ref p) (f:y=.int i) (s:SqL K H p xs) (a:ie xs i=some v) (r:Q v H)
def CI(K:FG):R2:=RU K
inductive MM (K:FG) (x y:V) (H:Hp) (Q:VK):Prop
 |mk (p:Addr) (xs:List V) (i:Int) (v:V) (e:x=.ref p) (f:y=.int i) (s:SqT K H p xs) (a:ie xs i=some v) (r:Q v H)
def B8(K:FG):R2:=MM K
def xa:R2:=λx y H Q=>∃z i c,x=.str z/\y=.int i/\z.length<=sizeLine/\ie z.cps.toList i=some c/\Q (.str ⟨#[c]⟩) H
theorem NV:oF X (CI X.K):=by
 intro value slice pins s σ H x y v u Q I rx ry h hs;obtain⟨p,xs,i,z,rfl,rfl,hq,he,q⟩:=h;cases rx;obtain⟨t,rfl⟩:=ry;obtain⟨its,r,pl,hz⟩:=I.list hq;obtain⟨j,h1,h2,h3,h4,h5⟩:=uT he;obtain⟨w,ew,rw'⟩:=r.get h2;have hl:=r.length;have hn:=oa;have fE:EP X pins σ Q w s:=⟨z,H,I,rw',q⟩;by_cases h0:0<=i
 ·have hj:i.toNat=j:=by
   rw[seqIndex_of h0 h5] at h1;exact bG h1
  exact item_listR pl.isList h0 ⋯ (by rw[hj];simpa using ew) fE hs
 ·have hj:(i+(its.toArray.size:Int)).toNat=j:=by
   rw[seqIndex_neg ⋯ h4] at h1;rw[bJ,←hl];exact bG h1
  exact subscriptTail_builtinR (x:=w) pl.isList.typeIs slot_list_getitem.lookup
   (wpAny_getItem_list_neg (Q:=λr s'=>r=w/\EP X pins σ Q r s') pl.isList ⋯ (by rw[bJ]<;>omega) ⋯ (by rw[hj];simpa using ew) ⟨rfl,fE⟩) hs
theorem aIR:oF X (B8 X.K):=by
 intro value slice pins s σ H x y v u Q I rx ry h hs;obtain⟨p,xs,i,z,rfl,rfl,hq,he,q⟩:=h;cases rx;obtain⟨t,rfl⟩:=ry;obtain⟨its,r,pl,hz⟩:=I.tuple hq;obtain⟨j,h1,h2,h3,h4,h5⟩:=uT he;obtain⟨w,ew,rw'⟩:=r.get h2;have hl:=r.length;have hn:=oa;have fE:EP X pins σ Q w s:=⟨z,H,I,rw',q⟩;exact subscriptTail_builtinR (x:=w) pl.typeIs slot_tuple_getitem.lookup
  (getItem_tuple (j:=j) (Q:=λr s'=>r=w/\EP X pins σ Q r s') pl ⋯ ⋯ (by rw[bJ,←hl];exact h1) (by simpa using ew) ⟨rfl,fE⟩) hs
theorem Pp:oF X xa:=by
 intro value slice pins s σ H x y v u Q I rx ry h hs;obtain⟨z,i,c,rfl,rfl,hz,he,q⟩:=h;obtain⟨t,rfl⟩:=rx;obtain⟨t',rfl⟩:=ry;obtain⟨j,h1,h2,h3,h4,h5⟩:=uT he;have hl:z.cps.toList.length=z.length:=by simp[Str.length]
 rw[hl] at h1 h4 h5;have hn:=oa;exact tail_any (typeIs_str s z t) slot_str_getitem.lookup (getItem_str (c:=c) (by
  have e1:decide (i< -(2^63:Int))=false:=dU ⋯;have e2:decide (i ≥ 2^63)=false:=dU ⋯;rw[e1,e2,Bool.or_false]) (by rw[h1];simpa using h2) ⟨.str ⟨#[c]⟩,H,I.tok _,⟨()⟩,q⟩) hs
theorem Rv(its:List Value)(n j:Nat)(u:Value):Obj.mapSeq (·.setIfInBounds j u) {cls:=.type "list",data:=.seq its.toArray n}={cls:=.type "list",data:=.seq (its.set j u).toArray n}:=by
 simp[Obj.mapSeq]
theorem Inv.lst{pins:List (Addr×Obj)}{σ:St}{H:Hp}{s:Shared}{p:Addr}{xs:List V}(I:Inv X pins σ H s)(h:H p=some (.lst xs)):
  ∃(its:List Value) (n:Nat),Vals xs its/\s.heap.get? p=some {cls:=.type "list",data:=.seq its.toArray n}/\xs.length<=sizeLine:=by
 obtain⟨z,its,n,r,e⟩:=I.hok p _ h;exact⟨its,n,r,e,z⟩
theorem Inv.lstUpd{pins:List (Addr×Obj)}{σ:St}{H:Hp}{s:Shared}{p:Addr}{xs ys:List V}{its its':List Value}{n n':Nat}{f:Obj->Obj}(I:Inv X pins σ H s)(h:H p=some (.lst xs))
  (ho:s.heap.get? p=some {cls:=.type "list",data:=.seq its.toArray n}) (hf:f {cls:=.type "list",data:=.seq its.toArray n}={cls:=.type "list",data:=.seq its'.toArray n'}) (r:Vals ys its') (hz:ys.length<=sizeLine) (t:Nat):
  Inv X pins σ (upd H p (.lst ys)) {s with heap:=s.heap.update p f,toks:=t}:=by
 have e:(s.heap.update p f).get? p=some {cls:=.type "list",data:=.seq its'.toArray n'}:=by
  rw[Heap.get?_update_self f ho (by rw[hf]<;>rfl),hf]
 refine I.write (x:=p) (e:=p) (by rw[h];trivial) (.inl rfl) (λb u hb q=>(Heap.get?_update_other _ _ (Ne.symm hb)).trans q) ⟨_,e⟩ ?_;exact⟨hz,its',n',r,e⟩
def Jm:V->V->V->Hp->(Hp->Prop)->Prop:=λo i v H Q=>∃p xs k j,o=.ref p/\i=.int k/\H p=some (.lst xs)/\j1 xs.length k=some j/\Q (upd H p (.lst (xs.set j v)))
theorem aD6:Hl X Jm:=by
 intro pins s σ H o i v ov iv u Q I ro ri rv h;obtain⟨p,xs,k,j,rfl,rfl,hp,hj,q⟩:=h;cases ro;obtain⟨t,rfl⟩:=ri;obtain⟨its,n,r,ho,hz⟩:=I.lst hp;obtain⟨h1,h2,h3,h4⟩:=Gm hj;have hl:=r.length;have hn:=oa;have I':Inv X pins σ (upd H p (.lst (xs.set j v))) {s with heap:=s.heap.update p (Obj.mapSeq (·.setIfInBounds j u))}:=
  I.lstUpd hp ho (Rv its n j u) (r.set rv j) (by rw[List.length_set];exact hz) s.toks
 by_cases h0:0<=k
 ·have hk:k.toNat=j:=by
   rw[seqIndex_of h0 h4] at h1;exact bG h1
  exact PySem.W.ki_setAt ho h0 ⋯ (by rw[bJ,←hl];exact h4) (by rw[hk];exact⟨_,I',q⟩)
 ·have hk:(k+(its.toArray.size:Int)).toNat=j:=by
   rw[seqIndex_neg ⋯ h3] at h1;rw[bJ,←hl];exact bG h1
  exact PySem.W.ki_setBack ho ⋯ (by rw[bJ,←hl];exact h3) ⋯ (by rw[hk];exact⟨_,I',q⟩)
theorem Jo(lo hi:Option Int)(n:Nat):(sliceBounds lo hi none n).1=((HT.sIx n 0 lo:Nat):Int)/\(sliceBounds lo hi none n).2.1=((HT.sIx n n hi:Nat):Int)/\(sliceBounds lo hi none n).2.2=1:=by
 refine⟨?_,?_,rfl⟩
 ·cases lo with
  |none=>simp[sliceBounds,HT.sIx]
  |some i=>
   simp only[sliceBounds,HT.sIx,Option.getD_none,show (1:Int)>0 by decide,if_true];by_cases h:i<0
   ·simp only[h,if_true]<;>omega
   ·simp only[h,if_false]<;>omega
 ·cases hi with
  |none=>simp[sliceBounds,HT.sIx]
  |some i=>
   simp only[sliceBounds,HT.sIx,Option.getD_none,show (1:Int)>0 by decide,if_true];by_cases h:i<0
   ·simp only[h,if_true]<;>omega
   ·simp only[h,if_false]<;>omega
theorem apV(its:List Value)(lo hi:Option Int):slicePick its.toArray lo hi none=((its.drop (HT.sIx its.length 0 lo)).take (HT.sIx its.length its.length hi-HT.sIx its.length 0 lo)).toArray:=by
 obtain⟨h1,h2,h3⟩:=Jo lo hi its.toArray.size;unfold slicePick;rw[h1,h2,h3];simp only[sliceRange_one,pick_run,bJ]<;>rfl
def wG(K:FG):V->Option Int->Option Int->Hp->VK->Prop:=λx lo hi H Q=>∃a xs,x=.ref a/\SqL K H a xs/\∀p,H p=none->Q (.ref p) (upd H p (.lst (jR xs lo hi)))
theorem VI:DK X (wG X.K):=by
 intro pins s σ H x v vl vu lo hi sl Q I rx hs pl pu h;obtain⟨a,xs,rfl,hx,q⟩:=h;cases rx;obtain⟨its,r,ht,hz⟩:=I.list hx;have hlen:=r.length;refine⟨"list",_,slot_list_getitem.lookup,ht.isList.typeIs,?_⟩;refine wpAny_getItem_list_slice ht.isList hs pl pu .none (by simp) ?_ (by rw[bJ]<;>omega);rw[apV,←hlen];refine⟨.ref s.heap.objs.size,_,I.laid (t':=s.toks) (o:=.lst (jR xs lo hi)) (λb ob q=>bD _ q) (aX _) ?_,rfl,q _ (I.hok.fresh (aX _))⟩
 exact⟨bV (P6 xs lo hi) hz,_,0,(r.drop (HT.sIx xs.length 0 lo)).take (HT.sIx xs.length xs.length hi-HT.sIx xs.length 0 lo),bO _ rfl⟩
noncomputable def kP:V->Bool
 |.non=>true
 |.bl _=>true
 |.int _=>true
 |.str _=>true
 |_=>false
noncomputable def mF:V->V->Bool
 |.non,.non=>true
 |.bl a,.bl b=>a==b
 |.bl a,.int b=>(if a then 1 else 0)==b
 |.int a,.bl b=>a==(if b then 1 else 0)
 |.int a,.int b=>a==b
 |.str a,.str b=>a==b
 |_,_=>false
theorem V6{A:Around}{s:Shared}{y x:V}{u v:Value}(ry:RelV y u)(rx:RelV x v)(fy:kP y=true)(fx:kP x=true):SeqAt.EqAt A s u v (mF y x):=by
 cases y with
 |non=>
  cases ry;cases x with
  |non=>cases rx;exact SeqAt.EqAt.same _
  |bl b=>cases rx;exact SeqAt.EqAt.none_bool b
  |int b=>obtain⟨t,rfl⟩:=rx;exact SeqAt.EqAt.none_int b t
  |str b=>obtain⟨t,rfl⟩:=rx;exact SeqAt.EqAt.none_str b t
  |_=>exact absurd (show false=true from fx) bF
 |bl a=>
  cases ry;cases x with
  |non=>cases rx;exact SeqAt.EqAt.bool_none a
  |bl b=>cases rx;exact SeqAt.EqAt.bool_bool a b
  |int b=>obtain⟨t,rfl⟩:=rx;exact SeqAt.EqAt.bool_int a b t
  |str b=>obtain⟨t,rfl⟩:=rx;exact SeqAt.EqAt.bool_str a b t
  |_=>exact absurd (show false=true from fx) bF
 |int a=>
  obtain⟨t',rfl⟩:=ry;cases x with
  |non=>cases rx;exact SeqAt.EqAt.int_none a t'
  |bl b=>cases rx;exact SeqAt.EqAt.int_bool a t' b
  |int b=>obtain⟨t,rfl⟩:=rx;exact SeqAt.EqAt.int_int a t' b t
  |str b=>obtain⟨t,rfl⟩:=rx;exact SeqAt.EqAt.int_str a t' b t
  |_=>exact absurd (show false=true from fx) bF
 |str a=>
  obtain⟨t',rfl⟩:=ry;cases x with
  |non=>cases rx;exact SeqAt.EqAt.str_none a t'
  |bl b=>cases rx;exact SeqAt.EqAt.str_bool a t' b
  |int b=>obtain⟨t,rfl⟩:=rx;exact SeqAt.EqAt.str_int a t' b t
  |str b=>obtain⟨t,rfl⟩:=rx;exact SeqAt.EqAt.str_str a t' b t
  |_=>exact absurd (show false=true from fx) bF
 |_=>exact absurd (show false=true from fy) bF
noncomputable def lu(x:V)(u:Value):Bool:=match u with
 |.none=>mF .non x
 |.bool b=>mF (.bl b) x
 |.int i _=>mF (.int i) x
 |.str z _=>mF (.str z) x
 |_=>false
theorem FX{x y:V}{u:Value}(r:RelV y u)(f:kP y=true):lu x u=mF y x:=by
 cases y with
 |non=>cases r;rfl
 |bl b=>cases r;rfl
 |int i=>obtain⟨t,rfl⟩:=r;rfl
 |str z=>obtain⟨t,rfl⟩:=r;rfl
 |_=>exact absurd (show false=true from f) bF
theorem v9{x:V}:∀{xs:List V} {us:List Value},Vals xs us->xs.all kP=true->us.any (lu x)=xs.any λy=>mF y x
 |_,_,.nil,_=>rfl
 |y::xs,u::us,.cons r t,f=>by
  rw[List.all_cons,bX] at f;rw[cI,cI,FX r f.1,v9 t f.2]
theorem sU{A:Around}{s:Shared}{x:V}{v:Value}(rx:RelV x v)(fx:kP x=true):∀{xs:List V} {us:List Value},Vals xs us->xs.all kP=true->∀u∈us,SeqAt.EqAt A s u v (lu x u)
 |_,_,.nil,_=>λu hu=>by cases hu
 |y::xs,u::us,.cons r t,f=>λu' hu=>by
  rw[List.all_cons,bX] at f;rcases a9.mp hu with rfl | hu
  ·rw[FX r f.1];exact V6 r rx f.1 fx
  ·exact sU rx fx t f.2 u' hu
noncomputable def qH(x:V)(xs:List V):Bool:=xs.any λy=>mF y x
def C7(K:FG)(neg:Bool):R2:=λx y H Q=>∃p xs,y=.ref p/\(SqL K H p xs∨SqT K H p xs)/\kP x=true/\xs.all kP=true/\Q (.bl (if neg then !qH x xs else qH x xs)) H
theorem QO:gG X (compareOp .In) (C7 X.K false):=by
 intro pins s σ H x y v u Q I rx ry h;obtain⟨p,xs,rfl,hq,fx,fs,q⟩:=h;cases ry;rcases hq with hq | hq
 ·obtain⟨its,r,pl,hz⟩:=I.list hq;refine SeqAt.in_listAt (lu x) pl.isList (λw hw=>sU rx fx r fs w (by simpa using hw)) ⟨.bl _,H,I,rfl,?_⟩;rw[show its.toArray.any (lu x)=its.any (lu x) by simp,v9 r fs];exact q
 ·obtain⟨its,r,pl,hz⟩:=I.tuple hq;refine SeqAt.in_tupleAt (lu x) pl (λw hw=>sU rx fx r fs w (by simpa using hw)) ⟨.bl _,H,I,rfl,?_⟩;rw[show its.toArray.any (lu x)=its.any (lu x) by simp,v9 r fs];exact q
theorem Zx:j2 X (.builtin "len") (λxs H Q=>∃p ys,xs=[.ref p]/\(SqL X.K H p ys∨SqT X.K H p ys)/\Q (.int ys.length) H):=by
 intro pins s σ H xs us Q I r h;obtain⟨p,ys,rfl,hq,q⟩:=h;obtain⟨u,rfl,rx⟩:=jr r;cases rx;have hn:=oa;rcases hq with hq | hq
 ·obtain⟨its,r',pl,hz⟩:=I.list hq;have hlen:=r'.length;exact Calls.call_len_list pl.isList (by simp only[bJ]<;>omega) ⟨.int ys.length,H,I.tok _,⟨s.toks+1,by rw[bJ,hlen]⟩,q⟩
 ·obtain⟨its,r',pl,hz⟩:=I.tuple hq;have hlen:=r'.length;exact len_tuple pl (by simp only[bJ]<;>omega) ⟨.int ys.length,H,I.tok _,⟨s.toks+1,by rw[bJ,hlen]⟩,q⟩
theorem VC:j2 X (.builtin "len") (λxs H Q=>∃z,xs=[.str z]/\z.length<=sizeLine/\Q (.int z.length) H):=by
 intro pins s σ H xs us Q I r h;obtain⟨z,rfl,hz,q⟩:=h;obtain⟨u,rfl,t,rfl⟩:=jr r;have hn:=oa;exact len_str ⋯ ⟨.int z.length,H,I.tok _,⟨()⟩,q⟩
theorem apQ:j2 X (.type "tuple") (λxs H Q=>∃p ys,xs=[.ref p]/\((SqL X.K H p ys/\∀l,H l=none->Q (.ref l) (upd H l (.tup ys)))∨(SqT X.K H p ys/\Q (.ref p) H))):=by
 intro pins s σ H xs us Q I r h;obtain⟨p,ys,rfl,h⟩:=h;obtain⟨u,rfl,rx⟩:=jr r;cases rx;rcases h with ⟨hq,q⟩ | ⟨hq,q⟩
 ·obtain⟨its,r',pl,hz⟩:=I.list hq;have hlen:=r'.length;refine call_tuple_list pl.isList (λh' kp=>?_) (by simp only[bJ]<;>omega);have I1:Inv X pins σ H {s with heap:=h'}:=I.kept (t':=s.toks) kp;have I2:Inv X pins σ (upd H h'.objs.size (.tup ys)) {s with heap:=h'.push {cls:=.type "tuple",data:=.seq its.toArray} }:=
   I1.laid (t':=s.toks) (λb o e=>bD _ e) (aX _) (show ObjOk X.prog X.w _ _ _ (.tup ys) from ⟨hz,its,r',IsTup.new _ _⟩)
  exact⟨.ref h'.objs.size,_,I2,rfl,q _ (I1.hok.fresh (aX _))⟩
 ·obtain⟨its,r',pl,hz⟩:=I.tuple hq;exact call_tuple_same pl ⟨.ref p,H,I,rfl,q⟩
def zm(K:FG)(T:String)(x:V)(H:Hp):Prop:=match x with
 |.str _=>T="str"
 |.int _=>T="int"
 |.ref p=>(T="list"/\∃xs,SqL K H p xs)∨(T="tuple"/\∃o,K.lookup p=some o/\o.cls=.type "tuple"/\o.dict=none)∨
   (T="dict"/\((∃kvs,H p=some (.dK kvs))∨∃kvs,H p=some (.dT kvs)))∨(T="set"/\∃S n,H p=some (.set S n))
 |_=>False
theorem IG{pins:List (Addr×Obj)}{σ:St}{H:Hp}{s:Shared}{T:String}{x:V}{v:Value}(I:Inv X pins σ H s)(r:RelV x v)(ty:zm X.K T x H):
  s.TypeIs v T/\∀a,v=.ref a->∃ob,s.heap.get? a=some ob/\ob.dict=none:=by
 cases x with
 |str z=>
  obtain⟨t,rfl⟩:=r;cases (show T="str" from ty);exact⟨typeIs_str s z t,λ_ e=>nomatch e⟩
 |int i=>
  obtain⟨t,rfl⟩:=r;cases (show T="int" from ty);exact⟨typeIs_int s i t,λ_ e=>nomatch e⟩
 |ref p=>
  cases r;rcases ty with ⟨rfl,xs,hq⟩ | ⟨rfl,o,hk,hc,hd⟩ | ⟨rfl,hk⟩ | ⟨rfl,S,n,hk⟩
  ·obtain⟨its,_,pl,_⟩:=I.list hq;refine⟨pl.isList.typeIs,λa e=>?_⟩;cases e;obtain⟨o,n,e,c,hd,_⟩:=pl;exact⟨o,e,hd⟩
  ·refine⟨⟨o,I.kIn p o hk,hc⟩,λa e=>?_⟩;cases e;exact⟨o,I.kIn _ o hk,hd⟩
  ·have z:∃o,s.heap.get? p=some o/\o.ExactDict:=by
    rcases hk with ⟨kvs,hk⟩ | ⟨kvs,hk⟩
    ·obtain⟨_,_,_,_,o,_,_,e,ex,_⟩:=I.hok p _ hk;exact⟨o,e,ex⟩
    ·obtain⟨_,_,_,_,o,_,_,e,ex,_⟩:=I.hok p _ hk;exact⟨o,e,ex⟩
   obtain⟨o,e,ex⟩:=z;refine⟨⟨o,e,ex.1⟩,λa e2=>?_⟩;cases e2;exact⟨o,e,ex.2.1⟩
  ·obtain⟨o,_,_,_,e,ex,_⟩:=I.hok p _ hk;refine⟨⟨o,e,ex.1⟩,λa e2=>?_⟩;cases e2;exact⟨o,e,ex.2.1⟩
 |_=>exact False.elim ty
def FQ(K:FG)(T:String)(r:V->List V->Hp->VK->Prop)(to:TE):TE:=λσ H Q=>to σ H λx H1=>zm K T x H1/\r x [] H1 Q
def nE(K:FG)(T:String)(r:V->List V->Hp->VK->Prop)(to:TE)(t:TA):TE:=λσ H Q=>to σ H λx H1=>zm K T x H1/\t σ H1 λxs H2=>r x xs H2 Q
variable{o e:Expr}{es:List Expr}{to:TE}{t:TA}{name:Str}{apos cpos:Pos}{T id:String}{r:V->List V->Hp->VK->Prop}
theorem Yp(pa:PlainAttrs T)(slot:Slot T name id)(hty:typeOf (.builtin id)=pure (.type "method_descriptor"))(hm:nB X id r)(ho:PE X o to)
  (hbase:attributeBase o name X.env (eval o X.env)=eval o X.env:=by rfl) (hline:(apos.endLine==cpos.line)=true:=by rfl):PE X (.Call (.Attribute o name apos) [] [] cpos) (FQ X.K T r to):=by
 intro pins s σ H Q I h;refine wpAny_Call_method0_late hbase hline (eX (ho pins s σ H _ I h) λv s1 ⟨x,H1,I1,r1,ty,q1⟩=>?_);obtain⟨h1,h2⟩:=IG I1 r1 ty;exact⟨T,id,pa,slot,hty,h1,h2,Calls.callWith_builtin rfl (PySem.evalArgs_none (hm pins s1 σ H1 x [] v [] Q I1 r1 .nil q1))⟩
theorem oZ(pa:PlainAttrs T)(slot:Slot T name id)(hty:typeOf (.builtin id)=pure (.type "method_descriptor"))(hm:nB X id r)(ho:PE X o to)(ha:PA X (e::es) t)
  (hbase:attributeBase o name X.env (eval o X.env)=eval o X.env:=by rfl)
  (hfew:((backTo cpos (starEach (e::es) X.env)).all (λx=> !x.1)&&(backToKw cpos (keywordEach [] X.env)).all (λx=>x.1.isSome)
   &&decide ((e::es).length+([]:List Keyword).length+(if ([]:List Keyword).isEmpty then 0 else 1)<30))=true:=by rfl)
  (hline:(apos.endLine==cpos.line)=true:=by rfl) (hs:starEach (e::es) X.env=(false,eval e X.env)::starEach es X.env:=by rfl) (hplain:(backTo cpos (starEach es X.env)).any (·.1)=false:=by rfl):
  PE X (.Call (.Attribute o name apos) (e::es) [] cpos) (nE X.K T r to t):=by
 intro pins s σ H Q I h;refine wpAny_Call_method_late hbase hfew hline rfl (eX (ho pins s σ H _ I h) λv s1 ⟨x,H1,I1,r1,ty,q1⟩=>?_);obtain⟨h1,h2⟩:=IG I1 r1 ty;refine⟨T,id,pa,slot,hty,h1,h2,?_⟩;have hA:=ha cpos pins s1 σ H1 _ I1 q1;rw[hs] at hA ⊢;refine Calls.callWith_builtin (by show (false||(backTo cpos (starEach es X.env)).any (·.1))=false;rw[hplain]<;>rfl) (Calls.evalArgs_plain ?_)
 exact eX hA λus s2 ⟨vs,H2,I2,r2,q2⟩=>hm pins s2 σ H2 x vs v us Q I2 r1 r2 q2
end
def QJ(X:Cx)(id:String)(r:V->List V->Hp->VK->Prop):Prop:=
 ∀(pins:List (Addr×Obj)) (s:Shared) (σ:St) (H:Hp) (x:V) (xs:List V) (v:Value) (us:List Value) (Q:VK),Inv X pins σ H s->RelV x v->Vals xs us->r x xs H Q->
  wpAny (model X.prog X.w) X.A (call (.builtin id) (v::us)) (EP X pins σ Q) X.xe s
theorem Vals.one:∀{x:V} {us:List Value},Vals [x] us->∃u,us=[u]/\RelV x u
 |_,_,.cons r .nil=>⟨(),r⟩
theorem Vals.rep{xs:List V}{us:List Value}(h:Vals xs us):∀k:Nat,Vals (List.replicate k xs).flatten (List.replicate k us).flatten
 |0=>.nil
 |k+1=>by
  rw[dE,dE,c8,c8];exact Vals.append h (Vals.rep h k)
theorem Ja(its:List Value):∀(k:Nat) (acc:List Value),
  List.foldl (λx1 x2=>x1++x2) acc.toArray (List.replicate k its.toArray)=(acc++(List.replicate k its).flatten).toArray
 |0,acc=>by simp
 |k+1,acc=>by
  have e:acc.toArray++its.toArray=(acc++its).toArray:=by simp
  have e2:(acc++its)++(List.replicate k its).flatten=acc++(List.replicate (k+1) its).flatten:=by
   rw[dE,c8,List.append_assoc]
  rw[←e2,←Ja its k (acc++its),←e,dE,List.foldl_cons]
section
variable{X:Cx}{pins:List (Addr×Obj)}{σ:St}{H:Hp}{s:Shared}{l b:Addr}{xs ys zs:List V}
theorem Inv.lset{its its':List Value}{n:Nat}{f:Array Value->Array Value}{t':Nat}(I:Inv X pins σ H s)(hH:H l=some (.lst xs))
  (e:s.heap.get? l=some {cls:=.type "list",data:=.seq its.toArray n}) (hf:f its.toArray=its'.toArray) (hv:Vals ys its') (hz:ys.length<=sizeLine):
  Inv X pins σ (upd H l (.lst ys)) {s with heap:=s.heap.update l (Obj.mapSeq f),toks:=t'}:=by
 have q:=PySem.IsL.update e f;rw[hf] at q;refine I.write (x:=l) (e:=l) (by rw[hH];exact trivial) (.inl rfl) (λb' u hb hu=>(Heap.get?_update_other s.heap (Obj.mapSeq f) (Ne.symm hb)).trans hu) ⟨_,q⟩ ?_;exact⟨hz,its',_,hv,q⟩
theorem Inv.lnew{its:List Value}{t':Nat}(I:Inv X pins σ H s)(hv:Vals ys its)(hz:ys.length<=sizeLine):
  Inv X pins σ (upd H s.heap.objs.size (.lst ys)) {s with heap:=s.heap.push {cls:=.type "list",data:=.seq its.toArray},toks:=t'}:=
 I.laid (λ_ _ q=>bD _ q) (aX _) ⟨hz,its,0,hv,bO _ rfl⟩
theorem Inv.fresh(I:Inv X pins σ H s):H s.heap.objs.size=none:=I.hok.fresh (aX _)
theorem Inv.lstM(I:Inv X pins σ H s)(hH:H l=some (.lst xs)):xs.length<=sizeLine/\∃(its:List Value) (n:Nat),Vals xs its/\xs.length=its.length/\s.heap.get? l=some {cls:=.type "list",data:=.seq its.toArray n}:=by
 obtain⟨z,its,n,r,e⟩:=I.hok l _ hH;exact⟨z,its,n,r,r.length,e⟩
theorem XN{n:Nat}(h:n<=sizeLine):Builtin.List.listTooLong n=false:=by
 unfold Builtin.List.listTooLong;exact dU ⋯
end
section
variable{X:Cx}
def J0:V->List V->Hp->VK->Prop:=λx vs H Q=>∃l xs y,x=.ref l/\vs=[y]/\H l=some (.lst xs)/\xs.length<sizeLine/\Q .non (upd H l (.lst (xs++[y])))
theorem JH:QJ X "list.append" J0:=by
 intro pins s σ H x vs v us Q I rx rv h;obtain⟨l,xs,y,rfl,rfl,hH,hz,q⟩:=h;cases rx;obtain⟨u,rfl,ru⟩:=rv.one;obtain⟨z,its,n,r,hl,e⟩:=I.lstM hH;refine call_meets F.slot_list_append ⟨_,e,rfl⟩ F.entry_list_append (F.args_list_append_2 _ _) (PySem.list_append l its.toArray n u (by rw[bJ];omega)) ⟨e,?_⟩;refine⟨.non,_,I.lset (its':=its++[u]) hH e (by simp) (r.append (.cons ru .nil)) ?_,rfl,q⟩;rw[a8,b9];omega
def IT:R2:=λx y H Q=>∃l b xs zs,x=.ref l/\y=.ref b/\H l=some (.lst xs)/\H b=some (.lst zs)/\xs.length+zs.length<=sizeLine/\∀p,H p=none->Q (.ref p) (upd H p (.lst (xs++zs)))
theorem aKH:gG X (binaryOp .Add) IT:=by
 intro pins s σ H x y v u Q I rx ry h;obtain⟨l,b,xs,zs,rfl,rfl,hH,hB,hz,q⟩:=h;cases rx;cases ry;obtain⟨z,its,n,r,hl,e⟩:=I.lstM hH;obtain⟨z2,its2,n2,r2,hl2,e2⟩:=I.lstM hB;refine PySem.P.add_list e e2 ?_ (by rw[bJ,bJ];omega);have ea:its.toArray++its2.toArray=(its++its2).toArray:=by simp
 rw[ea];exact⟨.ref _,_,I.lnew (t':=s.toks) (r.append r2) (by rw[a8];omega),rfl,q _ I.fresh⟩
def Km:R2:=λx y H Q=>∃l k xs,x=.ref l/\y=.int k/\H l=some (.lst xs)/\ -(2^63)<=k/\k<2^63/\xs.length*k.toNat<=sizeLine/\
 ∀p,H p=none->Q (.ref p) (upd H p (.lst (List.replicate k.toNat xs).flatten))
theorem Ms{α:Type}(xs:List α)(k:Nat):(List.replicate k xs).flatten.length=k*xs.length:=by
 induction k with
 |zero=>simp
 |succ k ih=>rw[dE,c8,a8,ih,Nat.succ_mul,Nat.add_comm]
theorem PL:gG X (binaryOp .Mult) Km:=by
 intro pins s σ H x y v u Q I rx ry h;obtain⟨l,k,xs,rfl,rfl,hH,h1,h2,hz,q⟩:=h;cases rx;obtain⟨t,rfl⟩:=ry;obtain⟨z,its,n,r,hl,e⟩:=I.lstM hH;have hlen:its.toArray.size*k.toNat<=sizeLine:=by rw[bJ,←hl];exact hz
 have hcap:¬its.toArray.size*k.toNat>(2^63-1) / 8:=by
  have:(sizeLine:Nat)<=(2^63-1) / 8:=by decide
  omega
 have hfit:¬(!Builtin.List.listFitsIndex k)=true:=by
  rw[fitsIndex_both h1 h2];exact bF
 have hlong:¬Builtin.List.listTooLong (its.toArray.size*k.toNat)=true:=by
  rw[XN hlen];exact bF
 have hnew:List.foldl (λx1 x2=>x1++x2) #[] (List.replicate (if its.toArray.isEmpty=true then 0 else k.toNat) its.toArray)=(List.replicate k.toNat its).flatten.toArray:=by
  have f0:∀m:Nat,List.foldl (λx1 x2=>x1++x2) #[] (List.replicate m its.toArray)=(List.replicate m its).flatten.toArray:=λm=>by
   have:=Ja its m [];rw[List.nil_append] at this;exact this
  rw[f0];cases its with
  |nil=>simp
  |cons a r'=>rw[if_neg (by simp)]
 refine wpAny_binaryOp_repeat_ref (T:="list") (U:="int") (by decide) ⟨_,e,rfl⟩ (λs'=>typeIs_int s' k t) noFill_list_mul F.fills_int_mul F.slot_int_rmul repeat_list F.slot_int_index.lookup
  (call_meets F.slot_int_rmul (typeIs_int s k t) F.entry_int_rmul (F.args_int_rmul_2 _ _) (int___rmul___int_list k t l its.toArray n)
   ⟨e,rfl,⟨_,e,rfl⟩,call_meets F.slot_list_mul ⟨_,e,rfl⟩ F.entry_list_mul (F.args_list_mul_2 _ _) (AutoListH.list___mul___list_int_3 l its.toArray n k t hfit hcap hlong) ⟨e,?_⟩⟩)
 rw[hnew];exact⟨.ref _,_,I.lnew (t':=s.toks) (r.rep k.toNat) (by rw[Ms,Nat.mul_comm];exact hz),rfl,q _ I.fresh⟩
end
end L2
namespace Att
open PySem PySem.W PySem.Calls PyProof.Rows
theorem Th{P:Params}{h:Heap}:∀(ns:List Int) (vs:List Value),WellAll P h vs (ns.map WData.int)->IntsAre vs ns:=by
 intro ns;induction ns with
 |nil=>
  intro vs w;rw[List.map_nil] at w;cases w;exact .nil
 |cons n ns ih=>
  intro vs w;rw[List.map_cons] at w;cases w with
  |cons a b=>
   cases a;exact .cons _ _ (ih _ b)
theorem Qd{l:OpenLaw}{n:Nat}(hn:l.most=some n){P:Params}{h:Heap}{args:List WData}{vals:List Value}
  (hpre:l.row.toRowW.claim.pre args=true) (hwl:WellAll P h vals args):
  ∃a vs ns,vals=[Value.ref a]/\args=[WData.list (ns.map WData.int)]/\h.get? a=some {cls:=.type "list",data:=.seq vs.toArray}/\IntsAre vs ns/\ns.length<=n:=by
 have hsh:WShape.hasAll [] args [.list .int]=true:=(pre_splitW hpre).1;have hc:l.pre.holds [] {args:=args}=true:=(pre_splitW hpre).2;obtain⟨d,r,rfl,h1,h2⟩:=hasAllW_cons hsh;obtain rfl:=hasAllW_nil h2;obtain⟨xs,rfl,h3⟩:=hasW_list h1;obtain⟨ns,rfl⟩:=items_int h3;have hlen:ns.length<=n:=by
  unfold OpenLaw.pre at hc;have h4:(WTm.not (.lt (.lit (.int (n:Int))) (.len (.arg 0)))).holds [] {args:=[.list (ns.map .int)]}=true:=by
   have h4:=(holds_andW hc).1;rw[hn] at h4;exact h4
  have h5:=condW_of h4 (w_not (w_lt w_lit (w_len_list (w_arg rfl))));rw[List.length_map] at h5;refine Nat.le_of_not_lt λq=>?_;have q':(n:Int)<((ns.length:Nat):Int):=⋯
  first
   |(rw[decide_eq_true q'] at h5;exact absurd h5 (by decide))
   |(simp at h5;omega)
 cases hwl with
 |cons w1 w2=>
  cases w2;cases w1 with
  |list ho hall=>exact⟨_,_,ns,rfl,rfl,ho,Th ns _ hall,hlen⟩
theorem WO(l:OpenLaw)(args:List WData):l.row.toRowW.claim.post args (.bool true) args=true:=
 postW_of (r:=l.row.toRowW) (X:=(true==true))
  (show WShape.has [] (.bool true) .bool=true by first | rfl | decide | simp[WShape.has,WShape.arms,WShape.armsAll])
  (show (WTm.eq .res (.lit (.bool true))).value [] {args:=args,res:=some (.bool true),after:=args}=some (.bool (true==true)) from w_eq_bool (w_res rfl) w_lit) rfl
theorem attach_call{l:OpenLaw}{n:Nat}{q:Program}{loose:List Str}{XP:(Str->Option Value)->Heap->Prop}{YP:World->Heap->Prop}{d:DefRec}
  (hn:l.most=some n) (hdf:d.params.defaults=[])
  (call:∀(w:World) (s₀ s₁:Shared) (mg mb:Str->Option Value) (fa:Addr) (o:Obj) (pm cd doc:Value) (a:Addr) (vs:List Value) (ns:List Int),
   Ground q loose [] XP w s₀ mg mb s₁.heap->YP w s₁.heap->
   s₁.heap.get? fa=some o->o.data=.func (docDef d.name d.params d.body d.scope pm cd doc)->s₁.heap.CodeRec cd d.name->mg d.name=some (.ref fa)->
   s₁.heap.get? a=some {cls:=.type "list",data:=.seq vs.toArray}->IntsAre vs ns->ns.length<=n->s₁.gens= #[]->
   codeAny (model l.prog w) callerA (.call (.ref fa) ⟨[.ref a],[]⟩) (λr s'=>r=.ok (.ret (.bool true))/\OldK s₁.heap s'.heap/\s'.os=s₁.os/\AllBare s'.gens) s₁):
  WalkO q loose XP YP l.row.toRowW d [] (λf vs=>PySem.call f vs):=by
 intro w s₀ s₁ mg mb G Y fa o pm cd doc dV kV ho hd hcd hD hmg hg args vals as hpre hlay hrd hwl hlo;obtain rfl:dV=.none:=Dflts.none hD hdf;obtain rfl:kV=.none:=Dflts.noKw hD;obtain⟨a,vs,ns,rfl,rfl,hobj,hints,hlen⟩:=Qd hn hpre hwl;refine enter_call (codeAny_mono (call w s₀ s₁ mg mb fa o pm cd doc a vs ns G Y ho (fd_plain hd) hcd hmg hobj hints hlen hg) λr s' hq=>?_);obtain⟨rfl,h2,h3,h4⟩:=hq;exact⟨.inl ⟨.bool true,.bool true,[],rfl,λ_=>rfl,.bool true,WO l _,λ_=>⟨List.Pairwise.nil,λ_ hm=>(nomatch hm)⟩⟩,h2,h3,h4⟩
end Att
namespace L2
open PySem PySem.Spec PyProof.Rows
theorem JC:∀{vs:List Value} {ns:List Int},IntsAre vs ns->Vals (ns.map V.int) vs
 |_,_,.nil=>.nil
 |_,_,.cons n t h=>.cons ⟨t,rfl⟩ (JC h)
noncomputable def gu(s:Stmt)(j:Nat):Stmt:=match s with
 |.ClassDef _ _ _ body _ _ _ _ _ _ _=>body.getD j (.Pass ⟨0,0,0,0⟩)
 |_=>.Pass ⟨0,0,0,0⟩
noncomputable def jg(s:Stmt):Arguments:=match s with
 |.FunctionDef _ a _ _ _ _ _ _ _ _=>a
 |_=>{posonlyargs:=[],args:=[],vararg:=none,kwonlyargs:=[],kw_defaults:=[],kwarg:=none,defaults:=[]}
noncomputable def iy(s:Stmt):List Stmt:=match s with
 |.FunctionDef _ _ b _ _ _ _ _ _ _=>b
 |_=>[]
noncomputable def eP(s:Stmt):Scope:=match s with
 |.FunctionDef _ _ _ _ _ _ sc _ _ _=>sc
 |_=>{kind:=.function,names:=[],isGenerator:=false,isCoroutine:=false}
abbrev i7:lC:=λ_ _ _ _ _ _=>False
abbrev E0:XK:=λ_ _ _=>False
theorem ny{X:Cx}:l4 i7 X E0:=λ_ _ _ _ _ _ _ h=>h.elim
structure Fun(K:FG)(x qual:Str)(st:Stmt)(f:Addr)(fd:FuncData):Prop where
 ex:∃(oc:Value) (od:Option Addr) (kV doc pm:Value) (an:Option Addr) (cdv ct:Value) (osl:Array (Option Value)),
  fd=PySem.W.fnOf x qual (jg st) (iy st) (eP st) .none kV doc pm an cdv ct/\K.lookup f=some ⟨oc,od,.func fd,osl⟩/\PySem.W.codeIn K cdv qual=true
 kp:PySem.W.keepIn K (.ref f)=true
section
variable{P:Program}{w:World}{K:FG}{mg:Str->Option Value}{base:Heap}
theorem Fun.ok{x qual:Str}{st:Stmt}{f:Addr}{fd:FuncData}{N ps:List Str}{k:Nat}{sp:Sp}(F:Fun K x qual st f fd)(S:dZ N ps (eP st))(len:∀vs H Q E,sp vs H Q E->vs.length=ps.length)
  (hbody:∀(cdv:Value) (A:Around) (outer:List Env) (s:Shared) (H:Hp) (vs:List V) (Q:VK) (E:XK),Room k (A.deeper (envOfC qual (eP st) s.heap.objs.size f cdv))->sp vs H Q E->
   ∃t,PSs (mf i7 P w K mg base N qual (eP st) f cdv A outer s H E).nox (iy st) t/\t {nx:=λ_ H'=>Q .non H',rt:=Q} (start N vs) H):gz P w K mg base i7 (k+1) f fd ps sp:=by
 obtain⟨oc,od,kV,doc,pm,an,cdv,ct,osl,rfl,lk,hcd⟩:=F.ex;refine uW lk hcd S len λA outer s H vs Q E hr hsp=>?_;obtain⟨t,h,q⟩:=hbody cdv A outer s H vs Q E hr hsp;exact⟨t,h.nox,q⟩
theorem Fun.binds{x qual:Str}{st:Stmt}{f:Addr}{fd:FuncData}{ps:List Str}(F:Fun K x qual st f fd)
  (h:∀(kV doc pm:Value) (an:Option Addr) (cdv ct:Value) (us:List Value),us.length=ps.length->bindArgs (PySem.W.fnOf x qual (jg st) (iy st) (eP st) .none kV doc pm an cdv ct) ⟨us,[]⟩=pure (ps.zip us)):Binds K fd ps []:=by
 obtain⟨oc,od,kV,doc,pm,an,cdv,ct,osl,rfl,lk,hcd⟩:=F.ex;exact .all (h kV doc pm an cdv ct)
theorem rm{x qual:Str}{st:Stmt}{f:Addr}{oc:Value}{od an:Option Addr}{osl:Array (Option Value)}{kV doc pm cdv ct:Value}(l:K.lookup f=some ⟨oc,od,.func (PySem.W.fnOf x qual (jg st) (iy st) (eP st) .none kV doc pm an cdv ct),osl⟩)
  (c:PySem.W.codeIn K cdv qual=true) (k:PySem.W.keepIn K (.ref f)=true):Fun K x qual st f (PySem.W.fnOf x qual (jg st) (iy st) (eP st) .none kV doc pm an cdv ct):=⟨⟨oc,od,kV,doc,pm,an,cdv,ct,osl,rfl,l,c⟩,k⟩
end
theorem fW{A B:Prop}(h:B):if false=true then A else B:=by
 rw[if_neg bF];exact h
theorem gE{A B:Prop}(h:A):if true=true then A else B:=by
 rw[if_pos rfl];exact h
theorem xE{c A B:Prop}[Decidable c](h1:c->A)(h2:¬c->B):if c then A else B:=by
 by_cases h:c
 ·rw[if_pos h];exact h1 h
 ·rw[if_neg h];exact h2 h
def Same(H H':Hp):Prop:=∀b o,H b=some o->H' b=some o
theorem Same.refl(H:Hp):Same H H:=λ_ _ h=>h
theorem Same.trans{H H1 H2:Hp}(a:Same H H1)(b:Same H1 H2):Same H H2:=λc o h=>b c o (a c o h)
theorem Same.seq{K:FG}{H H':Hp}{a:Addr}{xs:List V}(e:Same H H')(h:SqL K H a xs):SqL K H' a xs:=by
 rcases h with (h | ⟨o,h⟩) | h
 ·exact .inl (.inl (e _ _ h))
 ·exact .inl (.inr ⟨o,e _ _ h⟩)
 ·exact .inr h
section
variable{X:Cx}
theorem RA:j2 X (.builtin "isinstance") (λxs H Q=>∃i:Int,xs=[.int i,.ty "int"]/\Q (.bl true) H):=by
 intro pins s σ H xs us Q I r h;obtain⟨i,rfl,q⟩:=h;obtain⟨u,w',rfl,⟨t,rfl⟩,r2⟩:=mO r;cases r2;exact PySem.IsiPair.int_int ⟨.bl true,H,I,rfl,q⟩
theorem Pe:j2 X (.builtin "isinstance") (λxs H Q=>∃i:Int,xs=[.int i,.ty "bool"]/\Q (.bl false) H):=by
 intro pins s σ H xs us Q I r h;obtain⟨i,rfl,q⟩:=h;obtain⟨u,w',rfl,⟨t,rfl⟩,r2⟩:=mO r;cases r2;exact PySem.IsiPair.int_bool ⟨.bl false,H,I.tok _,rfl,q⟩
end
structure Df(P:Program)(w:World)(K:FG)(mg:Str->Option Value)(base:Heap)(x:Str)(k:Nat)(ps:List Str)(sp:Sp):Prop where
 ex:∃(f:Addr) (fd:FuncData),gz P w K mg base i7 k f fd ps sp/\Binds K fd ps []/\mg x=some (.ref f)/\PySem.W.keepIn K (.ref f)=true
structure Fn(K:FG)(mg:Str->Option Value)(x:Str)(st:Stmt)(ps:List Str):Prop where
 ex:∃(f:Addr) (fd:FuncData),Fun K x x st f fd/\Binds K fd ps []/\mg x=some (.ref f)
section
variable{P:Program}{w:World}{K:FG}{mg:Str->Option Value}{base:Heap}{x:Str}{st:Stmt}{ps N:List Str}{k:Nat}{sp:Sp}
theorem Fn.df(F:Fn K mg x st ps)(S:dZ N ps (eP st))(len:∀vs H Q E,sp vs H Q E->vs.length=ps.length)
  (hbody:∀(f:Addr) (cdv:Value) (A:Around) (outer:List Env) (s:Shared) (H:Hp) (vs:List V) (Q:VK) (E:XK),Room k (A.deeper (envOfC x (eP st) s.heap.objs.size f cdv))->sp vs H Q E->
   ∃t,PSs (mf i7 P w K mg base N x (eP st) f cdv A outer s H E).nox (iy st) t/\t {nx:=λ_ H'=>Q .non H',rt:=Q} (start N vs) H):Df P w K mg base x (k+1) ps sp:=by
 obtain⟨f,fd,F1,hb,hm⟩:=F.ex;exact⟨⟨f,fd,F1.ok S len (hbody f),hb,hm,F1.kp⟩⟩
theorem fF{h:Heap}{f:Addr}{oc:Value}{od an:Option Addr}{osl:Array (Option Value)}{kV doc pm cdv ct:Value}(X:K.In h)(G:h.Ns mainGlobals mg)
  (a:PySem.W.nsIn K mainGlobals x=some (some (.ref f))) (l:K.lookup f=some ⟨oc,od,.func (PySem.W.fnOf x x (jg st) (iy st) (eP st) .none kV doc pm an cdv ct),osl⟩)
  (c:PySem.W.codeIn K cdv x=true) (k:PySem.W.keepIn K (.ref f)=true)
  (hb:∀(kV doc pm:Value) (an:Option Addr) (cdv ct:Value) (us:List Value),us.length=ps.length->bindArgs (PySem.W.fnOf x x (jg st) (iy st) (eP st) .none kV doc pm an cdv ct) ⟨us,[]⟩=pure (ps.zip us)):Fn K mg x st ps:=by
 have F:=rm (st:=st) l c k;exact⟨⟨f,_,F,F.binds (ps:=ps) hb,PySem.W.mg_of X G a⟩⟩
end
section
variable{X:Cx}
theorem RF{x:Str}{k k':Nat}{ps:List Str}{sp:Sp}{e:Expr}{es:List Expr}{t:TA}{p pos:Pos}(D:Df X.prog X.w X.K X.mg X.base x k ps sp)(hr:Room k' X.A)(ha:PA X (e::es) t)(hk:k<=k':=by decide)(hg:Gl X x:=by rfl)
  (hdb:(x==("__debug__":Str))=false:=by decide) (he:starEach (e::es) X.env=(false,eval e X.env)::starEach es X.env:=by rfl) (hpl:(backTo pos (starEach es X.env)).any (·.1)=false:=by rfl):
  PE X (.Call (.Name x p) (e::es) [] pos) (mK sp [] E0 t):=by
 obtain⟨f,fd,F,hb,hm,kp⟩:=D.ex;exact WA F (hr.mono hk) hg hm kp hb .nil ny ha hdb he hpl
end
theorem eJ{H:Hp}{p:Addr}(h:H p=none)(o:HO):Same H (upd H p o):=λb u q=>by rw[eW (gT q h)];exact q
theorem int_eq{a b:Int}:(V.int a=V.int b)↔a=b:=⟨λh=>V.int.inj h,λh=>by rw[h]⟩
theorem gV{a b:Int}{A B:Prop}(h1:a=b->A)(h2:¬a=b->B):if decide (V.int a=V.int b)=true then A else B:=
 xE (λc=>h1 (int_eq.mp (dP c))) (λc=>h2 λe=>c (dQ (int_eq.mpr e)))
theorem EH{a b:Int}{A B:Prop}(h1:¬a=b->A)(h2:a=b->B):if (!decide (V.int a=V.int b))=true then A else B:=by
 by_cases e:a=b
 ·rw[dQ (int_eq.mpr e)];exact fW (h2 e)
 ·rw[dU λq=>e (int_eq.mp q)];exact gE (h1 e)
theorem hW{c:Prop}[Decidable c]{A B:Prop}(h1:c->A)(h2:¬c->B):if decide c=true then A else B:=
 xE (λq=>h1 (dP q)) (λq=>h2 λe=>q (dQ e))
theorem uI{a b:Int}{A B:Prop}(e:a=b)(h:B):if (!decide (V.int a=V.int b))=true then A else B:=by
 rw[dQ (int_eq.mpr e)];exact fW h
noncomputable def pX:Expr->Option Int
 |.Constant (.int i) _ _=>some i
 |_=>none
def Kn(is:List Int):TA:=λ_ H Q=>Q (is.map V.int) H
theorem Eh{X:Cx}:∀{es:List Expr} (is:List Int),es.map pX=is.map some->PA X es (Kn is)
 |[],[],_=>lH
 |[],_::_,h=>by cases h
 |_::_,[],h=>by cases h
 |e::es,i::is,h=>by
  have h1:pX e=some i:=(List.cons.inj h).1;have h2:es.map pX=is.map some:=(List.cons.inj h).2;obtain⟨j,pos,rfl⟩:∃j pos,e=.Constant (.int i) j pos:=by
   unfold pX at h1;split at h1
   ·cases h1;exact⟨_,()⟩
   ·cases h1
  exact kZ Io (Eh is h2)
structure jh(X:Cx)(scope:Scope)(cl:List (Str×Addr)):Prop where
 is:closureFor scope X.env=pure cl
 sub:∀y c,cl.lookup y=some c->X.env.cells.lookup y=some c
 has:∀y,scope.names.lookup y=some .free->∃c,cl.lookup y=some c
 nocell:∀y∈scope.names,y.2≠ .cell
 kind:scope.kind=.function
 names:∀y∈scope.names,y.2=.local->scope.names.lookup y.1=some .local
noncomputable def g8(X:Cx)(N:List Str)(scope:Scope)(cl:List (Str×Addr))(C:Addr)(ex:List Addr)(pins:List (Addr×Obj))(s:Shared)(H:Hp):Cx:=
 {X with N:=N,s₀:=s,H₀:=H,env:=compEnvC scope cl C X.env,outer:=X.stack,stack:=X.stack,ex:=ex,fn:=λ_=>false,pn:=X.pn++pins,xe:=λ_ _=>False}
noncomputable def gZ(js:List Nat)(σ:St):St:=js.map λj=>(σ[j]?).getD none
noncomputable def JV(ifs:List Expr)(env:Env):Sem Bool:=
 forIn ifs true λc r=>if r=true then (do let ok ←isTrue c env (eval c env);pure (ForInStep.yield ok)) else pure (ForInStep.yield r)
def PF(X:Cx)(ifs:List Expr)(t:TT):Prop:=
 ∀(pins:List (Addr×Obj)) (s:Shared) (σ:St) (H:Hp) (Q:Bool->Hp->Prop),Inv X pins σ H s->t σ H Q->
  wpAny (model X.prog X.w) X.A (JV ifs X.env) (TP X pins σ Q) X.xe s
def Gy:TT:=λ_ H Q=>Q true H
theorem aJB{X:Cx}:PF X [] Gy:=λ_ _ _ H _ I h=>wpAny_tests_nil ⟨H,I,h⟩
theorem L4{X:Cx}{c:Expr}{t:TT}(h:PT X c t):PF X [c] t:=λpins s σ H Q I q=>wpAny_tests_one (h pins s σ H Q I q)
def mr(J:It)(js:List Nat)(σ:St)(tt:TT)(te:TE)(Q:VK)(H1:Hp):Prop:=∀D,H1 D=none->∃W:Nat->Nat->Hp->Prop,(∃m,W 0 m (upd H1 D (.lst [])))/\∀i m H2,W i m H2->
 (J.stop i H2/\Q (.ref D) H2)∨(J.go i H2/\∀v H3,J.yld i H2 v H3->tt (some v::gZ js σ) H3 λb H4=>if b=true then
  te (some v::gZ js σ) H4 λy H5=>∃ys,H5 D=some (.lst ys)/\ys.length<sizeLine/\∃m',m'<m/\W (i+1) m' (upd H5 D (.lst (ys++[y])))
  else ∃m',m'<m/\W (i+1) m' H4)
def I8(wi:TI)(js:List Nat)(tt:TT)(te:TE):TE:=λσ H Q=>wi σ H λJ H1=>mr J js σ tt te Q H1
noncomputable def lP(env:Env)(n:Str)(k:NameKind):NameKind:=if (k==NameKind.free&&env.scope.kind== .function&&env.kindOf n==some .cell) then .cell else k
theorem Yg{env:Env}{n:Str}{k:NameKind}:(if (k==NameKind.free&&env.scope.kind== .function&&env.kindOf n==some .cell) then (n,NameKind.cell) else (n,k))=(n,lP env n k):=by
 unfold lP;split<;>rfl
theorem GB{env:Env}:∀(names:List (Str×NameKind)) (x:Str),(relabel {kind:=.function,names:=names,isGenerator:=false,isCoroutine:=false} env).names.lookup x=(names.lookup x).map (lP env x)
 |[],_=>rfl
 |(n,k)::r,x=>by
  have ih:=GB (env:=env) r x;unfold relabel at ih ⊢;dsimp only at ih ⊢;rw[bM];dsimp only;rw[Yg,c9,c9,ih];cases hx:x==n with
  |true=>
   have e:x=n:=by simpa using hx
   rw[e];rfl
  |false=>rfl
theorem zP{env:Env}(scope:Scope)(x:Str):(relabel scope env).names.lookup x=(scope.names.lookup x).map (lP env x):=GB scope.names x
theorem Oj{env:Env}{x:Str}{o:Option NameKind}(hc:o≠some .cell)(h:o.map (lP env x)=some .cell∨o.map (lP env x)=some .free):o=some .free:=by
 cases o with
 |none=>rcases h with h | h<;>cases h
 |some k=>
  by_cases e:k=.free
  ·rw[e]
  ·have z:lP env x k=k:=by
    unfold lP;have e':(k==NameKind.free)=false:=by simpa using e
    rw[e'];rfl
   rw[dA,z] at h;rcases h with h | h
   ·exact absurd h hc
   ·exact h
theorem Pg{env:Env}{scope:Scope}{x:Str}(h:scope.names.lookup x=some .free):(relabel scope env).names.lookup x=some .cell∨(relabel scope env).names.lookup x=some .free:=by
 rw[zP,h,dA];unfold lP;split
 ·exact .inl rfl
 ·exact .inr rfl
theorem Qv{prog:Program}{w:World}{A:Around}{R:Result->Shared->Prop}{s:Shared}{elt tg iter:Expr}{ifs:List Expr}{scope:Scope}{pos:Pos}{it acc:Value}{env:Env}{EN:Value->Shared->Prop}
  (hEN:EN=notedBy (model prog w) A env λe s'=>R (.error e) s') (B:Nat->Shared->Prop)
  (turn:∀n s,B n s->wpAny (model prog w) A (pyNext it) (λr s₁=>match r with
   |none=>R (.ok .next) s₁
   |some v=>wpAny (model prog w) A (letOwnedTupleGo tg it v) (λ_ s₂=>wpAny (model prog w) A (assign tg env v) (λ_ s₃=>
     wpAny (model prog w) A (JV ifs env) (λok s₄=>
      if ok=true then wpAny (model prog w) A (eval elt env) (λz s₅=>wpAny (model prog w) A (call (.builtin "list.append") [acc,z]) (λ_ s₆=>∃m,m<n/\B m s₆) EN s₅) EN s₄
      else ∃m,m<n/\B m s₄) EN s₃) EN s₂) EN s₁) EN s) (n:Nat) (h:B n s):
  codeAny (model prog w) A (.compLoop (.ListComp elt [⟨tg,iter,ifs,0⟩] scope pos) 0 it acc env) R s:=by
 subst hEN;refine codeAny_loop rfl B (λn s hI=>?_) n h;refine wpAny_noted (m:=compTurn (.ListComp elt [⟨tg,iter,ifs,0⟩] scope pos) 0 it acc env) ?_;rw[compTurn_list];refine dJ (wpAny_standAt (dJ (dM (turn n s hI) (λr s₁ h₁=>?_) λ_ _ z=>z)));cases r with
 |none=>exact dX h₁
 |some v=>
  refine dJ (dM h₁ (λ_ s₂ h₂=>?_) λ_ _ z=>z);refine dJ (dM h₂ (λ_ s₃ h₃=>?_) λ_ _ z=>z);refine dJ (dM h₃ (λok s₄ h₄=>?_) λ_ _ z=>z);cases ok with
  |false=>exact dX ⟨rfl,h₄⟩
  |true=>
   refine dJ (dJ (dM h₄ (λz s₅ h₅=>?_) λ_ _ q=>q));exact dJ (dM h₅ (λ_ s₆ h₆=>dX (dX ⟨rfl,h₆⟩)) λ_ _ q=>q)
theorem wy(env:Env):∀(names:List (Str×NameKind)) (acc:List (Str×Addr)),names.all (λy=>y.2 != .free||(env.cells.lookup y.1).isSome)=true->
  ∃cl:List (Str×Addr),(forIn (m:=Sem) names acc λx r=>(do
   let (name,kind):=x
   if kind== .free then do let c ←cellOf env name;pure (ForInStep.yield ((name,c)::r)) else pure (ForInStep.yield r)))=(pure cl:Sem _)/\
   (∀y c,cl.lookup y=some c->env.cells.lookup y=some c∨acc.lookup y=some c)/\(∀y,(∃c,acc.lookup y=some c)->∃c,cl.lookup y=some c)/\(∀y,(y,NameKind.free)∈names->∃c,cl.lookup y=some c)
 |[],acc,_=>⟨acc,rfl,λ_ _ h=>.inr h,λ_ h=>h,λ_ h=>nomatch h⟩
 |(n,k)::r,acc,h=>by
  rw[List.all_cons,bX] at h;by_cases hk:k=.free
  ·subst hk;have h1:(env.cells.lookup n).isSome=true:=by simpa using h.1
   obtain⟨c,hc⟩:=c6.mp h1;obtain⟨cl,e,p1,p2,p3⟩:=wy env r ((n,c)::acc) h.2;refine⟨cl,?_,λy c' hy=>?_,λy hy=>?_,λy hy=>?_⟩
   ·rw[←e];have q:cellOf env n=(pure c:Sem Addr):=by unfold cellOf;rw[hc]
    rw[List.forIn_cons];dsimp only;rw[if_pos (show (NameKind.free==NameKind.free)=true from rfl),q];rfl
   ·rcases p1 y c' hy with z | z
    ·exact .inl z
    ·rw[c9] at z;cases hyn:y==n with
     |true=>
      rw[hyn] at z;have e1:y=n:=by simpa using hyn
      have e2:c=c':=by simpa using z
      rw[e1,←e2];exact .inl hc
     |false=>
      rw[hyn] at z;exact .inr z
   ·refine p2 y ?_;rw[c9];cases hyn:y==n with
    |true=>exact⟨c,rfl⟩
    |false=>exact hy
   ·rcases a9.mp hy with z | z
    ·refine p2 y ⟨c,?_⟩;have e1:y=n:=(Prod.mk.inj z).1;rw[e1,c9];simp
    ·exact p3 y z
  ·obtain⟨cl,e,p1,p2,p3⟩:=wy env r acc h.2;have hk':(k==NameKind.free)=false:=by simpa using hk
   refine⟨cl,?_,p1,p2,λy hy=>?_⟩
   ·rw[←e];rw[List.forIn_cons];dsimp only;rw[if_neg (by rw[hk'];exact bF)];rfl
   ·rcases a9.mp hy with z | z
    ·exact absurd (Prod.mk.inj z).2.symm hk
    ·exact p3 y z
theorem qD{X:Cx}{scope:Scope}(h:scope.names.all (λy=>y.2 != .free||(X.env.cells.lookup y.1).isSome)=true)(h2:scope.names.all (λy=>y.2 != .cell)=true)(h3:scope.kind=.function)
  (h4:scope.names.all (λy=>y.2 != .local||scope.names.lookup y.1==some .local)=true):∃cl,jh X scope cl:=by
 obtain⟨cl,e,p1,p2,p3⟩:=wy X.env scope.names [] h;refine⟨cl,?_,λy c hy=>?_,λy hy=>p3 y (PySem.mem_of_lookup hy),λy hy=>by simpa using cJ.mp h2 y hy,h3,λy hy hl=>?_⟩
 ·unfold closureFor;exact Eq.trans (congrArg (λt:Sem (List (Str×Addr))=>t >>=λr=>(pure r:Sem (List (Str×Addr)))) e) rfl
 ·rcases p1 y c hy with z | z
  ·exact z
  ·simp at z
 ·have q:=cJ.mp h4 y hy;simpa [hl] using q
section
variable{js:List Nat}{σ:St}{tt:TT}{te:TE}{Q:VK}{H1:Hp}
theorem p4{lo:Int}{n:Nat}(R:Nat->List V->Prop)(hn:n<=sizeLine)(h0:R 0 [])
  (hs:∀(i:Nat) (l:List V) (D:Addr) (H2:Hp) (E:V->Hp->Prop) (F:Hp->Prop),i<n->R i l->H1 D=none->Same H1 H2->H2 D=some (.lst l)->(∀y H5,Same H2 H5->R (i+1) (l++[y])->E y H5)->(∀H4,Same H2 H4->R (i+1) l->F H4)->
   tt (some (.int (lo+i))::gZ js σ) H2 λb H4=>if b=true then te (some (.int (lo+i))::gZ js σ) H4 E else F H4)
  (hd:∀(D:Addr) (H2:Hp) (l:List V),R n l->H1 D=none->Same H1 H2->H2 D=some (.lst l)->Q (.ref D) H2):mr (lT lo n) js σ tt te Q H1:=by
 intro D hD;refine⟨λi m H2=>m=n-i/\i<=n/\Same H1 H2/\∃l,H2 D=some (.lst l)/\l.length<=i/\R i l,⟨n,by simp,bK _,eJ hD _,[],eF,aX _,h0⟩,?_⟩;rintro i m H2 ⟨rfl,hi,s2,l,h2,hll,hR⟩;by_cases hlt:i<n
 ·refine .inr ⟨hlt,λv H3 y=>?_⟩;obtain⟨e,ev⟩:=y;subst e ev;refine hs i l D _ _ _ hlt hR hD s2 h2 (λz H5 s5 r5=>?_) (λH4 s4 r4=>?_)
  ·refine⟨l,s5 _ _ h2,cQ hll (bC hlt hn),n-(i+1),⋯,rfl,hlt,λb o hb=>?_,l++[z],eF,by rw[a8,b9];omega,r5⟩;rw[eW (gT hb hD)];exact s5 _ _ (s2 _ _ hb)
  ·exact⟨n-(i+1),⋯,rfl,hlt,s2.trans s4,l,s4 _ _ h2,⋯,r4⟩
 ·have e:i=n:=⋯;subst e;exact .inl ⟨aX _,hd D H2 l hR hD s2 h2⟩
end
structure E(X:Cx)(e:Expr)(t:TE):Prop where
 h:PE X e t
structure T(X:Cx)(e:Expr)(t:TT):Prop where
 h:PT X e t
structure TW(X:Cx)(e:Expr)(t:TT):Prop where
 h:PW X e t
structure As(X:Cx)(es:List Expr)(t:TA):Prop where
 h:PA X es t
structure S(X:Cx)(st:Stmt)(t:TS):Prop where
 h:PS X st t
structure Ss(X:Cx)(sts:List Stmt)(t:TS):Prop where
 h:PSs X sts t
structure Il(X:Cx)(tg iter:Expr)(wi:TI):Prop where
 h:PI X tg iter wi
structure Gt(X:Cx)(tg:Expr)(t:TG):Prop where
 h:PG X tg t
structure p8(X:Cx)(ts:List Expr)(t:j3):Prop where
 h:ph X ts t
structure Fs(X:Cx)(ifs:List Expr)(t:TT):Prop where
 h:PF X ifs t
structure gF(X:Cx)(f:Value->Value->Sem Value)(r:R2):Prop where
 h:gG X f r
structure tL(X:Cx)(f:Value->Sem Value)(r:V->Hp->VK->Prop):Prop where
 h:oI X f r
structure io(X:Cx)(f:Value)(r:List V->Hp->VK->Prop):Prop where
 h:j2 X f r
structure oi(X:Cx)(r:R2):Prop where
 h:oF X r
section
variable{X:Cx}{a b c e:Expr}{pos p:Pos}{ta tb tc te:TE}{t u:TT}{rest es:List Expr}{tA:TA}{op op':CmpOp}{r r':R2}{x:Str}
theorem v_(i:Nat)(hN:X.N[i]? =some x:=by rfl)(hv:tV X.env.scope x:=by first | exact Or.inl rfl | exact Or.inr (Or.inl rfl) | exact Or.inr (Or.inr rfl))(hd:(x==("__debug__":Str))=false:=by decide)(hcd:(x==("__classdict__":Str))=false:=by decide):
  E X (.Name x pos) (mP i):=⟨YX hN hv hd hcd⟩
theorem eI{i j}:E X (.Constant (.int i) j pos) (tC (.int i)):=⟨Io⟩
theorem eB{k j}:E X (.Constant (.bool k) j pos) (tC (.bl k)):=⟨aQ8⟩
theorem eN{j}:E X (.Constant .none j pos) (tC .non):=⟨aKJ⟩
theorem eS{z j}:E X (.Constant (.str z) j pos) (tC (.str z)):=⟨Kb⟩
theorem fN{v:V}{w':Value}(hm:X.mg x=some w')(q:RelV v w')(hg:Gl X x:=by rfl)(hd:(x==("__debug__":Str))=false:=by decide):E X (.Name x pos) (tC v):=⟨ML hg hm q hd⟩
theorem l6{n:String}(hm:X.mg x=none)(hv:bootBuiltins x=some (.type n))(hg:Gl X x:=by rfl)(hn:x≠"__name__":=by decide)(hd:(x==("__debug__":Str))=false:=by decide):E X (.Name x pos) (tC (.ty n)):=⟨Ww hg hm hv rfl hn hd⟩
theorem eC{o:Operator}(ho:gF X (binaryOp o) r)(ha:E X a ta)(hb:E X b tb):E X (.BinOp a o b pos) (mq r ta tb):=⟨Ro ho.h ha.h hb.h⟩
theorem kQ{o:UnaryOp}{r1:V->Hp->VK->Prop}(ho:tL X (unaryOp o) r1)(ha:E X a ta):E X (.UnaryOp o a pos) (GI r1 ta):=⟨MU ho.h ha.h⟩
theorem jD(ho:gF X (compareOp op) r)(ha:E X a ta)(hb:E X b tb)(hm:behindInMarks op b=false:=by first | exact Hv _ | rfl):E X (.Compare a [op] [b] pos) (mq r ta tb):=⟨YM ho.h ha.h hb.h hm⟩
theorem JX(ho:gF X (compareOp op) r)(ho':gF X (compareOp op') r')(ha:E X a ta)(hb:E X b tb)(hc:E X c tc)(hm:lastMarks [op,op'] [b,c]=false:=by with_unfolding_all rfl):E X (.Compare a [op,op'] [b,c] pos) (qu r r' ta tb tc):=⟨M3 ho.h ho'.h ha.h hb.h hc.h hm⟩
theorem Ii(ho:gF X (compareOp op) r)(ho':gF X (compareOp op') r')(ha:E X a ta)(hb:E X b tb)(hc:E X c tc)(hm:lastMarks [op,op'] [b,c]=false:=by with_unfolding_all rfl):T X (.Compare a [op,op'] [b,c] pos) (sy (qu r r' ta tb tc)):=⟨aCI ho.h ho'.h ha.h hb.h hc.h hm⟩
theorem kB{o}(ha:E X a ta):E X (.BoolOp o [a] pos) ta:=⟨VU ha.h⟩
theorem mH(ha:E X a ta)(hb:E X (.BoolOp .And (b::rest) pos) tb):E X (.BoolOp .And (a::b::rest) pos) (KQ ta tb):=⟨aKU ha.h hb.h⟩
theorem vP(ha:E X a ta)(hb:E X (.BoolOp .Or (b::rest) pos) tb):E X (.BoolOp .Or (a::b::rest) pos) (GV ta tb):=⟨aNU ha.h hb.h⟩
theorem qP(ha:E X a ta):E X (.UnaryOp .Not a pos) (KF ta):=⟨SC ha.h⟩
theorem lG(hc:T X c t)(ha:E X a ta)(hb:E X b tb):E X (.IfExp c a b pos) (JZ t ta tb):=⟨NC hc.h ha.h hb.h⟩
theorem fB(ho:gF X (compareOp op) r)(ha:E X a ta)(hb:E X b tb)(hm:behindInMarks op b=false:=by first | exact Hv _ | rfl):T X (.Compare a [op] [b] pos) (sy (mq r ta tb)):=⟨Qm ho.h ha.h hb.h hm⟩
theorem iu(ha:T X a t):T X (.UnaryOp .Not a pos) (JM t):=⟨TY ha.h⟩
theorem gW(ha:E X e te)(he:∀whole,isTrue e X.env whole=(do let v ←whole;standAt e.pos;holding [v] (truthy v)):=by intro _;rfl):T X e (L2.tB te):=⟨Zy ha.h he⟩
theorem nP(ha:T X a t):TW X (.BoolOp .And [a] pos) t:=⟨aGM ha.h⟩
theorem ke(ha:T X a t):TW X (.BoolOp .Or [a] pos) t:=⟨Ow ha.h⟩
theorem mI(ha:T X a t)(hb:TW X (.BoolOp .And (b::rest) pos) u):TW X (.BoolOp .And (a::b::rest) pos) (G7 t u):=⟨ME ha.h hb.h⟩
theorem j6(ha:T X a t)(hb:TW X (.BoolOp .Or (b::rest) pos) u):TW X (.BoolOp .Or (a::b::rest) pos) (IJ t u):=⟨XI ha.h hb.h⟩
theorem tW(ha:TW X e t):T X e t:=⟨ha.h.pt⟩
theorem aN:As X [] iP:=⟨lH⟩
theorem aC(ha:E X e te)(hr:As X es tA)(hs:starEach (e::es) X.env=(false,eval e X.env)::starEach es X.env:=by rfl):As X (e::es) (jc te tA):=⟨kZ ha.h hr.h hs⟩
theorem vg(is:List Int)(h:es.map pX=is.map some:=by rfl):As X es (Kn is):=⟨Eh is h⟩
theorem gD(ha:As X es tA):E X (.List es pos) (HD tA):=⟨ZJ ha.h⟩
theorem ix{k}(ha:As X es tA):E X (.Tuple es k pos) (Jy tA):=⟨ZF ha.h⟩
theorem eV(hr:oi X r)(ha:E X a ta)(hb:E X b tb)(hs:GE b:=by intro _ _;rfl):E X (.Subscript a b pos) (mq r ta tb):=⟨Q2 hr.h ha.h hb.h hs⟩
theorem eD{k k':Nat}{ps:List Str}{sp:Sp}(D:Df X.prog X.w X.K X.mg X.base x k ps sp)(hr:Room k' X.A)(ha:As X (e::es) tA)(hk:k<=k':=by decide)(hg:Gl X x:=by rfl)
  (hdb:(x==("__debug__":Str))=false:=by decide) (he:starEach (e::es) X.env=(false,eval e X.env)::starEach es X.env:=by rfl) (hpl:(backTo pos (starEach es X.env)).any (·.1)=false:=by rfl):
  E X (.Call (.Name x p) (e::es) [] pos) (mK sp [] E0 tA):=⟨RF D hr ha.h hk hg hdb he hpl⟩
theorem gS{id:String}{rc:List V->Hp->VK->Prop}(hc:io X (.builtin id) rc)(hm:X.mg x=none)(hv:bootBuiltins x=some (.builtin id))(ha:As X (e::es) tA)(hg:Gl X x:=by rfl)(hn:x≠"__name__":=by decide)(hdb:(x==("__debug__":Str))=false:=by decide)
  (he:starEach (e::es) X.env=(false,eval e X.env)::starEach es X.env:=by rfl) (hpl:(backTo pos (starEach es X.env)).any (·.1)=false:=by rfl):E X (.Call (.Name x p) (e::es) [] pos) (rl rc tA):=⟨MF hc.h hg hm hv ha.h hn hdb he hpl⟩
theorem jx{n:String}{rc:List V->Hp->VK->Prop}(hc:io X (.type n) rc)(hm:X.mg x=none)(hv:bootBuiltins x=some (.type n))(ha:As X (e::es) tA)(hg:Gl X x:=by rfl)(hn:x≠"__name__":=by decide)(hdb:(x==("__debug__":Str))=false:=by decide)
  (he:starEach (e::es) X.env=(false,eval e X.env)::starEach es X.env:=by rfl) (hpl:(backTo pos (starEach es X.env)).any (·.1)=false:=by rfl):E X (.Call (.Name x p) (e::es) [] pos) (rl rc tA):=⟨aAF hc.h hg hm hv ha.h hn hdb he hpl⟩
end
section
variable{X:Cx}
theorem fK:gF X (binaryOp .Add) (iI λi j=>.int (i+j)):=⟨OM⟩
theorem gB:gF X (binaryOp .Sub) (iI λi j=>.int (i-j)):=⟨Sj⟩
theorem iJ:gF X (binaryOp .Mult) (rI CMul λi j=>.int (i*j)):=⟨N6⟩
theorem jy:gF X (binaryOp .FloorDiv) (rI HR λi j=>.int (i / j)):=⟨aE7⟩
theorem g6:gF X (binaryOp .Mod) (rI (λ_ j=>0<j) λi j=>.int (i%j)):=⟨S4⟩
theorem nH:gF X (binaryOp .Pow) (rI qW λi j=>.int (i^j.toNat)):=⟨aJE⟩
theorem j5:gF X (binaryOp .LShift) (rI qW λi j=>.int (i*2^j.toNat)):=⟨RP⟩
theorem m8:gF X (binaryOp .RShift) (rI (λ_ j=>0<=j) λi j=>.int (i / 2^j.toNat)):=⟨NG⟩
theorem kz:gF X (binaryOp .BitAnd) (iI λi j=>.int (Builtin.bitAnd i j)):=⟨aI9⟩
theorem kJ:gF X (binaryOp .BitOr) (iI λi j=>.int (Builtin.bitOr i j)):=⟨Sg⟩
theorem Hf:gF X (binaryOp .Add) IT:=⟨aKH⟩
theorem gw:gF X (compareOp .Eq) Ef:=⟨MX⟩
theorem ox:gF X (compareOp .NotEq) E6:=⟨Nd⟩
theorem qh:gF X (compareOp .Lt) (iI λi j=>.bl (decide (i<j))):=⟨OO⟩
theorem kS:gF X (compareOp .LtE) (iI λi j=>.bl (decide (i<=j))):=⟨aUE⟩
theorem km:gF X (compareOp .Gt) (iI λi j=>.bl (decide (j<i))):=⟨Yu⟩
theorem Bq:gF X (compareOp .GtE) (iI λi j=>.bl (decide (j<=i))):=⟨aTA⟩
theorem xL:oi X (CI X.K):=⟨NV⟩
theorem xT:oi X (B8 X.K):=⟨aIR⟩
theorem DY:io X (.builtin "len") (λxs H Q=>∃p ys,xs=[.ref p]/\(SqL X.K H p ys∨SqT X.K H p ys)/\Q (.int ys.length) H):=⟨Zx⟩
theorem KP:io X (.builtin "abs") (λxs H Q=>∃i,xs=[.int i]/\Q (.int (if i<0 then -i else i)) H):=⟨WT⟩
theorem Cj(hc:X.calm=true:=by rfl):io X (.builtin "max") (λxs H Q=>∃i j,xs=[.int i,.int j]/\Q (.int (if j>i then j else i)) H):=⟨R1 hc⟩
theorem vQ(hc:X.calm=true:=by rfl):io X (.builtin "min") (λxs H Q=>∃i j,xs=[.int i,.int j]/\Q (.int (if j<i then j else i)) H):=⟨S6 hc⟩
theorem EE:io X (.builtin "isinstance") (λxs H Q=>∃i:Int,xs=[.int i,.ty "int"]/\Q (.bl true) H):=⟨RA⟩
theorem EJ:io X (.builtin "isinstance") (λxs H Q=>∃i:Int,xs=[.int i,.ty "bool"]/\Q (.bl false) H):=⟨Pe⟩
variable{e c iter tg:Expr}{te:TE}{tt:TT}{tA:TA}{wi:TI}{g:TG}{t u tb:TS}{st:Stmt}{rest body ba bb:List Stmt}{pos pos' p:Pos}{x:Str}{a1 a2:Expr}
theorem fC:Ss X [] GY:=⟨QC⟩
theorem Vg(h1:S X st t)(h2:Ss X rest u):Ss X (st::rest) (rP t u):=⟨P2 h1.h h2.h⟩
theorem eE(h1:S X st t):Ss X [st] t:=⟨Nw h1.h⟩
theorem jV:S X st F9:=⟨aCB⟩
theorem eK(he:E X e te):S X (.Return (some e) pos) (Fi te):=⟨WI he.h⟩
theorem fA(hc:T X c tt)(ha:Ss X ba t)(hb:Ss X bb u):S X (.If c ba bb pos) (GD tt t u):=⟨Sk hc.h ha.h hb.h⟩
theorem li(he:E X e te)(hs:swapsWith e none pos.line X.env=pure false:=by rfl):S X (.Expr e pos) (FO te):=⟨Sv he.h hs⟩
theorem eU(i:Nat)(he:E X e te)(hN:X.N.Nodup)(hi:X.N[i]? =some x:=by rfl)(hx:oA X.env.scope x:=by first | exact Or.inl rfl | exact Or.inr rfl)(hs:swapsWith e (some (.Name x pos')) pos.line X.env=pure false:=by rfl)
  (hf:X.fn x=true∨X.env.scope.names.lookup x=some .local:=by first | exact .inl rfl | exact .inr rfl):S X (.Assign [.Name x pos'] e pos) (mN te (iV i)):=⟨aIC hN hi hx he.h hs hf⟩
theorem gN(i:Nat)(hN:X.N.Nodup)(hi:X.N[i]? =some x:=by rfl)(hx:oA X.env.scope x:=by first | exact Or.inl rfl | exact Or.inr rfl)(hf:X.fn x=true∨X.env.scope.names.lookup x=some .local:=by first | exact .inl rfl | exact .inr rfl):Gt X (.Name x pos) (iV i):=⟨FS hN hi hx hf⟩
theorem jk(hi:Il X tg iter wi)(hg:Gt X tg g)(hb:Ss X body tb)(hp:PassesOwn (model X.prog X.w) X.A X.env X.xe)(hc:X.calm=true:=by rfl)(hs:∀x,foldedSetIterable iter X.env x=pure x:=by intro _;rfl):S X (.For tg iter body [] pos) (He wi g tb):=⟨aJR hp hc hi.h hg.h hb.h hs⟩
theorem y8(hc:T X c tt)(hb:Ss X body tb)(hp:PassesOwn (model X.prog X.w) X.A X.env X.xe):S X (.While c body [] pos) (wD tt tb):=⟨Zw hp hc.h hb.h⟩
theorem iL(hl:E X e te):Il X tg e (Ai X.K te):=⟨M1 hl.h⟩
theorem iT(hl:E X e te):Il X tg e (HK X.K te):=⟨Xm hl.h⟩
theorem mL(hm:X.mg "range"=none)(ha:As X [a1] tA)(hg:Gl X "range":=by rfl)(hs:starEach [a1] X.env=[(false,eval a1 X.env)]:=by rfl):Il X tg (.Call (.Name "range" p) [a1] [] pos) (Gg tA):=⟨OI hg hm ha.h hs⟩
theorem vi(hm:X.mg "range"=none)(ha:As X [a1,a2] tA)(hg:Gl X "range":=by rfl)(hs:starEach [a1,a2] X.env=[(false,eval a1 X.env),(false,eval a2 X.env)]:=by rfl)(hs2:starEach [a2] X.env=[(false,eval a2 X.env)]:=by rfl):
  Il X tg (.Call (.Name "range" p) [a1,a2] [] pos) (F2 tA):=⟨S8 hg hm ha.h hs hs2⟩
end
def Go(P:Program)(w:World)(K:FG)(mg:Str->Option Value)(base:Heap)(N:List Str)(x:Str)(st:Stmt)(f:Addr)(cdv:Value)(A:Around)(outer:List Env)(s:Shared)(H:Hp)(vs:List V)(Q:VK)(E:XK):Prop:=
 ∃t,Ss (mf i7 P w K mg base N x (eP st) f cdv A outer s H E).nox (iy st) t/\t {nx:=λ_ H'=>Q .non H',rt:=Q} (start N vs) H
section
variable{P:Program}{w:World}{K:FG}{mg:Str->Option Value}{base:Heap}{x:Str}{st:Stmt}{ps N:List Str}{k:Nat}{sp:Sp}
theorem Fn.dfs(F:Fn K mg x st ps)(S':dZ N ps (eP st))(len:∀vs H Q E,sp vs H Q E->vs.length=ps.length)
  (hbody:∀(f:Addr) (cdv:Value) (A:Around) (outer:List Env) (s:Shared) (H:Hp) (vs:List V) (Q:VK) (E:XK),Room k (A.deeper (envOfC x (eP st) s.heap.objs.size f cdv))->sp vs H Q E->
   Go P w K mg base N x st f cdv A outer s H vs Q E):Df P w K mg base x (k+1) ps sp:=
 F.df S' len λf cdv A outer s H vs Q E hr h=>by
  obtain⟨t,h1,h2⟩:=hbody f cdv A outer s H vs Q E hr h;exact⟨t,h1.h,h2⟩
theorem Fun.oks{f:Addr}{fd:FuncData}(F:Fun K x x st f fd)(S':dZ N ps (eP st))(len:∀vs H Q E,sp vs H Q E->vs.length=ps.length)
  (hbody:∀(cdv:Value) (A:Around) (outer:List Env) (s:Shared) (H:Hp) (vs:List V) (Q:VK) (E:XK),Room k (A.deeper (envOfC x (eP st) s.heap.objs.size f cdv))->sp vs H Q E->
   Go P w K mg base N x st f cdv A outer s H vs Q E):gz P w K mg base i7 (k+1) f fd ps sp:=
 F.ok S' len λcdv A outer s H vs Q E hr h=>by
  obtain⟨t,h1,h2⟩:=hbody cdv A outer s H vs Q E hr h;exact⟨t,h1.h,h2⟩
end
end L2
namespace L2
open PySem PySem.Spec PyProof.Rows PySem.SeqAt
theorem pO:∀{is:List Int} {us:List Value},Vals (is.map V.int) us->IntsAre us is
 |[],_,.nil=>.nil
 |_::_,_,.cons ⟨_,rfl⟩ r=>.cons _ _ (pO r)
section
variable{X:Cx}
theorem NA(hc:X.calm=true):j2 X (.builtin "sum") (λxs H Q=>∃(p:Addr) (is:List Int),xs=[.ref p]/\SqL X.K H p (is.map V.int)/\Q (.int is.sum) H):=by
 intro pins s σ H xs us Q I r h;obtain⟨p,is,rfl,hq,q⟩:=h;obtain⟨u,rfl,r1⟩:=jr r;cases r1;obtain⟨its,rv,pl,hz⟩:=I.list hq;have hi:=pO rv;obtain⟨ys,hy⟩:=hi.allInts.items;have hl:s.heap.IsList p (intItems ys):=by rw[←hy];exact pl.isList
 refine sum_intListG (I.ok.hd hc) hl λh' tk t' hk=>?_;have e1:is=ys.toList.map (·.1):=by
  rw[←nums_intItems,←hy];exact hi.numsOf.symm
 have e2:preSum (numAt ys) ys.size=is.sum:=by
  rw[preSum_eq,dF (by simp),e1]
 rw[e2];exact⟨.int is.sum,H,I.kept hk,⟨()⟩,q⟩
noncomputable def n5(tup:Bool)(is:List Int):PyData:=if tup then .tuple (is.map PyData.int) else .list (is.map PyData.int)
def AI(K:FG)(H:Hp)(a:Addr)(tup:Bool)(is:List Int):Prop:=if tup then SqT K H a (is.map V.int) else SqL K H a (is.map V.int)
theorem qc{pins:List (Addr×Obj)}{σ:St}{H:Hp}{s:Shared}{a:Addr}{tup:Bool}{is:List Int}(I:Inv X pins σ H s)(h:AI X.K H a tup is):∃as,Reads s.heap (.ref a) (n5 tup is) as:=by
 cases tup with
 |false=>
  obtain⟨its,rv,pl,hz⟩:=I.list (show SqL X.K H a (is.map V.int) from h);exact⟨_,PySem.W.reads_of_ints pl.isList (pO rv)⟩
 |true=>
  obtain⟨its,rv,⟨o,ho,hc,n,hd⟩,hz⟩:=I.tuple (show SqT X.K H a (is.map V.int) from h);exact⟨_,Reads.tuple ho hc hd (by simpa using PySem.W.readsAll_of_ints (pO rv))⟩
theorem rj(tup:Bool)(is:List Int):shaped (n5 tup is)=true:=by
 cases tup with
 |false=>exact PySem.W.shaped_ints is
 |true=>
  have h1:=PySem.W.depthAll_ints is;have h2:PyData.depth (.tuple (is.map PyData.int))<=64:=by simp only[PyData.depth];omega
  show (PyData.canLay0 (.tuple (is.map PyData.int))&&decide (PyData.depth (.tuple (is.map PyData.int))<=64))=true;rw[bX];exact⟨by simp only[PyData.canLay0];exact PySem.W.canLayAll0_ints is,dQ h2⟩
theorem F4(tup:Bool)(is js:List Int):noMix (n5 tup is) (n5 tup js)=true:=by
 cases tup with
 |false=>show noMix (.list _) (.list _)=true;simp only[noMix];exact PySem.W.noMix_ints is js
 |true=>show noMix (.tuple _) (.tuple _)=true;simp only[noMix];exact PySem.W.noMix_ints is js
theorem Fe(tup:Bool)(is js:List Int):same (n5 tup is) (n5 tup js)=decide (is=js):=by
 cases tup with
 |false=>show same (.list _) (.list _)=_;simp only[same];exact PySem.W.same_ints is js
 |true=>show same (.tuple _) (.tuple _)=_;simp only[same];exact PySem.W.same_ints is js
def qz(K:FG)(neg:Bool):R2:=λx y H Q=>∃(a b:Addr) (tup:Bool) (is js:List Int),x=.ref a/\y=.ref b/\AI K H a tup is/\AI K H b tup js/\Q (.bl (if neg then !decide (is=js) else decide (is=js))) H
theorem aJT(hu:X.A.units+64<cLine):gG X (compareOp .Eq) (qz X.K false):=by
 intro pins s σ H x y v u Q I rx ry h;obtain⟨a,b,tup,is,js,rfl,rfl,ha,hb,q⟩:=h;cases rx;cases ry;obtain⟨as,ra⟩:=qc I ha;obtain⟨bs,rb⟩:=qc I hb;exact eq_dataH_same ra rb (rj _ _) (rj _ _) hu (F4 _ _ _) (by rw[Fe];exact⟨.bl _,H,I,rfl,q⟩)
theorem SX(hu:X.A.units+64<cLine):gG X (compareOp .NotEq) (qz X.K true):=by
 intro pins s σ H x y v u Q I rx ry h;obtain⟨a,b,tup,is,js,rfl,rfl,ha,hb,q⟩:=h;cases rx;cases ry;obtain⟨as,ra⟩:=qc I ha;obtain⟨bs,rb⟩:=qc I hb;exact ne_dataH_same ra rb (rj _ _) (rj _ _) hu (F4 _ _ _) (by rw[Fe];exact⟨.bl _,H,I,rfl,q⟩)
variable{elt iter:Expr}{x y:Str}{px py pos spos:Pos}{ifs:List Expr}{scope:Scope}{wi:TI}{tt:TT}{te:TE}
theorem hZ:Fs X [] Gy:=⟨aJB⟩
theorem Rf{c:Expr}(h:T X c tt):Fs X [c] tt:=⟨L4 h.h⟩
theorem Jf(hc:X.calm=true:=by rfl):io X (.builtin "sum") (λxs H Q=>∃(p:Addr) (is:List Int),xs=[.ref p]/\SqL X.K H p (is.map V.int)/\Q (.int is.sum) H):=⟨NA hc⟩
theorem ES(hu:X.A.units+64<cLine):gF X (compareOp .Eq) (qz X.K false):=⟨aJT hu⟩
theorem Ht(hu:X.A.units+64<cLine):gF X (compareOp .NotEq) (qz X.K true):=⟨SX hu⟩
theorem w6{es:List Expr}{k n:Nat}{t:j3}(h:p8 X es t)(hc:X.calm=true:=by rfl)(hn:(assignEach es X.env).length=n:=by rfl)(hst:(assignEach es X.env).findIdx? (·.1)=none:=by rfl):Gt X (.Tuple es k pos) (oC X.K n t):=⟨Le hc h.h hn hst⟩
theorem k8:p8 X [] rp:=⟨aF6⟩
theorem iz{e:Expr}{es:List Expr}{t:TG}{u:j3}(h1:Gt X e t)(h2:p8 X es u)(hs:(assignEach (e::es) X.env).map (·.2)=assign e X.env::(assignEach es X.env).map (·.2):=by rfl):p8 X (e::es) (nO t u):=⟨RM h1.h h2.h hs⟩
theorem mU{tg e:Expr}{g:TG}(he:E X e te)(hg:Gt X tg g)(hs:swapsWithSole [tg] e pos.line X.env=pure false:=by rfl)(hw:swappedStores [tg] e X.env=pure none:=by rfl)
  (h1:(assignEach [tg] X.env).map (·.2)=[assign tg X.env]:=by rfl):S X (.Assign [tg] e pos) (mN te g):=⟨YL he.h hg.h hs hw h1⟩
end
section
variable{js:List Nat}{σ:St}{tt:TT}{te:TE}{Q:VK}{H1:Hp}
theorem nY{K:FG}{a:Addr}{xs:List V}(R:Nat->List V->Prop)(hn:xs.length<=sizeLine)(h0:R 0 [])(hq:SqL K H1 a xs)
  (hs:∀(i:Nat) (v:V) (l:List V) (D:Addr) (H2:Hp) (E:V->Hp->Prop) (F:Hp->Prop),xs[i]? =some v->R i l->H1 D=none->Same H1 H2->H2 D=some (.lst l)->(∀y H5,Same H2 H5->R (i+1) (l++[y])->E y H5)->(∀H4,Same H2 H4->R (i+1) l->F H4)->
   tt (some v::gZ js σ) H2 λb H4=>if b=true then te (some v::gZ js σ) H4 E else F H4)
  (hd:∀(D:Addr) (H2:Hp) (l:List V),R xs.length l->H1 D=none->Same H1 H2->H2 D=some (.lst l)->Q (.ref D) H2):mr (mV K a) js σ tt te Q H1:=by
 intro D hD;refine⟨λi m H2=>m=xs.length-i/\i<=xs.length/\Same H1 H2/\∃l,H2 D=some (.lst l)/\l.length<=i/\R i l,⟨xs.length,by simp,bK _,eJ hD _,[],eF,aX _,h0⟩,?_⟩;rintro i m H2 ⟨rfl,hi,s2,l,h2,hll,hR⟩;by_cases hlt:i<xs.length
 ·refine .inr ⟨⟨xs,xs[i],s2.seq hq,by simp[hlt]⟩,λv H3 y=>?_⟩;obtain⟨e,ev⟩:=y;subst e;have hv:=ev xs (s2.seq hq);refine hs i v l D _ _ _ hv hR hD s2 h2 (λz H5 s5 r5=>?_) (λH4 s4 r4=>?_)
  ·refine⟨l,s5 _ _ h2,cQ hll (bC hlt hn),xs.length-(i+1),⋯,rfl,hlt,λb o hb=>?_,l++[z],eF,by rw[a8,b9];omega,r5⟩;rw[eW (gT hb hD)];exact s5 _ _ (s2 _ _ hb)
  ·exact⟨xs.length-(i+1),⋯,rfl,hlt,s2.trans s4,l,s4 _ _ h2,⋯,r4⟩
 ·have e:i=xs.length:=⋯;subst e;exact .inl ⟨⟨xs,s2.seq hq,aX _⟩,hd D H2 l hR hD s2 h2⟩
def IntsR(i:Nat)(l:List V):Prop:=∃zs:List Int,l=zs.map V.int/\zs.length<=i
theorem IntsR.nil:IntsR 0 []:=⟨[],rfl,aX _⟩
theorem IntsR.one{i:Nat}{l:List V}(h:IntsR i l)(z:Int):IntsR (i+1) (l++[.int z]):=by
 obtain⟨zs,rfl,hl⟩:=h;exact⟨zs++[z],by rw[bA];rfl,by rw[a8,b9];omega⟩
theorem Same.tup{K:FG}{H H':Hp}{a:Addr}{xs:List V}(e:Same H H')(h:SqT K H a xs):SqT K H' a xs:=by
 rcases h with (h | ⟨o,h⟩) | h
 ·exact .inl (.inl (e _ _ h))
 ·exact .inl (.inr ⟨o,e _ _ h⟩)
 ·exact .inr h
theorem E1{α:Type}(f:Nat->α)(n:Nat):(List.range (n+1)).map f=(List.range n).map f++[f n]:=by rw[cC,bA];rfl
theorem xC{c:TT}{tb:TS}{D:ic}{σ:St}{H:Hp}(Pv:St->Hp->Prop)(μ:St->Hp->Nat)(h0:Pv σ H)
  (hs:∀σ H,Pv σ H->c σ H λb H1=>if b=true then ∃N:St->Hp->Prop,(∀σ' H',N σ' H'->∃m',m'<μ σ H/\m'=μ σ' H'/\Pv σ' H')/\tb {D with nx:=N,ct:=N,bk:=D.nx} σ H1 else D.nx σ H1):wD c tb D σ H:=
 ⟨λm σ H=>m=μ σ H/\Pv σ H,⟨(),h0⟩,by
  rintro m σ H ⟨rfl,p⟩;exact hs σ H p⟩
theorem lF{X:Cx}:tL X (unaryOp .USub) (rU λi=>.int (-i)):=⟨Sf⟩
end
section
variable{X:Cx}{pos:Pos}
theorem oo{o e:Expr}{to te:TE}{apos cpos:Pos}(ho:E X o to)(he:E X e te)(hbase:attributeBase o "append" X.env (eval o X.env)=eval o X.env:=by rfl)
  (hfew:((backTo cpos (starEach [e] X.env)).all (λx=> !x.1)&&(backToKw cpos (keywordEach [] X.env)).all (λx=>x.1.isSome)&&decide (([e]:List Expr).length+([]:List Keyword).length+(if ([]:List Keyword).isEmpty then 0 else 1)<30))=true:=by rfl)
  (hline:(apos.endLine==cpos.line)=true:=by rfl) (hs:starEach [e] X.env=(false,eval e X.env)::starEach [] X.env:=by rfl) (hplain:(backTo cpos (starEach [] X.env)).any (·.1)=false:=by rfl):
  E X (.Call (.Attribute o "append" apos) [e] [] cpos) (nE X.K "list" J0 to (jc te iP)):=
 ⟨oZ PySem.F.plainAttrs_list PySem.F.slot_list_append PySem.F.type_list_append JH ho.h (kZ he.h lH hs) hbase hfew hline hs hplain⟩
variable{js:List Nat}{σ:St}{tt:TT}{te:TE}{Q:VK}{H1:Hp}
theorem qK{K:FG}{a:Addr}{xs:List V}(R:Nat->List V->Prop)(hn:xs.length<=sizeLine)(h0:R 0 [])(hq:SqT K H1 a xs)
  (hs:∀(i:Nat) (v:V) (l:List V) (D:Addr) (H2:Hp) (E:V->Hp->Prop) (F:Hp->Prop),xs[i]? =some v->R i l->H1 D=none->Same H1 H2->H2 D=some (.lst l)->(∀y H5,Same H2 H5->R (i+1) (l++[y])->E y H5)->(∀H4,Same H2 H4->R (i+1) l->F H4)->
   tt (some v::gZ js σ) H2 λb H4=>if b=true then te (some v::gZ js σ) H4 E else F H4)
  (hd:∀(D:Addr) (H2:Hp) (l:List V),R xs.length l->H1 D=none->Same H1 H2->H2 D=some (.lst l)->Q (.ref D) H2):mr (nF K a) js σ tt te Q H1:=by
 intro D hD;refine⟨λi m H2=>m=xs.length-i/\i<=xs.length/\Same H1 H2/\∃l,H2 D=some (.lst l)/\l.length<=i/\R i l,⟨xs.length,by simp,bK _,eJ hD _,[],eF,aX _,h0⟩,?_⟩;rintro i m H2 ⟨rfl,hi,s2,l,h2,hll,hR⟩;by_cases hlt:i<xs.length
 ·refine .inr ⟨⟨xs,xs[i],s2.tup hq,by simp[hlt]⟩,λv H3 y=>?_⟩;obtain⟨e,ev⟩:=y;subst e;have hv:=ev xs (s2.tup hq);refine hs i v l D _ _ _ hv hR hD s2 h2 (λz H5 s5 r5=>?_) (λH4 s4 r4=>?_)
  ·refine⟨l,s5 _ _ h2,cQ hll (bC hlt hn),xs.length-(i+1),⋯,rfl,hlt,λb o hb=>?_,l++[z],eF,by rw[a8,b9];omega,r5⟩;rw[eW (gT hb hD)];exact s5 _ _ (s2 _ _ hb)
  ·exact⟨xs.length-(i+1),⋯,rfl,hlt,s2.trans s4,l,s4 _ _ h2,⋯,r4⟩
 ·have e:i=xs.length:=⋯;subst e;exact .inl ⟨⟨xs,s2.tup hq,aX _⟩,hd D H2 l hR hD s2 h2⟩
end
def Digs(ds ss:List Int):Prop:=Paired (λd z:Int=>0<=d/\d<z) ds ss
theorem Digs.snoc{ds ss:List Int}{d z:Int}(h:Digs ds ss)(h0:0<=d)(h1:d<z):Digs (ds++[d]) (ss++[z]):=Paired.snoc h ⟨h0,h1⟩
theorem Digs.len{ds ss:List Int}(h:Digs ds ss):ds.length=ss.length:=Paired.length h
theorem kA{H H2:Hp}{p:Addr}{o:HO}(hn:H p=none)(s:Same H H2):Same H (upd H2 p o):=λb u h=>by
 rw[eW (gT h hn)];exact s b u h
theorem Fg{a m b:Int}(h0:0<m)(h1:m<=18446744073709551616):CMul (a%m) b:=.inl ⟨Int.lt_of_lt_of_le (by decide) (cV a (Int.ne_of_gt h0)),Int.lt_of_lt_of_le (cW a h0) h1⟩
theorem OE:(10:Int)^(18:Int).toNat=1000000000000000000:=by decide +kernel
theorem ZH:(10:Int)^(58:Int).toNat=10000000000000000000000000000000000000000000000000000000000:=by decide +kernel
structure FnM(K:FG)(C:Addr)(m qual:Str)(st:Stmt)(ps:List Str):Prop where
 ex:∃(f:Addr) (fd:FuncData),Fun K m qual st f fd/\Binds K fd ps []/\jG K C m f
structure fV(P:Program)(w:World)(K:FG)(mg:Str->Option Value)(base:Heap)(C:Addr)(m:Str)(k:Nat)(ps:List Str)(sp:Sp):Prop where
 ex:∃(f:Addr) (fd:FuncData),gz P w K mg base i7 k f fd ps sp/\Binds K fd ps []/\jG K C m f
structure Cd(K:FG)(mg:Str->Option Value)(x:Str)(C:Addr):Prop where
 at_:mg x=some (.ref C)
 cl:Cls K C
 makes:PySem.W.makesIn K C=true
 kp:PySem.W.keepIn K (.ref C)=true
section
variable{P:Program}{w:World}{K:FG}{mg:Str->Option Value}{base:Heap}{m qual:Str}{st:Stmt}{ps N:List Str}{k:Nat}{sp:Sp}{C:Addr}
theorem FnM.dfs(F:FnM K C m qual st ps)(S':dZ N ps (eP st))(len:∀vs H Q E,sp vs H Q E->vs.length=ps.length)
  (hbody:∀(f:Addr) (cdv:Value) (A:Around) (outer:List Env) (s:Shared) (H:Hp) (vs:List V) (Q:VK) (E:XK),Room k (A.deeper (envOfC qual (eP st) s.heap.objs.size f cdv))->sp vs H Q E->
   Go P w K mg base N qual st f cdv A outer s H vs Q E):fV P w K mg base C m (k+1) ps sp:=by
 obtain⟨f,fd,F1,hb,hm⟩:=F.ex;refine⟨⟨f,fd,F1.ok S' len λcdv A outer s H vs Q E hr h=>?_,hb,hm⟩⟩;obtain⟨t,h1,h2⟩:=hbody f cdv A outer s H vs Q E hr h;exact⟨t,h1.h,h2⟩
theorem gv{f:Addr}{oc:Value}{od an:Option Addr}{osl:Array (Option Value)}{kV doc pm cdv ct:Value}
  (a:PySem.W.findIn K (.ref C) m=some (some (.ref f))) (i:PySem.W.isFn K (.ref f)=true) (l:K.lookup f=some ⟨oc,od,.func (PySem.W.fnOf m qual (jg st) (iy st) (eP st) .none kV doc pm an cdv ct),osl⟩)
  (c:PySem.W.codeIn K cdv qual=true) (k:PySem.W.keepIn K (.ref f)=true)
  (hb:∀(kV doc pm:Value) (an:Option Addr) (cdv ct:Value) (us:List Value),us.length=ps.length->bindArgs (PySem.W.fnOf m qual (jg st) (iy st) (eP st) .none kV doc pm an cdv ct) ⟨us,[]⟩=pure (ps.zip us)):FnM K C m qual st ps:=by
 have F:=rm (st:=st) l c k;exact⟨⟨f,_,F,F.binds (ps:=ps) hb,⟨a,i,k⟩⟩⟩
variable{X:Cx}{x:Str}{k':Nat}{e o value:Expr}{es:List Expr}{ta tv:TE}{t:TA}{p pos apos pos':Pos}{f:Str}
theorem jN(c:Cd X.K X.mg x C)(D:fV X.prog X.w X.K X.mg X.base C "__init__" k ps sp)(hr:Room k' X.A)(ha:As X (e::es) t)(hk:k+1<=k':=by decide)(hg:Gl X x:=by rfl)(hdb:(x==("__debug__":Str))=false:=by decide)
  (he:starEach (e::es) X.env=(false,eval e X.env)::starEach es X.env:=by rfl) (hpl:(backTo pos (starEach es X.env)).any (·.1)=false:=by rfl):E X (.Call (.Name x p) (e::es) [] pos) (rN C sp [] E0 t):=by
 obtain⟨f,fd,F,hb,hm⟩:=D.ex;exact⟨NP ⟨c.makes,hm.at_,hm.fn,c.kp⟩ F (hr.mono hk) hg c.at_ hb .nil ny ha.h hdb he hpl⟩
theorem ip{pl:Sem Bool}(c:Cls X.K C)(D:fV X.prog X.w X.K X.mg X.base C m k ps sp)(hr:Room k' X.A)(ho:E X o ta)(ha:As X (e::es) t)(hk:k<=k':=by decide)
  (hst:starEach (e::es) X.env=(false,eval e X.env)::starEach es X.env:=by rfl) (hpl:(backTo pos (starEach es X.env)).any (·.1)=false:=by rfl)
  (ht:eval (.Call (.Attribute o m apos) (e::es) [] pos) X.env=(do
   let ov ←eval o X.env
   standAt apos.atName
   let (f,first) ←holding [ov] (getMethod ov m pl)
   callWith pos f first (backTo pos (starEach (e::es) X.env)) (backToKw pos (keywordEach [] X.env))):=by rfl):E X (.Call (.Attribute o m apos) (e::es) [] pos) (nT C m sp [] E0 ta t):=by
 obtain⟨f,fd,F,hb,hm⟩:=D.ex;exact⟨Qw ho.h c hm F (hr.mono hk) hb .nil ny ha.h hst hpl ht⟩
theorem ii(he:E X e ta)(hb:attributeBase e f X.env (eval e X.env)=eval e X.env:=by rfl):E X (.Attribute e f pos) (p9 X.K ta f):=⟨Zt he.h hb⟩
theorem iY(ha:E X o ta)(hv:E X value tv)(hs:swapsWith value (some (.Attribute o f pos')) pos.line X.env=pure false:=by rfl):S X (.Assign [.Attribute o f pos'] value pos) (IS X.K ta tv f):=⟨P1 ha.h hv.h hs⟩
def xA(C:Addr):TE:=λ_ H Q=>∀x dx,H x=none->H dx=none->dx≠x->Q (.ref x) (upd (upd H dx (.own x)) x (.ins C dx []))
theorem BG(c:Cd X.K X.mg x C)(hi:PySem.W.findIn X.K (.ref C) "__init__"=some (some (.builtin "object.__init__")))(hg:Gl X x:=by rfl)(hdb:(x==("__debug__":Str))=false:=by decide):E X (.Call (.Name x p) [] [] pos) (xA C):=by
 refine⟨λpins s σ H Q I h=>?_⟩;refine dW (mS I hg c.at_ ?_ hdb);refine PySem.W.callWith_K0 I.kIn c.kp (wpAny_call ?_);have hq:=h (s.heap.objs.size+1) s.heap.objs.size (I.hok.fresh (Nat.le_succ _)) (I.hok.fresh (aX _)) (bE (Nat.lt_succ_self _));have I2:=Inv.made (C:=C) I;have e2:((s.heap.push PySem.W.emptyDict).push (PySem.W.instObj C s.heap.objs.size)).get? (s.heap.objs.size+1)=some (PySem.W.instObj C s.heap.objs.size):=by
  have:=bO (s.heap.push PySem.W.emptyDict) (o:=PySem.W.instObj C s.heap.objs.size) rfl
  rwa [Heap.size_push] at this
 have Y:=PySem.W.makes_of (M:=model X.prog X.w) I.kIn c.makes;refine NR I.kIn c.makes hi (λself=>PySem.W.Looks.of_pure (PySem.W.oi_bind self)) ?_;have t1:PySem.W.Looks (model X.prog X.w) ((s.heap.push PySem.W.emptyDict).push (PySem.W.instObj C s.heap.objs.size)) (typeOf (.ref (s.heap.objs.size+1))) (.ref C):=(PySem.W.Looks.ld e2).andThen .now;have t2:PySem.W.Looks (model X.prog X.w) ((s.heap.push PySem.W.emptyDict).push (PySem.W.instObj C s.heap.objs.size)) (isInstance (.ref (s.heap.objs.size+1)) (.type "object")) true:=t1.andThen (Y.top.keeps λb o q=>bD _ (bD _ q))
 refine codeAny_call_builtin PySem.W.oi_plain PySem.W.entry_oi (@PySem.W.check_slot (model X.prog X.w) _ _ _ "object.__init__" "object" "__init__" (.ref (s.heap.objs.size+1)) [] [] _ PySem.W.oi_kind PySem.W.oi_split t2 (PySem.W.oi_args (.ref (s.heap.objs.size+1))) ?_);rw[PySem.W.oi_run];exact dX (And.intro rfl ⟨V.ref (s.heap.objs.size+1),_,I2,rfl,hq⟩)
end
structure Po(X:Cx)(o:Option Expr)(t:TO):Prop where
 h:PO X o t
structure so(X:Cx)(r:V->Option Int->Option Int->Hp->VK->Prop):Prop where
 h:DK X r
section
variable{X:Cx}{e:Expr}{te:TE}{lo hi:Option Expr}{tl th:TO}{pos p2:Pos}
theorem jE:Po X none Hc:=⟨Zd⟩
theorem iN(h:E X e te):Po X (some e) (Gd te):=⟨Rg h.h⟩
theorem zI:so X (wG X.K):=⟨VI⟩
theorem ju{r:V->Option Int->Option Int->Hp->VK->Prop}(hr:so X r)(he:E X e te)(hl:Po X lo tl)(hu:Po X hi th):E X (.Subscript e (.Slice lo hi none p2) pos) (GS r te tl th):=⟨Tu hr.h he.h hl.h hu.h⟩
end
noncomputable def K0(xs:List Int)(lo hi:Option Int):List Int:=(xs.drop (HT.sIx xs.length 0 lo)).take (HT.sIx xs.length xs.length hi-HT.sIx xs.length 0 lo)
structure vf(K:FG)(x qual:Str)(st:Stmt)(f:Addr)(fd:FuncData):Prop where
 ex:∃(oc:Value) (od:Option Addr) (dV kV doc pm:Value) (an:Option Addr) (cdv ct:Value) (osl:Array (Option Value)),
  fd=PySem.W.fnOf x qual (jg st) (iy st) (eP st) dV kV doc pm an cdv ct/\K.lookup f=some ⟨oc,od,.func fd,osl⟩/\PySem.W.codeIn K cdv qual=true
 kp:PySem.W.keepIn K (.ref f)=true
structure FnMD(K:FG)(C:Addr)(m qual:Str)(st:Stmt)(ps:List Str)(dvs:List V):Prop where
 ex:∃(f:Addr) (fd:FuncData) (ds:List Value),vf K m qual st f fd/\Binds K fd ps []/\Vals dvs ds/\Binds K fd ps ds/\jG K C m f
structure DfMD(P:Program)(w:World)(K:FG)(mg:Str->Option Value)(base:Heap)(C:Addr)(m:Str)(k:Nat)(ps:List Str)(sp:Sp)(dvs:List V):Prop where
 ex:∃(f:Addr) (fd:FuncData) (ds:List Value),gz P w K mg base i7 k f fd ps sp/\Binds K fd ps []/\Vals dvs ds/\Binds K fd ps ds/\jG K C m f
section
variable{P:Program}{w:World}{K:FG}{mg:Str->Option Value}{base:Heap}{m qual:Str}{st:Stmt}{ps N:List Str}{k:Nat}{sp:Sp}{C:Addr}{dvs:List V}
theorem DfMD.dfm(D:DfMD P w K mg base C m k ps sp dvs):fV P w K mg base C m k ps sp:=by
 obtain⟨f,fd,ds,a,b,_,_,e⟩:=D.ex;exact⟨⟨f,fd,a,b,e⟩⟩
theorem FnMD.dfs(F:FnMD K C m qual st ps dvs)(S':dZ N ps (eP st))(len:∀vs H Q E,sp vs H Q E->vs.length=ps.length)
  (hbody:∀(f:Addr) (cdv:Value) (A:Around) (outer:List Env) (s:Shared) (H:Hp) (vs:List V) (Q:VK) (E:XK),Room k (A.deeper (envOfC qual (eP st) s.heap.objs.size f cdv))->sp vs H Q E->
   Go P w K mg base N qual st f cdv A outer s H vs Q E):DfMD P w K mg base C m (k+1) ps sp dvs:=by
 obtain⟨f,fd,ds,F1,hb,hv,hbd,hm⟩:=F.ex;refine⟨⟨f,fd,ds,?_,hb,hv,hbd,hm⟩⟩;obtain⟨oc,od,dV,kV,doc,pm,an,cdv,ct,osl,rfl,lk,hcd⟩:=F1.ex;refine uW lk hcd S' len λA outer s H vs Q E hr hsp=>?_;obtain⟨t,h,q⟩:=hbody f cdv A outer s H vs Q E hr hsp;exact⟨t,h.h.nox,q⟩
theorem Yx{f:Addr}{oc:Value}{od an:Option Addr}{osl:Array (Option Value)}{dV kV doc pm cdv ct:Value}{ds:List Value}
  (a:PySem.W.findIn K (.ref C) m=some (some (.ref f))) (i:PySem.W.isFn K (.ref f)=true) (l:K.lookup f=some ⟨oc,od,.func (PySem.W.fnOf m qual (jg st) (iy st) (eP st) dV kV doc pm an cdv ct),osl⟩)
  (c:PySem.W.codeIn K cdv qual=true) (k:PySem.W.keepIn K (.ref f)=true)
  (hb:Binds K (PySem.W.fnOf m qual (jg st) (iy st) (eP st) dV kV doc pm an cdv ct) ps []) (hv:Vals dvs ds) (hd:Binds K (PySem.W.fnOf m qual (jg st) (iy st) (eP st) dV kV doc pm an cdv ct) ps ds):FnMD K C m qual st ps dvs:=
 ⟨⟨f,_,ds,⟨⟨oc,od,dV,kV,doc,pm,an,cdv,ct,osl,rfl,l,c⟩,k⟩,hb,hv,hd,⟨a,i,k⟩⟩⟩
variable{X:Cx}{x:Str}{k':Nat}{p pos:Pos}
theorem zC(c:Cd X.K X.mg x C)(D:DfMD X.prog X.w X.K X.mg X.base C "__init__" k ps sp dvs)(hr:Room k' X.A)(hk:k+1<=k':=by decide)(hg:Gl X x:=by rfl)(hdb:(x==("__debug__":Str))=false:=by decide):
  E X (.Call (.Name x p) [] [] pos) (rN C sp dvs E0 iP):=by
 obtain⟨f,fd,ds,F,_,hv,hb,hm⟩:=D.ex;exact⟨XD ⟨c.makes,hm.at_,hm.fn,c.kp⟩ F (hr.mono hk) hg c.at_ hb hv ny hdb⟩
end
theorem kY{H:Hp}{xo dx:Addr}{a b:HO}(nx:H xo=none)(ndx:H dx=none):Same H (upd (upd H dx a) xo b):=λz u hb=>by
 rw[eW (gT hb nx),eW (gT hb ndx)];exact hb
theorem nh{H:Hp}{xo dx:Addr}{a b c:HO}(nx:H xo=none)(ndx:H dx=none):Same H (upd (upd (upd H dx a) xo b) xo c):=λz u hb=>by
 rw[eW (gT hb nx)];exact kY nx ndx z u hb
theorem LV{H:Hp}{xo dx:Addr}{a b c d:HO}(nx:H xo=none)(ndx:H dx=none):Same H (upd (upd (upd (upd H dx a) xo b) xo c) xo d):=λz u hb=>by
 rw[eW (gT hb nx)];exact nh nx ndx z u hb
end L2
namespace L2
open PySem PyProof.Rows
noncomputable def Jg(p:Nat->Bool):Nat->Nat
 |0=>0
 |n+1=>Jg p n+(if p n=true then 2^n else 0)
@[irreducible] noncomputable def ku(p:Nat->Bool)(n:Nat):Nat:=Jg p n
theorem sQ(p:Nat->Bool):ku p 0=0:=by rw[ku];rfl
theorem Cv(p:Nat->Bool)(n:Nat):ku p (n+1)=ku p n+(if p n=true then 2^n else 0):=by rw[ku,ku];rfl
theorem wn(p:Nat->Bool):∀n,ku p n<2^n
 |0=>by rw[sQ];decide
 |n+1=>by
  have h:=wn p n;rw[Cv,Nat.pow_succ];split<;>omega
theorem GJ(p:Nat->Bool):∀n i,(ku p n).testBit i=(decide (i<n)&&p i)
 |0,i=>by rw[sQ];simp
 |n+1,i=>by
  have h:=wn p n;have ih:=GJ p n i;rw[Cv];by_cases hp:p n=true
  ·rw[if_pos hp,Nat.add_comm];rcases Nat.lt_trichotomy i n with hi | hi | hi
   ·rw[Nat.testBit_two_pow_add_gt hi,ih];simp[hi,Nat.lt_succ_of_lt hi]
   ·subst hi;rw[Nat.testBit_two_pow_add_eq,ih];simp[hp]
   ·have h2:2^n+ku p n<2^i:=bC (by rw[Nat.pow_succ];omega) (Nat.pow_le_pow_right (by decide) hi);rw[Nat.testBit_lt_two_pow h2];have:¬i<n+1:=⋯;simp[this]
  ·rw[if_neg hp,Nat.add_zero,ih];by_cases e:i=n
   ·subst e;simp[hp]
   ·have:(i<n+1)↔(i<n):=⋯;simp[this]
noncomputable def tb(m:Int)(i:Nat):Bool:=m.toNat.testBit i
theorem jF(k:Nat):((2^k:Nat):Int)=(2:Int)^k:=by rw[Int.natCast_pow];rfl
theorem i9(k:Nat):(0:Int)<2^k:=by rw[←jF];exact Int.natCast_pos.mpr (Nat.two_pow_pos k)
theorem Ku{m:Int}(h:0<=m)(k:Nat):m / 2^k=((m.toNat >>> k:Nat):Int):=by
 obtain⟨n,rfl⟩:=bY h;rw[bS,Nat.shiftRight_eq_div_pow,←jF,Int.natCast_ediv]
theorem Ax(a b:Nat):Builtin.bitAnd (a:Int) (b:Int)=((a&&& b:Nat):Int):=bitAnd_pp (cZ a) (cZ b)
theorem pM(a b:Nat):Builtin.bitOr (a:Int) (b:Int)=((a||| b:Nat):Int):=by
 rw[bitOr_and,Ax];have:=nat_or_add_and a b;omega
theorem mv{m:Int}(h:0<=m)(k:Nat):(Builtin.bitAnd (m / 2^k) 1=1)↔tb m k=true:=by
 rw[Ku h,show (1:Int)=((1:Nat):Int) from rfl,Ax];unfold tb;rw[Nat.testBit_eq_decide_div_mod_eq,Nat.shiftRight_eq_div_pow];have:m.toNat / 2^k&&& 1=m.toNat / 2^k%2:=Nat.and_two_pow_sub_one_eq_mod _ 1;rw[this];simp only[dR];omega
theorem kU{a b:Int}(ha:0<=a)(hb:0<=b):0<=Builtin.bitAnd a b:=by rw[bitAnd_pp ha hb];exact cZ _
theorem kg{a b:Int}(ha:0<=a)(hb:0<=b):0<=Builtin.bitOr a b:=by
 obtain⟨x,rfl⟩:=bY ha;obtain⟨y,rfl⟩:=bY hb;rw[pM];exact cZ _
theorem kE{a b:Int}(ha:0<=a)(hb:0<=b)(i:Nat):tb (Builtin.bitAnd a b) i=(tb a i&&tb b i):=by
 unfold tb;rw[bitAnd_pp ha hb,bS,Nat.testBit_and]
theorem lD{a b:Int}(ha:0<=a)(hb:0<=b)(i:Nat):tb (Builtin.bitOr a b) i=(tb a i||tb b i):=by
 obtain⟨x,rfl⟩:=bY ha;obtain⟨y,rfl⟩:=bY hb;unfold tb;rw[pM,bS,Nat.testBit_or,bS,bS]
theorem Ah(k i:Nat):tb (2^k) i=decide (k=i):=by
 unfold tb;rw[←jF,bS,Nat.testBit_two_pow]
theorem i6(i:Nat):tb 0 i=false:=by unfold tb;simp
theorem jf{a b:Int}(ha:0<=a)(hb:0<=b)(h:∀i,tb a i=tb b i):a=b:=by
 have:a.toNat=b.toNat:=Nat.eq_of_testBit_eq h;omega
theorem ql{m:Int}(h:0<=m)(k i:Nat):tb (m*2^k) i=(decide (k<=i)&&tb m (i-k)):=by
 obtain⟨x,rfl⟩:=bY h;unfold tb;rw[←jF,←Int.natCast_mul,bS,bS,←Nat.shiftLeft_eq,Nat.testBit_shiftLeft]
theorem mX{m:Int}(h:0<=m)(k i:Nat):tb (m / 2^k) i=tb m (k+i):=by
 rw[Ku h];unfold tb;rw[bS,Nat.testBit_shiftRight]
theorem nC{m:Int}{n i:Nat}(h:m<2^n)(hi:n<=i):tb m i=false:=by
 unfold tb;refine Nat.testBit_lt_two_pow (bC ?_ (Nat.pow_le_pow_right (by decide) hi));by_cases h0:0<=m
 ·have:=jF n;omega
 ·have:m.toNat=0:=⋯;rw[this];exact Nat.two_pow_pos n
@[irreducible] noncomputable def kj(p:Nat->Bool)(n:Nat):Int:=(ku p n:Nat)
theorem n9(p:Nat->Bool)(n:Nat):kj p n=(ku p n:Nat):=by rw[kj]
theorem rL(p:Nat->Bool)(n:Nat):0<=kj p n:=by rw[n9];exact cZ _
theorem Ly(p:Nat->Bool):kj p 0=0:=by rw[n9,sQ];rfl
theorem rX(p:Nat->Bool)(n i:Nat):tb (kj p n) i=(decide (i<n)&&p i):=by
 unfold tb;rw[n9,bS,GJ]
theorem Ju(p:Nat->Bool)(n:Nat):kj p (n+1)=kj p n+(if p n=true then 2^n else 0):=by
 rw[n9,n9,Cv,Int.natCast_add];split
 ·rw[jF]
 ·rfl
theorem yc(p:Nat->Bool)(n:Nat):kj p n<2^n:=by
 have:=wn p n;have e:=jF n;rw[n9];omega
theorem Ca(n i:Nat):tb (2^n-1) i=decide (i<n):=by
 have h:=jF n;have:((2:Int)^n-1).toNat=2^n-1:=by
  have:=Nat.two_pow_pos n;omega
 unfold tb;rw[this,Nat.testBit_two_pow_sub_one]
noncomputable def Ey(p:Nat->Bool)(lo:Int):Nat->List Int
 |0=>[]
 |n+1=>Ey p lo n++(if p n=true then [lo+(n:Int)] else [])
@[irreducible] noncomputable def flt(p:Nat->Bool)(lo:Int)(n:Nat):List Int:=Ey p lo n
theorem zk(p:Nat->Bool)(lo:Int):flt p lo 0=[]:=by rw[flt];rfl
theorem Mr{p:Nat->Bool}{lo:Int}{α:Type}{f:Int->α}:[]=(flt p lo 0).map f:=by rw[zk];rfl
theorem F7(p:Nat->Bool)(lo:Int)(n:Nat):flt p lo (n+1)=flt p lo n++(if p n=true then [lo+(n:Int)] else []):=by rw[flt,flt];rfl
theorem vT{p:Nat->Bool}{lo:Int}{n:Nat}(h:p n=true):flt p lo (n+1)=flt p lo n++[lo+(n:Int)]:=by
 rw[F7,if_pos h]
theorem qJ{p:Nat->Bool}{lo:Int}{n:Nat}(h:p n=false):flt p lo (n+1)=flt p lo n:=by
 rw[F7,h,if_neg bF,cU]
theorem flt_mem{p:Nat->Bool}{lo z:Int}:∀{n:Nat},z∈flt p lo n↔∃i,i<n/\p i=true/\z=lo+(i:Int)
 |0=>by rw[zk];exact⟨λh=>(nomatch h),λ⟨i,h,_⟩=>absurd h (Nat.not_lt_zero i)⟩
 |n+1=>by
  by_cases c:p n=true
  ·rw[vT c,b8,flt_mem,bU];refine⟨λh=>?_,λ⟨i,h1,h2,h3⟩=>?_⟩
   ·rcases h with ⟨i,h1,h2,h3⟩ | h
    ·exact⟨i,⋯,h2,h3⟩
    ·exact⟨n,⋯,c,h⟩
   ·by_cases e:i=n
    ·subst e;exact .inr h3
    ·exact .inl ⟨i,⋯,h2,h3⟩
  ·rw[qJ (by simpa using c),flt_mem];refine⟨λ⟨i,h1,h2,h3⟩=>⟨i,⋯,h2,h3⟩,λ⟨i,h1,h2,h3⟩=>⟨i,?_,h2,h3⟩⟩;have:i≠n:=λe=>c (e▸h2);omega
theorem Mf{p:Nat->Bool}{lo:Int}{n k:Nat}(h:∀i,n<=i->p i=false)(hk:n<=k):flt p lo k=flt p lo n:=by
 obtain⟨d,rfl⟩:=Nat.exists_eq_add_of_le hk;clear hk;induction d with
 |zero=>rfl
 |succ d ih=>rw[show n+(d+1)=(n+d)+1 from rfl,qJ (h _ ⋯),ih]
noncomputable def iD(zs:List Int):Int:=zs.foldl (λa z=>Builtin.bitOr a (1*2^z.toNat)) 0
theorem Qe(zs:List Int)(z:Int):iD (zs++[z])=Builtin.bitOr (iD zs) (1*2^z.toNat):=by unfold iD;rw[List.foldl_append];rfl
theorem AE:∀(zs:List Int) (a:Int),0<=a->0<=zs.foldl (λa z=>Builtin.bitOr a (1*2^z.toNat)) a/\∀i,tb (zs.foldl (λa z=>Builtin.bitOr a (1*2^z.toNat)) a) i=(tb a i||zs.any λz=>decide (z.toNat=i))
 |[],a,h=>⟨h,λi=>by simp⟩
 |z::zs,a,h=>by
  have e:(1*2^z.toNat:Int)=2^z.toNat:=⋯;have p:=bZ (i9 z.toNat);obtain⟨h1,h2⟩:=AE zs (Builtin.bitOr a (1*2^z.toNat)) (by rw[e];exact kg h p);refine⟨h1,λi=>?_⟩;show tb (zs.foldl _ (Builtin.bitOr a (1*2^z.toNat))) i=_;rw[h2 i,e,lD h p,Ah,cI,Bool.or_assoc]
theorem pL(zs:List Int):0<=iD zs:=(AE zs 0 (bB 0)).1
theorem rT(zs:List Int)(i:Nat):tb (iD zs) i=zs.any λz=>decide (z.toNat=i):=by
 have h:=(AE zs 0 (bB 0)).2 i;rw[i6,Bool.false_or] at h;exact h
theorem aGW{m:Int}(h:0<=m):m<2^Builtin.Int.intBits m:=by
 unfold Builtin.Int.intBits;split
 ·rename_i c;have:m=0:=by simpa using c
  rw[this];decide
 ·have:=Nat.lt_log2_self (n:=m.natAbs);have e:=jF (m.natAbs.log2+1);omega
theorem wj{m:Int}{n:Nat}(h:0<=m)(hn:m<2^n):Builtin.Int.intBits m<=n:=by
 unfold Builtin.Int.intBits;split
 ·exact bK _
 ·rename_i c;have h0:m≠0:=by simpa using c
  have e:=jF n;have:m.natAbs.log2<n:=(Nat.log2_lt ⋯).mpr ⋯;omega
noncomputable def mj(m:Int):List Int:=flt (tb m) 0 (Builtin.Int.intBits m)
theorem qi{m:Int}{n:Nat}(h:0<=m)(hn:m<2^n):mj m=flt (tb m) 0 n:=
 (Mf (λi hi=>nC (aGW h) hi) (wj h hn)).symm
theorem VG{m:Int}(h:0<=m)(k:Nat):decide (Builtin.bitAnd (m / 2^k) 1=1)=tb m k:=by
 by_cases c:tb m k=true
 ·rw[c];exact dQ ((mv h _).mpr c)
 ·have c':tb m k=false:=by simpa using c
  rw[c'];exact dU λq=>c ((mv h _).mp q)
end L2
namespace L2
open PySem PyProof.Rows
theorem aN2{a b:Int}{n:Nat}(ha:0<=a)(hb:0<=b)(h1:a<2^n)(h2:b<2^n):Builtin.bitOr a b<2^n:=by
 obtain⟨x,rfl⟩:=bY ha;obtain⟨y,rfl⟩:=bY hb;have e:=jF n;have:x||| y<2^n:=Nat.or_lt_two_pow ⋯ ⋯
 rw[pM];omega
section
variable{X:Cx}{tg:Expr}
theorem Gv{a b c:Int}(hc:0<c):0<=Builtin.Range.rangeSize a b c:=by
 unfold Builtin.Range.rangeSize;rw[if_pos hc];split
 ·have:0<=(b-a-1) / c:=cX ⋯ ⋯;omega
 ·exact bB 0
end
noncomputable def rZ(a:Addr)(lo hi st:Int):HO:=.ext λh=>∃t u v,h.get? a=some {cls:=.type "range",data:=.fields #[.int lo t,.int hi u,.int st v]}
section
variable{X:Cx}
theorem Vz{pins:List (Addr×Obj)}{σ:St}{H:Hp}{s:Shared}{Q:VK}{lo hi st:Int}{t u v:Tok}{tk:Nat}(I:Inv X pins σ H s)(q:∀p,H p=none->Q (.ref p) (upd H p (rZ p lo hi st))):
  EP X pins σ Q (.ref s.heap.objs.size) {s with heap:=s.heap.push {cls:=.type "range",data:=.fields #[.int lo t,.int hi u,.int st v]},toks:=tk}:=by
 refine⟨.ref s.heap.objs.size,upd H s.heap.objs.size (rZ s.heap.objs.size lo hi st),I.laid (t':=tk) (λb u e=>bD _ e) (aX _) ?_,rfl,q _ (I.hok.fresh (aX _))⟩;have e:=bO s.heap (o:={cls:=.type "range",data:=.fields #[.int lo t,.int hi u,.int st v]}) rfl;exact⟨⟨t,u,v,e⟩,⟨_,e⟩,λh1 h2 ⟨t,u,v,z⟩ k=>⟨t,u,v,k _ z⟩⟩
theorem zo:io X (.type "range") (λxs H Q=>∃i j c,xs=[.int i,.int j,.int c]/\(0<c/\c<1073741824)/\∀p,H p=none->Q (.ref p) (upd H p (rZ p i j c))):=by
 refine⟨λpins s σ H xs us Q I r h=>?_⟩;obtain⟨i,j,c,rfl,⟨c0,c1⟩,q⟩:=h;cases r with
 |cons r rr=>
  cases rr with
  |cons r' rr=>
   cases rr with
   |cons r'' rr=>
    cases rr;obtain⟨t,rfl⟩:=r;obtain⟨t',rfl⟩:=r';obtain⟨t'',rfl⟩:=r'';exact call_range_3 (Int.ne_of_gt c0) (Vz I q) (.inl (PyProof.noPylong_small ⋯))
theorem WR{lo st:Int}:∀{n:Nat} {acc:Array Value},ItemsOf (λi v=>∃t,v=.int (lo+i*st) t) acc n->Vals ((List.range n).map λi:Nat=>V.int (lo+i*st)) acc.toList:=by
 intro n acc h;obtain⟨hz,hi⟩:=h;have key:∀(m:Nat),m<=n->Vals ((List.range m).map λi:Nat=>V.int (lo+i*st)) (acc.toList.take m):=by
  intro m;induction m with
  |zero=>intro _;exact .nil
  |succ m ih=>
   intro hm;have hlt:m<acc.toList.length:=by rw[dD];omega
   obtain⟨t,e⟩:=hi m acc.toList[m] (by rw[←Array.getElem?_toList];exact cD hlt);rw[cC,bA,bL,cD hlt];exact (ih ⋯).append (.cons ⟨t,e⟩ .nil)
 have:=key n (aX _)
 rwa [dF (by rw[dD];omega)] at this
theorem cLR(hc:X.calm=true:=by rfl):io X (.type "list") (λxs H Q=>∃(p:Addr) (lo hi st:Int) (n:Nat),xs=[.ref p]/\H p=some (rZ p lo hi st)/\Builtin.Range.small lo hi st=true/\Builtin.Range.rangeSize lo hi st=(n:Int)/\n<=100000/\
  ∀l,H l=none->Q (.ref l) (upd H l (.lst ((List.range n).map λi:Nat=>V.int (lo+i*st))))):=by
 refine⟨λpins s σ H xs us Q I r h=>?_⟩;obtain⟨p,lo,hi,st,n,rfl,hp,hs,hn,hl,q⟩:=h;obtain⟨u,rfl,rx⟩:=jr r;cases rx;obtain⟨⟨t,u,v,e⟩,_,_⟩:=I.hok p _ hp;refine call_list_range (I.ok.hd hc) e hs hn (bV hl (by decide)) λh' tk acc c' kp hS hI=>?_;have hz:((List.range n).map λi:Nat=>V.int (lo+i*st)).length<=sizeLine:=by
  rw[aY,List.length_range,dN];omega
 exact⟨.ref s.heap.objs.size,_,I.laid (t':=tk) kp (aX _) (show ObjOk X.prog X.w _ h' _ (.lst _) from ⟨hz,acc.toList,c',WR hI,by simpa using hS⟩),rfl,q _ (I.hok.fresh (aX _))⟩
def IL:V->List V->Hp->VK->Prop:=λx vs H Q=>∃i,x=.int i/\vs=[]/\Q (.int (Builtin.Int.intBits i:Nat)) H
theorem VZ:nB X "int.bit_length" IL:=by
 intro pins s σ H x xs v us Q I rx rv h;obtain⟨i,rfl,rfl,q⟩:=h;cases rv;obtain⟨t,rfl⟩:=rx;exact call_int_bit_length ⟨.int _,H,I.tok _,⟨()⟩,q⟩
theorem EM{o:Expr}{to:TE}{apos cpos:Pos}(ho:E X o to)(hbase:attributeBase o "bit_length" X.env (eval o X.env)=eval o X.env:=by rfl)(hline:(apos.endLine==cpos.line)=true:=by rfl):
  E X (.Call (.Attribute o "bit_length" apos) [] [] cpos) (FQ X.K "int" IL to):=⟨Yp PySem.F.plainAttrs_int PySem.F.slot_int_bit_length PySem.F.type_int_bit_length VZ ho.h hbase hline⟩
theorem A8:io X (.type "tuple") (λxs H Q=>∃p ys,xs=[.ref p]/\((SqL X.K H p ys/\∀l,H l=none->Q (.ref l) (upd H l (.tup ys)))∨(SqT X.K H p ys/\Q (.ref p) H))):=⟨apQ⟩
theorem Dt:gF X (binaryOp .BitXor) (iI λi j=>.int (Builtin.bitXor i j)):=⟨X7⟩
theorem yZ:tL X (unaryOp .Invert) (rU λi=>.int (Builtin.bitNot i)):=⟨aH7⟩
theorem jB:gF X (compareOp .Is) (λx y H Q=>y=.non/\Q (.bl (decide (x=.non))) H):=⟨YF⟩
theorem aTB:gF X (compareOp .IsNot) (λx y H Q=>y=.non/\Q (.bl (!decide (x=.non))) H):=⟨Vp⟩
theorem XU:gF X (compareOp .In) (C7 X.K false):=⟨QO⟩
end
theorem Same.none{H H':Hp}{D:Addr}(s:Same H H')(h:H' D=none):H D=none:=by
 cases e:H D with
 |none=>rfl
 |some o=>exact absurd (h.symm.trans (s _ _ e)) (by simp)
def Keep(H H':Hp):Prop:=∀b o,(∀xs,o≠ .lst xs)->H b=some o->H' b=some o
theorem Same.keep{H H':Hp}(s:Same H H'):Keep H H':=λb o _ h=>s b o h
theorem rD{H:Hp}{D:Addr}{l l':List V}(h:H D=some (.lst l)):Keep H (upd H D (.lst l')):=λb o n hb=>by
 by_cases e:b=D
 ·subst e;rw[h] at hb;cases hb;exact absurd rfl (n l)
 ·rw[eW e];exact hb
theorem Keep.tup{H H':Hp}(k:Keep H H'){b:Addr}{xs:List V}(h:H b=some (.tup xs)):H' b=some (.tup xs):=k b _ (λ_ z=>nomatch z) h
theorem Keep.ins{H H':Hp}(k:Keep H H'){b C dx:Addr}{fs:List (Str×V)}(h:H b=some (.ins C dx fs)):H' b=some (.ins C dx fs):=k b _ (λ_ z=>nomatch z) h
section
variable{X:Cx}{K:FG}
theorem fR(hK:X.K=K:=by rfl):oi X (CI K):=hK▸xL
theorem gx(hK:X.K=K:=by rfl):oi X (B8 K):=hK▸xT
theorem Fk(hK:X.K=K:=by rfl):gF X (compareOp .In) (C7 K false):=hK▸XU
theorem kO(hK:X.K=K:=by rfl):io X (.builtin "len") (λxs H Q=>∃p ys,xs=[.ref p]/\(SqL K H p ys∨SqT K H p ys)/\Q (.int ys.length) H):=hK▸DY
theorem kK(hK:X.K=K:=by rfl):so X (wG K):=hK▸zI
end
inductive Kd where
 |int | bool | str | non | list | tuple | dict
noncomputable def Kd.nm:Kd->String
 |.int=>"int" | .bool=>"bool" | .str=>"str" | .non=>"NoneType" | .list=>"list" | .tuple=>"tuple" | .dict=>"dict"
noncomputable def Kd.isa:Kd->Kd->Bool
 |.int,.int=>true | .bool,.int=>true | .bool,.bool=>true | .str,.str=>true | .list,.list=>true | .tuple,.tuple=>true | .dict,.dict=>true | _,_=>false
def KindV(K:FG)(H:Hp):V->Kd->Prop
 |.int _,k=>k=.int
 |.bl _,k=>k=.bool
 |.str _,k=>k=.str
 |.non,k=>k=.non
 |.ref a,k=>(k=.list/\∃xs,SqL K H a xs)∨(k=.tuple/\∃xs,SqT K H a xs)∨(k=.dict/\∃kvs,H a=some (.dK kvs))
 |_,_=>False
theorem pk{X:Cx}:io X (.builtin "isinstance") (λxs H Q=>∃(v:V) (n k:Kd),xs=[v,.ty n.nm]/\n.nm≠"NoneType"/\KindV X.K H v k/\Q (.bl (Kd.isa k n)) H):=by
 refine⟨λpins s σ H xs us Q I r h=>?_⟩;obtain⟨v,n,k,rfl,hn,hk,q⟩:=h;obtain⟨u,w',rfl,r1,r2⟩:=mO r;cases r2;have fE:∀tk,EP X pins σ Q (.bool (Kd.isa k n)) {s with toks:=tk}:=λtk=>⟨.bl _,H,I.tok _,rfl,q⟩;have fin0:EP X pins σ Q (.bool (Kd.isa k n)) s:=⟨.bl _,H,I,rfl,q⟩;cases v with
 |int i=>
  obtain⟨t,rfl⟩:=r1;cases (show k=Kd.int from hk);cases n with
  |int=>exact PySem.IsiPair.int_int fin0
  |bool=>exact PySem.IsiPair.int_bool (fE _)
  |str=>exact PySem.IsiPair.int_str (fE _)
  |list=>exact PySem.IsiPair.int_list (fE _)
  |tuple=>exact PySem.IsiPair.int_tuple (fE _)
  |dict=>exact PySem.IsiPair.int_dict (fE _)
  |non=>exact absurd rfl hn
 |bl b=>
  cases r1;cases (show k=Kd.bool from hk);cases n with
  |int=>exact PySem.IsiPair.bool_int fin0
  |bool=>exact PySem.IsiPair.bool_bool fin0
  |str=>exact PySem.IsiPair.bool_str (fE _)
  |list=>exact PySem.IsiPair.bool_list (fE _)
  |tuple=>exact PySem.IsiPair.bool_tuple (fE _)
  |dict=>exact PySem.IsiPair.bool_dict (fE _)
  |non=>exact absurd rfl hn
 |str x=>
  obtain⟨t,rfl⟩:=r1;cases (show k=Kd.str from hk);cases n with
  |int=>exact PySem.IsiPair.str_int (fE _)
  |bool=>exact PySem.IsiPair.str_bool (fE _)
  |str=>exact PySem.IsiPair.str_str fin0
  |list=>exact PySem.IsiPair.str_list (fE _)
  |tuple=>exact PySem.IsiPair.str_tuple (fE _)
  |dict=>exact PySem.IsiPair.str_dict (fE _)
  |non=>exact absurd rfl hn
 |non=>
  cases r1;cases (show k=Kd.non from hk);cases n with
  |int=>exact PySem.IsiPair.NoneType_int (fE _)
  |bool=>exact PySem.IsiPair.NoneType_bool (fE _)
  |str=>exact PySem.IsiPair.NoneType_str (fE _)
  |list=>exact PySem.IsiPair.NoneType_list (fE _)
  |tuple=>exact PySem.IsiPair.NoneType_tuple (fE _)
  |dict=>exact PySem.IsiPair.NoneType_dict (fE _)
  |non=>exact absurd rfl hn
 |ref a=>
  cases r1;rcases hk with ⟨rfl,ys,hq⟩ | ⟨rfl,ys,hq⟩ | ⟨rfl,kvs,hq⟩
  ·obtain⟨its,rv,pl,_⟩:=I.list hq;obtain⟨o,ho,hc,_⟩:=pl.isList;cases n with
   |int=>exact PySem.IsiPair.list_int ho hc (fE _)
   |bool=>exact PySem.IsiPair.list_bool ho hc (fE _)
   |str=>exact PySem.IsiPair.list_str ho hc (fE _)
   |list=>exact PySem.IsiPair.list_list ho hc fin0
   |tuple=>exact PySem.IsiPair.list_tuple ho hc (fE _)
   |dict=>exact PySem.IsiPair.list_dict ho hc (fE _)
   |non=>exact absurd rfl hn
  ·obtain⟨its,rv,⟨o,ho,hc,_⟩,_⟩:=I.tuple hq;cases n with
   |int=>exact PySem.IsiPair.tuple_int ho hc (fE _)
   |bool=>exact PySem.IsiPair.tuple_bool ho hc (fE _)
   |str=>exact PySem.IsiPair.tuple_str ho hc (fE _)
   |list=>exact PySem.IsiPair.tuple_list ho hc (fE _)
   |tuple=>exact PySem.IsiPair.tuple_tuple ho hc fin0
   |dict=>exact PySem.IsiPair.tuple_dict ho hc (fE _)
   |non=>exact absurd rfl hn
  ·obtain⟨_,_,_,_,o,_,_,ho,ex,_⟩:=I.hok a _ hq;cases n with
   |int=>exact PySem.IsiPair.dict_int ho ex.1 (fE _)
   |bool=>exact PySem.IsiPair.dict_bool ho ex.1 (fE _)
   |str=>exact PySem.IsiPair.dict_str ho ex.1 (fE _)
   |list=>exact PySem.IsiPair.dict_list ho ex.1 (fE _)
   |tuple=>exact PySem.IsiPair.dict_tuple ho ex.1 (fE _)
   |dict=>exact PySem.IsiPair.dict_dict ho ex.1 fin0
   |non=>exact absurd rfl hn
 |byt b=>exact False.elim hk
 |flt b=>exact False.elim hk
 |ty n=>exact False.elim hk
end L2
namespace L2
open PySem PySem.Spec PyProof.Rows PySem.Builtin PySem.Builtin.Str
noncomputable abbrev Tx(l:List Nat):Str:=⟨l.toArray⟩
theorem Tx_inj{a b:List Nat}:Tx a=Tx b↔a=b:=⟨λh=>by
 have:(Tx a).cps.toList=(Tx b).cps.toList:=by rw[h]
 simpa using this,λh=>by rw[h]⟩
theorem FP(x:Str):Tx x.cps.toList=x:=by cases x;simp
theorem ja(a:List Nat):(Tx a).length=a.length:=by simp[Str.length]
noncomputable def sr(x:Str):It:=⟨λi _=>i<x.cps.size,λi H v H'=>H'=H/\∃c,x.cps[i]? =some c/\v=.str ⟨#[c]⟩,λi _=>i=x.cps.size⟩
theorem Ye{P:Program}{w:World}{K:FG}{tg:Expr}(x:Str)(t:Tok)(it:Addr):iS P w K tg (sr x) [it] it (λi h=>h.IsStrIter it "str_ascii_iterator" x t i) where
 mem:=by simp
 obj:=λi h st b hb=>by
  have e:b=it:=by simpa using hb
  subst e;obtain⟨o,e,c,d⟩:=st;exact⟨o,e,λv z=>by rw[d] at z;cases z⟩
 keep:=λi h h' st k=>by
  obtain⟨o,e,r⟩:=st;exact⟨o,k it (by simp) o e,r⟩
 item:=by
  intro X hP hw hK hc i pins s σ H E I hf st hg;subst hP hw hK;obtain⟨f0,f1,f2,f3,f4,f5⟩:=hf it (by simp);have hg:i<x.cps.size:=hg;refine wpAny_pyNext_ascii_item st (c:=x.cps[i]) (by simp[hg]) λh' st' sb=>?_;have I1:Inv X pins σ H {s with heap:=h',toks:=s.toks+1}:=I.turned (λb o hb e=>sb.extBut b o hb e) f0 f1 f3 f4 f5;obtain⟨o,e,c,d⟩:=id st';exact⟨(),pY (s:={s with heap:=h',toks:=s.toks+1}) e c d (by decide) ⟨.str ⟨#[x.cps[i]]⟩,H,I1,⟨()⟩,⟨rfl,x.cps[i],by simp[hg],rfl⟩,st',λb hb=>(hf b hb).1⟩⟩
 done:=by
  intro X hP hw hK hc i pins s σ H E I hf st hg;subst hP hw hK;obtain⟨f0,f1,f2,f3,f4,f5⟩:=hf it (by simp);have hg:i=x.cps.size:=hg;exact wpAny_pyNext_ascii_end (I.ok.hd hc) st (by simp[hg]) λh' eb=>⟨rfl,I.turned (t':=s.toks) (λb o hb e=>eb b o hb e) f0 f1 f3 f4 f5⟩
 self:=λ_ _ _ _ _ st h=>wpAny_pyIter_striter_ascii st h
theorem Ll{P:Program}{w:World}{K:FG}{tg:Expr}(x:Str)(t:Tok)(it:Addr):iS P w K tg (sr x) [it] it (λi h=>h.IsStrIter it "str_iterator" x t i) where
 mem:=by simp
 obj:=λi h st b hb=>by
  have e:b=it:=by simpa using hb
  subst e;obtain⟨o,e,c,d⟩:=st;exact⟨o,e,λv z=>by rw[d] at z;cases z⟩
 keep:=λi h h' st k=>by
  obtain⟨o,e,r⟩:=st;exact⟨o,k it (by simp) o e,r⟩
 item:=by
  intro X hP hw hK hc i pins s σ H E I hf st hg;subst hP hw hK;obtain⟨f0,f1,f2,f3,f4,f5⟩:=hf it (by simp);have hg:i<x.cps.size:=hg;refine wpAny_pyNext_wide_item st (c:=x.cps[i]) (by simp[hg]) λh' st' sb=>?_;have I1:Inv X pins σ H {s with heap:=h',toks:=s.toks+1}:=I.turned (λb o hb e=>sb.extBut b o hb e) f0 f1 f3 f4 f5;obtain⟨o,e,c,d⟩:=id st';exact⟨(),pY (s:={s with heap:=h',toks:=s.toks+1}) e c d (by decide) ⟨.str ⟨#[x.cps[i]]⟩,H,I1,⟨()⟩,⟨rfl,x.cps[i],by simp[hg],rfl⟩,st',λb hb=>(hf b hb).1⟩⟩
 done:=by
  intro X hP hw hK hc i pins s σ H E I hf st hg;subst hP hw hK;obtain⟨f0,f1,f2,f3,f4,f5⟩:=hf it (by simp);have hg:i=x.cps.size:=hg;exact wpAny_pyNext_wide_end (I.ok.hd hc) st (by simp[hg]) λh' eb=>⟨rfl,I.turned (t':=s.toks) (λb o hb e=>eb b o hb e) f0 f1 f3 f4 f5⟩
 self:=λ_ _ _ _ _ st h=>wpAny_pyIter_striter_wide st h
section
variable{X:Cx}{tg:Expr}
def wq(tl:TE):TI:=λσ H R=>tl σ H λx H1=>∃z,x=.str z/\R (sr z) H1
theorem iX{l:Expr}{tl:TE}(hl:E X l tl):Il X tg l (wq tl):=by
 refine⟨λpins s σ H R I h=>?_⟩;refine eX (hl.h pins s σ H _ I h) λu s1 ⟨x,H1,I1,r1,q1⟩=>?_;obtain⟨z,rfl,q⟩:=q1;obtain⟨t,rfl⟩:=r1;have fp:∀b∈[s1.heap.objs.size],jM X pins H1 b:=λb hb=>by
  have e:b=s1.heap.objs.size:=by simpa using hb
  subst e;exact I1.fpOk (aX _) (I1.hok.fresh (aX _))
 cases ha:z.cps.all (·<128)
 ·exact wpAny_pyIter_wide ha ⟨s1.heap.objs.size,[s1.heap.objs.size],_,_,H1,rfl,I1.kept (t':=s1.toks) λb o e=>bD _ e,Ll z t _,⟨_,bO _ rfl,rfl,rfl⟩,fp,q⟩
 ·exact wpAny_pyIter_ascii ha ⟨s1.heap.objs.size,[s1.heap.objs.size],_,_,H1,rfl,I1.kept (t':=s1.toks) λb o e=>bD _ e,Ye z t _,⟨_,bO _ rfl,rfl,rfl⟩,fp,q⟩
variable{js:List Nat}{σ:St}{tt:TT}{te:TE}{Q:VK}{H1:Hp}
theorem MV{xs:List Nat}(R:Nat->List V->Prop)(hn:xs.length<=sizeLine)(h0:R 0 [])
  (hs:∀(i:Nat) (c:Nat) (l:List V) (D:Addr) (H2:Hp) (E:V->Hp->Prop) (F:Hp->Prop),xs[i]? =some c->R i l->H1 D=none->Same H1 H2->H2 D=some (.lst l)->(∀y H5,Same H2 H5->R (i+1) (l++[y])->E y H5)->(∀H4,Same H2 H4->R (i+1) l->F H4)->
   tt (some (.str (Tx [c]))::gZ js σ) H2 λb H4=>if b=true then te (some (.str (Tx [c]))::gZ js σ) H4 E else F H4)
  (hd:∀(D:Addr) (H2:Hp) (l:List V),R xs.length l->H1 D=none->Same H1 H2->H2 D=some (.lst l)->Q (.ref D) H2):mr (sr (Tx xs)) js σ tt te Q H1:=by
 intro D hD;have hz:(Tx xs).cps.size=xs.length:=by simp
 refine⟨λi m H2=>m=xs.length-i/\i<=xs.length/\Same H1 H2/\∃l,H2 D=some (.lst l)/\l.length<=i/\R i l,⟨xs.length,by simp,bK _,eJ hD _,[],eF,aX _,h0⟩,?_⟩;rintro i m H2 ⟨rfl,hi,s2,l,h2,hll,hR⟩;by_cases hlt:i<xs.length
 ·refine .inr ⟨show i<(Tx xs).cps.size by rw[hz];exact hlt,λv H3 y=>?_⟩;obtain⟨e,c,ec,ev⟩:=y;subst e ev;refine hs i c l D _ _ _ (by simpa using ec) hR hD s2 h2 (λz H5 s5 r5=>?_) (λH4 s4 r4=>?_)
  ·refine⟨l,s5 _ _ h2,cQ hll (bC hlt hn),xs.length-(i+1),⋯,rfl,hlt,λb o hb=>?_,l++[z],eF,by rw[a8,b9];omega,r5⟩;rw[eW (gT hb hD)];exact s5 _ _ (s2 _ _ hb)
  ·exact⟨xs.length-(i+1),⋯,rfl,hlt,s2.trans s4,l,s4 _ _ h2,⋯,r4⟩
 ·have e:i=xs.length:=⋯;subst e;exact .inl ⟨show xs.length=(Tx xs).cps.size by rw[hz],hd D H2 l hR hD s2 h2⟩
end
section
variable{X:Cx}
theorem E7{prog:Program}{w:World}{A:Around}{its:Array Value}{bs:List Bool}(r:Vals (bs.map V.bl) its.toList):TruthOf prog w A (λi v=>its[i]? =some v) (λi=>bs.getD i false):=by
 intro i v s Q E hv hq;have hv':its.toList[i]? =some v:=by rw[Array.getElem?_toList];exact hv
 have hi:i<bs.length:=by
  have h1:=r.length;rw[aY] at h1;rcases Nat.lt_or_ge i its.toList.length with z | z
  ·omega
  ·rw[List.getElem?_eq_none z] at hv';cases hv'
 obtain⟨u,hu,ru⟩:=r.get (i:=i) (x:=V.bl bs[i]) (by rw[bI,cD hi];rfl);rw[hv'] at hu;cases hu;cases ru;have e:bs.getD i false=bs[i]:=by simp[List.getD,cD hi]
 have hq:Q (bs.getD i false) s:=hq;rw[e] at hq;exact dY hq
theorem L8(bs:List Bool):(List.range bs.length).all (λi=>bs.getD i false)=bs.all id:=by
 rw[cS,cJ,cJ];refine⟨λh b hb=>?_,λh i hi=>?_⟩
 ·obtain⟨i,hi,e⟩:=List.getElem_of_mem hb;have:=h i (cM.mpr hi);rw[show bs.getD i false=bs[i] by simp[List.getD,cD hi],e] at this;exact this
 ·have hi:=cM.mp hi;rw[show bs.getD i false=bs[i] by simp[List.getD,cD hi]];exact h _ (List.getElem_mem hi)
theorem Te(bs:List Bool):(List.range bs.length).any (λi=>bs.getD i false)=bs.any id:=by
 rw[cS,List.any_eq_true,List.any_eq_true];refine⟨λ⟨i,hi,h⟩=>?_,λ⟨b,hb,h⟩=>?_⟩
 ·have hi:=cM.mp hi;rw[show bs.getD i false=bs[i] by simp[List.getD,cD hi]] at h;exact⟨_,List.getElem_mem hi,h⟩
 ·obtain⟨i,hi,e⟩:=List.getElem_of_mem hb;refine⟨i,cM.mpr hi,?_⟩;rw[show bs.getD i false=bs[i] by simp[List.getD,cD hi],e];exact h
theorem sM(hc:X.calm=true:=by rfl):io X (.builtin "all") (λxs H Q=>∃(p:Addr) (bs:List Bool),xs=[.ref p]/\SqL X.K H p (bs.map V.bl)/\Q (.bl (bs.all id)) H):=by
 refine⟨λpins s σ H xs us Q I r h=>?_⟩;obtain⟨p,bs,rfl,hq,q⟩:=h;obtain⟨u,rfl,r1⟩:=jr r;cases r1;obtain⟨its,rv,pl,hz⟩:=I.list hq;have hne:p≠s.heap.objs.size:=by
  obtain⟨o,ho,_⟩:=pl.isList;exact bE (aZ ho)
 refine call_all_walk (wpAny_pyIter_list pl.isList ⟨s.heap.objs.size,[s.heap.objs.size,p],[s.heap.objs.size],its.toArray.size,(λi v=>its.toArray[i]? =some v),(λi h=>h.IsListIter s.heap.objs.size p i/\h.IsList p its.toArray),(λi=>bs.getD i false),rfl,Walks.list (prog:=X.prog) (w:=X.w) (A:=X.A.in1) (I.ok.hd hc) _ p hne its.toArray,⟨⟨_,bO _ rfl,rfl,rfl⟩,pl.isList.push _⟩,E7 (by simpa using rv),λh' tk hk=>?_⟩)
 have hl:=rv.length;rw[aY] at hl;have e:its.toArray.size=bs.length:=by rw[bJ];omega
 rw[e,L8];exact⟨.bl _,H,I.kept λb o eb=>hk b o (by simpa using bE (aZ eb)) (bD _ eb),rfl,q⟩
theorem Dp(hc:X.calm=true:=by rfl):io X (.builtin "any") (λxs H Q=>∃(p:Addr) (bs:List Bool),xs=[.ref p]/\SqL X.K H p (bs.map V.bl)/\Q (.bl (bs.any id)) H):=by
 refine⟨λpins s σ H xs us Q I r h=>?_⟩;obtain⟨p,bs,rfl,hq,q⟩:=h;obtain⟨u,rfl,r1⟩:=jr r;cases r1;obtain⟨its,rv,pl,hz⟩:=I.list hq;have hne:p≠s.heap.objs.size:=by
  obtain⟨o,ho,_⟩:=pl.isList;exact bE (aZ ho)
 refine call_any_walk (wpAny_pyIter_list pl.isList ⟨s.heap.objs.size,[s.heap.objs.size,p],[s.heap.objs.size],its.toArray.size,(λi v=>its.toArray[i]? =some v),(λi h=>h.IsListIter s.heap.objs.size p i/\h.IsList p its.toArray),(λi=>bs.getD i false),rfl,Walks.list (prog:=X.prog) (w:=X.w) (A:=X.A.in1) (I.ok.hd hc) _ p hne its.toArray,⟨⟨_,bO _ rfl,rfl,rfl⟩,pl.isList.push _⟩,E7 (by simpa using rv),λh' tk hk=>?_⟩)
 have hl:=rv.length;rw[aY] at hl;have e:its.toArray.size=bs.length:=by rw[bJ];omega
 rw[e,Te];exact⟨.bl _,H,I.kept λb o eb=>hk b o (by simpa using bE (aZ eb)) (bD _ eb),rfl,q⟩
end
end L2
namespace L2
open PySem PySem.Spec PyProof.Rows PySem.Builtin PySem.Builtin.Str
noncomputable def eY(c:Nat):List Nat->List (List Nat)
 |[]=>[[]]
 |x::r=>if x=c then []::eY c r else match eY c r with
  |h::t=>(x::h)::t
  |[]=>[[x]]
noncomputable def gR(c:Nat):List (List Nat)->List Nat
 |[]=>[]
 |[p]=>p
 |p::r=>p++c::gR c r
theorem Xx(c:Nat):∀l,eY c l≠[]
 |[]=>by simp[eY]
 |x::r=>by
  unfold eY;split
  ·simp
  ·split<;>simp
theorem nZ(c:Nat):∀(p:List Nat),c∉p->eY c p=[p]
 |[],_=>rfl
 |x::r,h=>by
  have h1:¬x=c:=λe=>h (by simp[e]);have h2:=nZ c r λe=>h (by simp[e]);unfold eY;rw[if_neg h1,h2]
theorem qa(c:Nat):∀(p r:List Nat),c∉p->eY c (p++c::r)=p::eY c r
 |[],r,_=>by
  show eY c (c::r)=_;unfold eY;rw[if_pos rfl];cases r<;>rfl
 |x::q,r,h=>by
  have h1:¬x=c:=λe=>h (by simp[e]);have h2:=qa c q r λe=>h (by simp[e]);show eY c (x::(q++c::r))=_;rw[eY,if_neg h1,h2]
theorem pH(c:Nat):∀(ps:List (List Nat)),ps≠[]->(∀p∈ps,c∉p)->eY c (gR c ps)=ps
 |[],h,_=>absurd rfl h
 |[p],_,h=>nZ c p (h p (by simp))
 |p::q::r,_,h=>by
  show eY c (p++c::gR c (q::r))=_;rw[qa c p _ (h p (by simp)),pH c (q::r) (by simp) λz hz=>h z (bP _ hz)]
theorem A5(c:Nat):∀ps:List Str,(Str.join (Tx [c]) ps).cps.toList=gR c (ps.map (·.cps.toList))
 |[]=>rfl
 |[p]=>rfl
 |p::q::r=>by
  have ih:=A5 c (q::r);show (p++Tx [c]++Str.join (Tx [c]) (q::r)).cps.toList=p.cps.toList++c::gR c ((q::r).map (·.cps.toList));rw[←ih];show ((p.cps++ #[c])++(Str.join (Tx [c]) (q::r)).cps).toList=_;simp
theorem VM(x y:Str)(h:Txt.split x y=[]):False:=by
 unfold Txt.split at h;split at h
 ·cases h
 ·split at h
  ·cases h
  ·have e:=congrArg List.length h;rw[length_partsBetween] at e;simp at e
theorem aDT(l:List Nat)(c:Nat):(Txt.split (Tx l) (Tx [c])).map (·.cps.toList)=eY c l:=by
 have h1:=StrLaws.join_split (Tx l) (Tx [c]);have h2:=StrLaws.split_free (Tx l) c;have h3:=A5 c (Txt.split (Tx l) (Tx [c]));rw[h1] at h3;have e:gR c ((Txt.split (Tx l) (Tx [c])).map (·.cps.toList))=l:=by rw[←h3]
 rw[←pH c ((Txt.split (Tx l) (Tx [c])).map (·.cps.toList)) (λz=>VM _ _ (List.map_eq_nil_iff.mp z)) ?_,e];intro p hp;obtain⟨z,hz,rfl⟩:=bH.mp hp;exact h2 z hz
theorem aAE(l:List Nat)(c:Nat):Txt.split (Tx l) (Tx [c])=(eY c l).map Tx:=by
 rw[←aDT,cG];have:∀ps:List Str,ps=ps.map ((λw:List Nat=>Tx w) ∘ λx=>x.cps.toList):=λps=>by
  induction ps with
  |nil=>rfl
  |cons a r ih=>rw[bM,←ih];simp
 exact this _
theorem Ji:∀l:List (Str×Tok),Vals (l.map λp=>V.str p.1) (strValues l)
 |[]=>.nil
 |p::r=>.cons ⟨p.2,rfl⟩ (Ji r)
section
variable{prog:Program}{w:World}{A:Around}{E:Value->Shared->Prop}{s:Shared}{x y:Str}{t u:Tok}{Q:Value->Shared->Prop}
theorem VL(hy:(y.length==0)=false)(hsz:x.length+2<=sizeLine)
  (h:∀l k,l.map (·.1)=Txt.split x y->Q (.ref s.heap.objs.size) {s with heap:=s.heap.push {cls:=.type "list",data:=.seq (strValues l).toArray},toks:=k}):
  wpAny (model prog w) A (call (.builtin "str.split") [.str x t,.str y u]) Q E s:=by
 have hn:(partsBetween x (occurrences x y 0 x.length (x.length+1)) y.length).length<=sizeLine:=by
  have e1:=StrLaws.occ_length_le x y 0 x.length (x.length+1);rw[length_partsBetween];omega
 cases h1:(decide (x.length<y.length)||decide (strKind x<strKind y))
 ·cases hf:(occurrences x y 0 x.length (x.length+1)).isEmpty
  ·refine call_meets F.slot_str_split (typeIs_str _ _ _) F.entry_str_split (F.args_str_split_2 _ _) (meets_str_split_sep x y t u h1 hy hf ⋯ hn) ?_;show wants Q E _ {s with toks:=_,heap:=s.heap.push {cls:=.type "list",data:=.seq (strsFrom s.toks (partsBetween x (occurrences x y 0 x.length (x.length+1)) y.length)).toArray} };rw[strsFrom_eq];exact h (numbered s.toks _) _ ((numbered_texts _ _).trans ((if_neg (ne_true_of_eq_false h1)).trans (if_neg (ne_true_of_eq_false hf))).symm)
  ·exact call_meets F.slot_str_split (typeIs_str _ _ _) F.entry_str_split (F.args_str_split_2 _ _) (meets_str_split_not_found x y t u h1 hy hf)
    (h [(x,t)] s.toks ((if_neg (ne_true_of_eq_false h1)).trans (if_pos hf)).symm)
 ·exact call_meets F.slot_str_split (typeIs_str _ _ _) F.entry_str_split (F.args_str_split_2 _ _) (meets_str_split_cannot_occur x y t u h1)
   (h [(x,t)] s.toks (if_pos h1).symm)
end
theorem pZ(c:Nat):∀l,(eY c l).length<=l.length+1
 |[]=>by simp[eY]
 |x::r=>by
  have ih:=pZ c r;unfold eY;split
  ·simp;omega
  ·split
   ·rename_i e;rw[e] at ih;simp at ih ⊢;omega
   ·simp
section
variable{X:Cx}
def F0:V->List V->Hp->VK->Prop:=λx vs H Q=>∃(l:List Nat) (c:Nat),x=.str (Tx l)/\vs=[.str (Tx [c])]/\l.length+2<=sizeLine/\∀p,H p=none->Q (.ref p) (upd H p (.lst ((eY c l).map λq=>V.str (Tx q))))
theorem NB:nB X "str.split" F0:=by
 intro pins s σ H x xs v us Q I rx rv h;obtain⟨l,c,rfl,rfl,hz,q⟩:=h;obtain⟨u,rfl,t',rfl⟩:=jr rv;obtain⟨t,rfl⟩:=rx;refine VL (by rfl) (by rw[ja];exact hz) λps k e=>?_;have e2:ps.map (λp=>V.str p.1)=(eY c l).map λq=>V.str (Tx q):=by
  have:=congrArg (List.map V.str) e;rw[aAE,cG,cG] at this;exact this
 have hl:((eY c l).map λq=>V.str (Tx q)).length<=sizeLine:=by
  have:=pZ c l;rw[aY];omega
 refine⟨.ref s.heap.objs.size,upd H s.heap.objs.size (.lst ((eY c l).map λq=>V.str (Tx q))),I.laid (t':=k) (λb u e=>bD _ e) (aX _) ?_,rfl,q _ (I.hok.fresh (aX _))⟩;exact⟨hl,strValues ps,0,by rw[←e2];exact Ji ps,bO _ rfl⟩
theorem n8{o e:Expr}{to te:TE}{apos cpos:Pos}(ho:E X o to)(he:E X e te)(hbase:attributeBase o "split" X.env (eval o X.env)=eval o X.env:=by rfl)
  (hfew:((backTo cpos (starEach [e] X.env)).all (λx=> !x.1)&&(backToKw cpos (keywordEach [] X.env)).all (λx=>x.1.isSome)&&decide (([e]:List Expr).length+([]:List Keyword).length+(if ([]:List Keyword).isEmpty then 0 else 1)<30))=true:=by rfl)
  (hline:(apos.endLine==cpos.line)=true:=by rfl) (hs:starEach [e] X.env=(false,eval e X.env)::starEach [] X.env:=by rfl) (hplain:(backTo cpos (starEach [] X.env)).any (·.1)=false:=by rfl):
  E X (.Call (.Attribute o "split" apos) [e] [] cpos) (nE X.K "str" F0 to (jc te iP)):=
 ⟨oZ PySem.F.plainAttrs_str PySem.F.slot_str_split PySem.F.type_str_split NB ho.h (kZ he.h lH hs) hbase hfew hline hs hplain⟩
theorem B9:gF X (compareOp .In) (λx y H Q=>∃(c:Nat) (l:List Nat),x=.str (Tx [c])/\y=.str (Tx l)/\Q (.bl (decide (c∈l))) H):=by
 refine⟨λpins s σ H x y v u Q I rx ry h=>?_⟩;obtain⟨c,l,rfl,rfl,q⟩:=h;refine L0 pins s σ H _ _ v u Q I rx ry ⟨(()),?_⟩;rw[show (!(occurrences (Tx l) (Tx [c]) 0 (Tx l).length 1).isEmpty)=decide (c∈(Tx l).cps.toList) from StrLaws.found_one (Tx l) c];exact q
theorem uH:io X (.builtin "len") (λxs H Q=>∃l:List Nat,xs=[.str (Tx l)]/\l.length<=sizeLine/\Q (.int l.length) H):=by
 refine⟨λpins s σ H xs us Q I r h=>?_⟩;obtain⟨l,rfl,hz,q⟩:=h;refine VC pins s σ H _ us Q I r ⟨Tx l,rfl,by rw[ja];exact hz,?_⟩;rw[ja];exact q
theorem jj:gF X (binaryOp .Add) (λx y H Q=>∃a b:List Nat,x=.str (Tx a)/\y=.str (Tx b)/\a.length+b.length<=sizeLine/\Q (.str (Tx (a++b))) H):=by
 refine⟨λpins s σ H x y v u Q I rx ry h=>?_⟩;obtain⟨a,b,rfl,rfl,hz,q⟩:=h;refine Qi pins s σ H _ _ v u Q I rx ry ⟨(()),by rw[ja,ja];exact hz,?_⟩;have e:Tx a++Tx b=Tx (a++b):=by show Str.mk _=Str.mk _;simp
 rw[e];exact q
theorem xX:oi X (λx y H Q=>∃(l:List Nat) (i:Int) (c:Nat),x=.str (Tx l)/\y=.int i/\l.length<=sizeLine/\ie l i=some c/\Q (.str (Tx [c])) H):=by
 refine⟨λvalue slice pins s σ H x y v u Q I rx ry h hs=>?_⟩;obtain⟨l,i,c,rfl,rfl,hz,ha,q⟩:=h;exact Pp value slice pins s σ H _ _ v u Q I rx ry ⟨Tx l,i,c,rfl,rfl,by rw[ja];exact hz,by simpa using ha,q⟩ hs
end
end L2
namespace L2
open PySem PySem.Spec PyProof.Rows PySem.Builtin PySem.Builtin.Str
section
variable{X:Cx}{pins:List (Addr×Obj)}{σ:St}{H:Hp}{s:Shared}{h':Heap}
theorem Inv.turnT{ch:List Addr}{T:Addr}{o:HO}{t':Nat}(I:Inv X pins σ H s)(k:∀b u,b∉ch->s.heap.get? b=some u->h'.get? b=some u)(hch:∀b∈ch,jM X pins H b)(hT:s.heap.objs.size<=T)(new:ObjOk X.prog X.w (upd H T o) h' T o):
  Inv X pins σ (upd H T o) {s with heap:=h',toks:=t'}:=by
 have hn:=I.hok.fresh hT;have nit:∀b u,H b=some u->b∉ch:=λb u e z=>by rw[(hch b z).1] at e;cases e
 refine I.step (g':=s.gens) (d':=s.drawn) (ch:=ch) (λb hb=>?_) (λb u _ _ hc e _=>k b u hc e) (λb u _ _ hc e _=>⟨u.slots,k b u hc e⟩) (λb u _ e n=>?_)
  (λb u hc e=>⟨u,k b u hc e⟩) (λb xs e=>by rw[eW (gT e hn)];exact e) (λb u xs e=>by rw[eW (gT e hn)];exact e) (λb ps e=>⟨#[],by rw[eW (gT e hn),e];simp⟩) (λm hm=>?_) (λb u e=>?_) I.bare
 ·obtain⟨f0,f1,f2,f3,f4,f5⟩:=hch b hb;exact⟨f3,f1,f4,f5⟩
 ·rw[eW (bE (bC (aZ e) hT))];exact n
 ·obtain⟨ob,es,ep,ho,r⟩:=hm;exact⟨ob,es,ep,k _ ob (λz=>(hch _ z).2.1 rfl) ho,r⟩
 ·by_cases hb:b=T
  ·subst hb;rw[eF] at e;cases e;exact new
  ·rw[eW hb] at e;refine (I.hok b u e).stay (λc v hc q=>k c v ?_ q) (λc q=>by rw[eW (gT q hn)];exact q) λc xs q=>by rw[eW (gT q hn)];exact q
   rcases hc with z | z
   ·rw[z];exact nit b u e
   ·exact nit c _ z
theorem Inv.turnN{ch:List Addr}{t':Nat}(I:Inv X pins σ H s)(k:∀b u,b∉ch->s.heap.get? b=some u->h'.get? b=some u)(hch:∀b∈ch,jM X pins H b):Inv X pins σ H {s with heap:=h',toks:=t'}:=by
 have nit:∀b u,H b=some u->b∉ch:=λb u e z=>by rw[(hch b z).1] at e;cases e
 refine I.step (g':=s.gens) (d':=s.drawn) (ch:=ch) (λb hb=>?_) (λb u _ _ hc e _=>k b u hc e) (λb u _ _ hc e _=>⟨u.slots,k b u hc e⟩) (λb u _ e n=>n)
  (λb u hc e=>⟨u,k b u hc e⟩) (λb xs e=>e) (λb u xs e=>e) (λb ps e=>⟨#[],by rw[e];simp⟩) (λm hm=>?_) (λb u e=>?_) I.bare
 ·obtain⟨f0,f1,f2,f3,f4,f5⟩:=hch b hb;exact⟨f3,f1,f4,f5⟩
 ·obtain⟨ob,es,ep,ho,r⟩:=hm;exact⟨ob,es,ep,k _ ob (λz=>(hch _ z).2.1 rfl) ho,r⟩
 ·refine (I.hok b u e).stay (λc v hc q=>k c v ?_ q) (λc q=>q) λc xs q=>q;rcases hc with z | z
  ·rw[z];exact nit b u e
  ·exact nit c _ z
end
noncomputable def mR(K:FG)(a:Addr):It:=
 ⟨λi H=>∃xs x,SqL K H a xs/\xs[i]? =some x,λi H v H'=>∃T,v=.ref T/\H T=none/\∀xs,SqL K H a xs->∃x,xs[i]? =some x/\H'=upd H T (.tup [.int i,x]),λi H=>∃xs,SqL K H a xs/\xs.length=i⟩
theorem W7{P:Program}{w:World}{K:FG}{es:List Expr}{kk:Nat}{pos:Pos}(a e it:Addr)(hne:e≠it):iS P w K (.Tuple es kk pos) (mR K a) [e,it] e (λi h=>(∃old,IsEnum h e it i old)/\h.IsListIter it a i) where
 mem:=by simp
 obj:=λi h st b hb=>by
  obtain⟨⟨old,he⟩,o,e1,c,d⟩:=st;rcases a9.mp hb with z | z
  ·subst z;exact⟨_,he,λv q=>by
    have q':Data.fields _=Data.cell v:=q;cases q'⟩
  ·have z:b=it:=by simpa using z
   subst z;exact⟨o,e1,λv q=>by rw[d] at q;cases q⟩
 keep:=λi h h' st k=>by
  obtain⟨⟨old,he⟩,hit⟩:=st;exact⟨⟨old,k e (by simp) _ he⟩,hit.at λo q=>k it (by simp) o q⟩
 item:=by
  intro X hP hw hK hc i pins s σ H E I hf st hg;subst hP hw hK;obtain⟨xs,x,hq,hx⟩:=hg;obtain⟨⟨old,he⟩,hit⟩:=st;obtain⟨its,rv,p,hz⟩:=I.list hq;obtain⟨u,hu,ru⟩:=rv.get hx;refine wpAny_pyNext_enum_item he hit p.isList (x:=u) (by simpa using hu) hne λh1 ho hit1 hT hsz hk=>?_;refine⟨(),wpAny_letOwnedTupleGo_enum ho λh2 he2 sb=>?_⟩;have ele:e<s.heap.objs.size:=aZ he;have k2:∀b ob,b∉[e,it]->s.heap.get? b=some ob->h2.get? b=some ob:=λb ob hb q=>by
   have n1:b≠e:=λz=>hb (by simp[z]);have n2:b≠it:=λz=>hb (by simp[z]);exact (sb.2 b n1).trans (hk b ob n1 n2 q)
  have hTn:s.heap.objs.size≠e:=Nat.ne_of_gt ele;have hT2:h2.get? s.heap.objs.size=some {cls:=.type "tuple",data:=.seq #[.int i s.toks,u]}:=(sb.2 _ hTn).trans hT;have hn:=I.hok.fresh (aX s.heap.objs.size);have I2:Inv X pins σ (upd H s.heap.objs.size (.tup [.int i,x])) {s with heap:=h2,toks:=s.toks+1}:=I.turnT k2 hf (aX _) ⟨by show 2<=sizeLine;decide,[.int i s.toks,u],.cons ⟨()⟩ (.cons ru .nil),⟨_,hT2,rfl,()⟩⟩
  refine⟨.ref s.heap.objs.size,_,I2,rfl,⟨s.heap.objs.size,rfl,hn,λys hy=>⟨x,by rw[I.list_inj hy hq];exact hx,rfl⟩⟩,⟨⟨_,by simpa using he2⟩,hit1.at λo q=>(sb.2 it (Ne.symm hne)).trans q⟩,λb hb=>?_⟩;have hblt:b<s.heap.objs.size:=by
   rcases a9.mp hb with z | z
   ·rw[z];exact ele
   ·have z:b=it:=by simpa using z
    obtain⟨o,q,_⟩:=hit;rw[z];exact aZ q
  rw[eW (bE hblt)];exact (hf b hb).1
 done:=by
  intro X hP hw hK hc i pins s σ H E I hf st hg;subst hP hw hK;obtain⟨xs,hq,hx⟩:=hg;obtain⟨⟨old,he⟩,hit⟩:=st;obtain⟨its,rv,p,hz⟩:=I.list hq;have hl:=rv.length;refine wpAny_pyNext_enum_end (I.ok.hd hc) he hit p.isList (by simp;omega) λh' hk=>⟨rfl,?_⟩;exact I.turnN (ch:=[e,it]) (t':=s.toks) (λb ob hb q=>hk b ob (λz=>hb (by simp[z])) q) hf
 self:=λ_ _ _ _ _ st h=>by
  obtain⟨⟨old,he⟩,_⟩:=st;exact wpAny_pyIter_enum he h
section
variable{X:Cx}{es:List Expr}{kk:Nat}{tpos:Pos}
def uN(K:FG)(tl:TE):TI:=λσ H R=>tl σ H λx H1=>∃a,x=.ref a/\(∃xs,SqL K H1 a xs)/\R (mR K a) H1
theorem VT:bootBuiltins "enumerate"=some (.type "enumerate"):=by decide +kernel
theorem iE{l:Expr}{tl:TE}{p pos:Pos}(hm:X.mg "enumerate"=none)(hl:E X l tl)(hg:Gl X "enumerate":=by rfl)(hs:starEach [l] X.env=[(false,eval l X.env)]:=by rfl):
  Il X (.Tuple es kk tpos) (.Call (.Name "enumerate" p) [l] [] pos) (uN X.K tl):=by
 refine⟨λpins s σ H R I h=>?_⟩;have hA:PA X [l] (jc tl iP):=kZ hl.h lH hs;refine Call_ (nz I hg hm VT (PyProof.Rows.callWith_type1 (eX (hA pos pins s σ H (λvs H1=>match vs with | [x]=>∃a,x=.ref a/\(∃xs,SqL X.K H1 a xs)/\R (mR X.K a) H1 | _=>False) I ?_) λus s1 ⟨vs,H1,I1,r1,q1⟩=>?_) hs rfl))
 ·exact h
 match vs,q1,r1 with
 |[x],q1,r1=>?_
 obtain⟨a,rfl,⟨xs,hq⟩,q⟩:=q1;obtain⟨u,rfl,rx⟩:=jr r1;cases rx;obtain⟨its,rv,pl,hz⟩:=I1.list hq;refine call_enumerate_list pl.isList λh' he hit hsz hk=>?_;refine wpAny_pyIter_enum he ?_;have I2:Inv X pins σ H1 {s1 with heap:=h'}:=I1.kept (t':=s1.toks) hk;have hne:s1.heap.objs.size+1≠s1.heap.objs.size:=Nat.ne_of_gt (Nat.lt_succ_self _);refine⟨s1.heap.objs.size+1,[s1.heap.objs.size+1,s1.heap.objs.size],_,_,H1,rfl,I2,W7 a _ _ hne,⟨⟨_,he⟩,hit⟩,λb hb=>?_,q⟩
 have hb2:s1.heap.objs.size<=b:=by
  rcases a9.mp hb with z | z
  ·rw[z];exact Nat.le_succ _
  ·have z:b=s1.heap.objs.size:=by simpa using z
   rw[z];exact aX _
 exact I1.fpOk hb2 (I1.hok.fresh hb2)
end
theorem xh{K:FG}{a:Addr}{xs:List V}{g:TG}{tb:TS}{D:ic}{σ:St}{H:Hp}(Pv:Nat->St->Hp->Prop)(h0:Pv 0 σ H)(hl:∀i σ H,i<=xs.length->Pv i σ H->SqL K H a xs)
  (hs:∀i x σ H T,xs[i]? =some x->Pv i σ H->H T=none->g (.ref T) σ (upd H T (.tup [.int i,x])) λσ2 H2=>tb {D with nx:=Pv (i+1),ct:=Pv (i+1),bk:=D.nx} σ2 H2) (hd:∀σ H,Pv xs.length σ H->D.nx σ H):
  ∃W:Nat->Nat->St->Hp->Prop,(∃m,W 0 m σ H)/\∀i m σ H,W i m σ H->
   ((mR K a).stop i H/\D.nx σ H)∨((mR K a).go i H/\∃N:St->Hp->Prop,(∀σ' H',N σ' H'->∃m',m'<m/\W (i+1) m' σ' H')/\∀x H',(mR K a).yld i H x H'->g x σ H' λσ2 H2=>tb {D with nx:=N,ct:=N,bk:=D.nx} σ2 H2):=by
 refine⟨λi m σ H=>m=xs.length-i/\i<=xs.length/\Pv i σ H,⟨xs.length,by simp,bK _,h0⟩,?_⟩;rintro i m σ H ⟨rfl,hi,p⟩;have hq:=hl i σ H hi p;by_cases hlt:i<xs.length
 ·refine .inr ⟨⟨xs,xs[i],hq,by simp[hlt]⟩,Pv (i+1),λσ' H' p'=>⟨xs.length-(i+1),⋯,rfl,hlt,p'⟩,λx H' y=>?_⟩;obtain⟨T,rfl,hT,hy⟩:=y;obtain⟨x,hx,rfl⟩:=hy xs hq;exact hs i x σ H T hx p hT
 ·have e:i=xs.length:=⋯;subst e;exact .inl ⟨⟨xs,hq,rfl⟩,hd σ H p⟩
noncomputable def num(m:Nat):List Nat:=(Nat.toDigits 10 m).map Char.toNat
section
variable{X:Cx}
theorem aQN:io X (.type "int") (λxs H Q=>∃l:List Nat,xs=[.str (Tx l)]/\PySem.NumText.AllDigits l/\l≠[]/\l.length<=640/\Q (.int ((PySem.NumText.digitsVal l:Nat):Int)) H):=by
 refine⟨λpins s σ H xs us Q I r h=>?_⟩;obtain⟨l,rfl,h1,h2,h3,q⟩:=h;obtain⟨u,rfl,t,rfl⟩:=jr r;refine PySem.W.KIN.call_text (PySem.intText_digits (x:=Tx l) (by simpa using h1) (by simpa using h2) (by rw[ja];omega)) (by rw[ja];exact h3) ?_;exact⟨.int _,H,I.tok _,⟨()⟩,by simpa using q⟩
theorem j9:io X (.type "str") (λxs H Q=>∃n:Nat,xs=[.int n]/\n<10^500/\Q (.str (Tx (num n))) H):=by
 refine⟨λpins s σ H xs us Q I r h=>?_⟩;obtain⟨n,rfl,hn,q⟩:=h;refine atF pins s σ H _ us Q I r ⟨(n:Int),rfl,?_,?_⟩
 ·by_cases h0:n=0
  ·subst h0;decide
  ·have:n<2^1900:=bC hn (by decide +kernel);have:=(Nat.log2_lt h0).mpr this;show (n:Int).natAbs.log2<1920;simp only[Int.natAbs_natCast];omega
 ·have e:PySem.Str.ofString (toString (n:Int))=Tx (num n):=by
   rw[←FP (PySem.Str.ofString (toString (n:Int)))];exact congrArg (λz=>Tx z) (PySem.W.KIN.signs_num n)
  show Q (.str (PySem.Str.ofString (toString (n:Int)))) H;rw[e];exact q
end
end L2
namespace L2
open PySem PySem.Spec PyProof.Rows PySem.Builtin PySem.Builtin.Str
theorem kf{b:Bool}{A B:Prop}(e:b=true)(h:A):if b=true then A else B:=by rw[if_pos e];exact h
theorem iQ{b:Bool}{A B:Prop}(e:b=false)(h:B):if b=true then A else B:=by rw[if_neg (by rw[e];exact bF)];exact h
theorem Em{b:Bool}{A B:Prop}(h1:b=true->A)(h2:b=false->B):if b=true then A else B:=by
 cases b
 ·exact iQ rfl (h2 rfl)
 ·exact kf rfl (h1 rfl)
theorem pR(a b:List Nat):decide (V.str (Tx a)=V.str (Tx b))=decide (a=b):=decide_eq_decide.mpr ⟨λh=>Tx_inj.mp (V.str.inj h),λh=>by rw[h]⟩
section
variable{X:Cx}{pos:Pos}
theorem eZ{z:Str}{j}(l:List Nat)(h:z=Tx l:=by decide +kernel):E X (.Constant (.str z) j pos) (tC (.str (Tx l))):=by
 subst h;exact⟨Kb⟩
end
noncomputable def kF(c:Nat):Bool:=decide (48<=c)&&decide (c<=57)
noncomputable def sh:List Nat:=[48,49,50,51,52,53,54,55,56,57]
theorem XE:∀c:Nat,c<58->decide (c∈sh)=kF c:=by decide
theorem R8(c:Nat):decide (c∈sh)=kF c:=by
 rcases Nat.lt_or_ge c 58 with h | h
 ·exact XE c h
 ·have n:∀x∈sh,x<58:=by decide
  unfold kF;rw[dU (λz=>absurd (n c z) (Nat.not_lt.mpr h)),dU (show ¬c<=57 from Nat.not_le.mpr h),Bool.and_false]
noncomputable def k9(l:List Nat):Bool:= !decide (l=[])&&l.all kF
noncomputable def iH(l:List Nat):Bool:=k9 l&&(decide (l=[48])|| !decide (l.headD 0=48))
noncomputable def dv(l:List Nat):Int:=((PySem.NumText.digitsVal l:Nat):Int)
noncomputable def gL(lo hi:Int)(l:List Nat):Option Int:=if iH l=true then (if lo<=dv l/\dv l<=hi then some (dv l) else none) else none
noncomputable def oV:Option Int->V
 |none=>.non
 |some n=>.int n
noncomputable def my(es:List (Option Int)):Option (Int×Int):=match es with
 |[some a]=>some (a,a)
 |[some a,some b]=>if b<a then none else some (a,b)
 |_=>none
noncomputable def iK(lo hi:Int)(l:List Nat):Option (Int×Int):=if l=[42] then some (lo,hi) else my ((eY 45 l).map (gL lo hi))
@[irreducible] noncomputable def ij(a b s:Int):List Int:=(List.range (Builtin.Range.rangeSize a (b+1) s).toNat).map λi:Nat=>a+(i:Int)*s
theorem qk(a b s:Int):ij a b s=(List.range (Builtin.Range.rangeSize a (b+1) s).toNat).map λi:Nat=>a+(i:Int)*s:=by rw[ij]
noncomputable def jt(a b s:Int):Int:=iD (ij a b s)
noncomputable def jZ(lo hi:Int)(r s:List Nat):Option Int:=
 match iK lo hi r,gL 1 99 s with
 |some (a,b),some st=>some (jt a (if iH r=true then hi else b) st)
 |_,_=>none
noncomputable def gJ(lo hi:Int)(l:List Nat):Option Int:=
 match eY 47 l with
 |[r,s]=>jZ lo hi r s
 |_=>match iK lo hi l with
  |some (a,b)=>some (jt a b 1)
  |none=>none
theorem OC{l:List Nat}(h:iH l=true):PySem.NumText.AllDigits l/\l≠[]:=by
 unfold iH k9 at h;rw[bX,bX] at h;refine⟨λc hc=>?_,λe=>?_⟩
 ·have:=cJ.mp h.1.2 c hc;unfold kF at this;rw[bX] at this;exact⟨dP this.1,dP this.2⟩
 ·rw[dQ e] at h;exact absurd h.1.1 (by decide)
theorem rV{a b s:Int}(hs:0<s):Builtin.Range.rangeSize a (b+1) s=if a<=b then (b-a) / s+1 else 0:=by
 unfold Builtin.Range.rangeSize;rw[if_pos hs];by_cases c:a<=b
 ·rw[if_pos c,if_pos ⋯,show b+1-a-1=b-a by omega]
 ·rw[if_neg c,if_neg ⋯]
theorem Bp{a b s z:Int}(hs:0<s):z∈ij a b s↔a<=z/\z<=b/\(z-a)%s=0:=by
 rw[qk,bH,rV hs];refine⟨λ⟨i,hi,e⟩=>?_,λ⟨h1,h2,h3⟩=>?_⟩
 ·subst e;by_cases c:a<=b
  ·rw[if_pos c,cM] at hi;have hq:(i:Int)<=(b-a) / s:=by
    have:0<=(b-a) / s:=cX ⋯ ⋯;omega
   have hm:(i:Int)*s<=(b-a) / s*s:=Int.mul_le_mul_of_nonneg_right hq ⋯;have hd:(b-a) / s*s<=b-a:=Int.ediv_mul_le _ ⋯;have h0:0<=(i:Int)*s:=Int.mul_nonneg ⋯ ⋯;refine⟨⋯,⋯,?_⟩;rw[show a+(i:Int)*s-a=(i:Int)*s by omega];exact Int.mul_emod_left _ _
  ·rw[if_neg c,cM] at hi;exact absurd hi (by simp)
 ·rw[if_pos ⋯];have hd:s*((z-a) / s)+(z-a)%s=z-a:=Int.mul_ediv_add_emod _ _;rw[h3,Int.add_zero] at hd;have h0:0<=(z-a) / s:=cX ⋯ ⋯;have hle:(z-a) / s<=(b-a) / s:=Int.ediv_le_ediv hs ⋯;refine⟨((z-a) / s).toNat,cM.mpr ⋯,?_⟩;rw[b7 h0,Int.mul_comm];omega
theorem JR{a b s:Int}(h0:0<=a)(h1:b<=1000)(hs:0<s):(Builtin.Range.rangeSize a (b+1) s).toNat<=1001/\Builtin.Range.rangeSize a (b+1) s=((Builtin.Range.rangeSize a (b+1) s).toNat:Int):=by
 have hz:=Gv (a:=a) (b:=b+1) hs;refine⟨?_,⋯⟩;rw[rV hs];split
 ·have:(b-a) / s<=b-a:=Int.ediv_le_self _ ⋯;omega
 ·decide
theorem Si{a b s:Int}(h0:0<=a)(ha:a<=1000)(h1: -1<=b)(hb:b<=1000)(hs:0<s)(hs2:s<=1000):Builtin.Range.small a (b+1) s=true:=by
 have hl:=JR h0 hb hs;have hz:=Gv (a:=a) (b:=b+1) hs;unfold Builtin.Range.small;simp only[Builtin.Range.rangeFitsLong,bX,Bool.or_eq_true,dR,beq_iff_eq];refine⟨⟨⟨⟨?_,?_⟩,?_⟩,?_⟩,.inr ?_⟩
 ·exact⟨⋯,⋯⟩
 ·exact⟨⋯,⋯⟩
 ·exact⟨⋯,⋯⟩
 ·exact⟨⋯,⋯⟩
 ·rw[if_pos hs];simp only[bX,dR];exact⟨⋯,⋯⟩
end L2
namespace L2
open PySem PySem.Spec PyProof.Rows PySem.Builtin PySem.Builtin.Str
theorem EL{lo hi a:Int}{l:List Nat}(h:gL lo hi l=some a):lo<=a/\a<=hi:=by
 unfold gL at h;split at h
 ·split at h
  ·rename_i c;have:=bG h;omega
  ·cases h
 ·cases h
theorem GO{lo hi a b:Int}{l:List Nat}(hle:lo<=hi)(h:iK lo hi l=some (a,b)):(lo<=a/\a<=hi)/\lo<=b/\b<=hi:=by
 unfold iK at h;split at h
 ·cases h;omega
 ·have key:∀es:List (Option Int),(∀e∈es,∀x,e=some x->lo<=x/\x<=hi)->my es=some (a,b)->(lo<=a/\a<=hi)/\lo<=b/\b<=hi:=by
   intro es hb h
   match es,hb,h with
   |[some x],hb,h=>
    have h:some (x,x)=some (a,b):=h;cases h;have:=hb _ (by simp) a rfl;exact⟨this,this⟩
   |[some x,some y],hb,h=>
    have h:(if y<x then none else some (x,y))=some (a,b):=h;split at h
    ·cases h
    ·cases h;exact⟨hb (some a) (by simp) a rfl,hb (some b) (by simp) b rfl⟩
   |[],_,h=>cases h
   |[none],_,h=>cases h
   |[none,y],_,h=>cases h
   |[some x,none],_,h=>cases h
   |x::y::u::r,_,h=>cases x<;>cases y<;>cases h
  refine key _ (λe he x hx=>?_) h;obtain⟨w,_,rfl⟩:=bH.mp he;exact EL hx
noncomputable def gM(ms:List Int):Int:=ms.foldl (λa m=>Builtin.bitOr a m) 0
theorem pA(ms:List Int)(m:Int):gM (ms++[m])=Builtin.bitOr (gM ms) m:=by unfold gM;rw[List.foldl_append];rfl
theorem zh:∀(ms:List Int) (a:Int),0<=a->(∀m∈ms,0<=m)->0<=ms.foldl (λa m=>Builtin.bitOr a m) a/\∀i,tb (ms.foldl (λa m=>Builtin.bitOr a m) a) i=(tb a i||ms.any λm=>tb m i)
 |[],a,h,_=>⟨h,λi=>by simp⟩
 |m::ms,a,h,hm=>by
  have hp:=hm m (by simp);obtain⟨h1,h2⟩:=zh ms (Builtin.bitOr a m) (kg h hp) λz hz=>hm z (by simp[hz]);refine⟨h1,λi=>?_⟩;show tb (ms.foldl _ (Builtin.bitOr a m)) i=_;rw[h2 i,lD h hp,cI,Bool.or_assoc]
theorem mi{ms:List Int}(h:∀m∈ms,0<=m):0<=gM ms:=(zh ms 0 (bB 0) h).1
theorem l3{ms:List Int}(h:∀m∈ms,0<=m)(i:Nat):tb (gM ms) i=ms.any λm=>tb m i:=by
 have:=(zh ms 0 (bB 0) h).2 i;rw[i6,Bool.false_or] at this;exact this
noncomputable def lh(lo hi:Int)(l:List Nat):List Int:=(eY 44 l).map λw=>(gJ lo hi w).getD 0
def Kt(lo hi:Int)(l:List Nat):Prop:=(eY 44 l).length<=40/\∀w∈eY 44 l,(gJ lo hi w).isSome=true
theorem lI:∀n:Nat,n<100->iH (num n)=true/\dv (num n)=(n:Int)/\((num n).all λc=>kF c)=true/\(num n).length<=2:=by decide +kernel
theorem jJ{n c:Nat}(h:n<100)(hc:kF c=false):c∉num n:=λhm=>by
 have:=cJ.mp (lI n h).2.2.1 c hm;rw[hc] at this;cases this
theorem RJ{n:Nat}(h:n<100):num n≠[42]:=λe=>by
 have:=jJ h (c:=42) (by decide);rw[e] at this;exact this (by simp)
theorem rg{n:Nat}{lo hi:Int}(h:n<100)(h1:lo<=n)(h2:(n:Int)<=hi):gL lo hi (num n)=some (n:Int):=by
 obtain⟨a,b,_⟩:=lI n h;unfold gL;rw[if_pos a,b,if_pos ⟨h1,h2⟩]
theorem YS{l:List Nat}{c:Nat}(hm:c∈l)(hc:kF c=false):iH l=false:=by
 cases e:iH l
 ·rfl
 ·unfold iH k9 at e;rw[bX,bX] at e;have:=cJ.mp e.1.2 c hm;rw[hc] at this;cases this
theorem JE{n:Nat}{lo hi:Int}(h:n<100)(h1:lo<=n)(h2:(n:Int)<=hi):iK lo hi (num n)=some ((n:Int),(n:Int)):=by
 unfold iK;rw[if_neg (RJ h),nZ 45 _ (jJ h (by decide))];show my [gL lo hi (num n)]=_;rw[rg h h1 h2];rfl
theorem GW{n m:Nat}{lo hi:Int}(h:n<100)(h':m<100)(h1:lo<=n)(h2:n<=m)(h3:(m:Int)<=hi):iK lo hi (num n++45::num m)=some ((n:Int),(m:Int)):=by
 unfold iK;rw[if_neg (λe=>by (have:45∈num n++45::num m:=(by simp));rw[e] at this;simp at this),qa 45 _ _ (jJ h (by decide)),nZ 45 _ (jJ h' (by decide))];show my [gL lo hi (num n),gL lo hi (num m)]=_;rw[rg h h1 ⋯,rg h' ⋯ h3];show (if (m:Int)<n then none else some ((n:Int),(m:Int)))=_;rw[if_neg ⋯]
theorem Hq{lo hi:Int}:iK lo hi [42]=some (lo,hi):=by unfold iK;rw[if_pos rfl]
theorem yA{lo hi a b:Int}{r:List Nat}(hf:47∉r)(h:iK lo hi r=some (a,b)):gJ lo hi r=some (jt a b 1):=by
 unfold gJ;rw[nZ 47 r hf,h]
theorem zB{lo hi a b:Int}{r:List Nat}{s:Nat}(hf:47∉r)(h:iK lo hi r=some (a,b))(hs:s<100)(hs1:1<=s):gJ lo hi (r++47::num s)=some (jt a (if iH r=true then hi else b) s):=by
 unfold gJ;rw[qa 47 r _ hf,nZ 47 _ (jJ hs (by decide))];show jZ lo hi r (num s)=_;unfold jZ;rw[h,rg hs ⋯ ⋯]
end L2
namespace L2
open PySem PySem.Spec PyProof.Rows PySem.Builtin PySem.Builtin.Str
theorem EW:∀{ws:List (List Nat)} {vs:List Value},Vals (ws.map λq=>V.str (Tx q)) vs->StrsAre vs (ws.map Tx)
 |[],[],_=>.nil
 |[],_::_,h=>nomatch h
 |_::_,[],h=>nomatch h
 |w::r,v::vs,.cons h t=>by
  obtain⟨k,rfl⟩:=h;exact .cons (Tx w) k (EW t)
theorem MC(c:Nat)(ws:List (List Nat)):Txt.join (Tx [c]) (ws.map Tx)=Tx (gR c ws):=by
 have e1:Txt.join (Tx [c]) (ws.map Tx)=Str.join (Tx [c]) (ws.map Tx):=StrLaws.glued_eq_join _ _;have e2:=A5 c (ws.map Tx);rw[cG] at e2;have e3:ws.map ((λx:Str=>x.cps.toList) ∘ Tx)=ws:=by
  have:∀l:List (List Nat),l.map ((λx:Str=>x.cps.toList) ∘ Tx)=l:=λl=>by
   induction l with
   |nil=>rfl
   |cons a r ih=>rw[bM,ih];simp
  exact this ws
 rw[e3] at e2;rw[e1,←FP (Str.join (Tx [c]) (ws.map Tx)),e2]
theorem IE(c:Nat):∀ws:List (List Nat),(ws.map (·.length)).sum+ws.length=(gR c ws).length+(if ws=[] then 0 else 1)
 |[]=>rfl
 |[p]=>by simp[gR]
 |p::q::r=>by
  have ih:=IE c (q::r);rw[if_neg (by simp)] at ih ⊢;simp only[bM,List.sum_cons,bQ,gR,a8] at ih ⊢;omega
section
variable{X:Cx}
def HH(K:FG):V->List V->Hp->VK->Prop:=λx vs H Q=>∃(c:Nat) (p:Addr) (ws:List (List Nat)),x=.str (Tx [c])/\vs=[.ref p]/\SqL K H p (ws.map λq=>V.str (Tx q))/\(gR c ws).length<=1000000/\Q (.str (Tx (gR c ws))) H
theorem LD:nB X "str.join" (HH X.K):=by
 intro pins s σ H x xs v us Q I rx rv h;obtain⟨c,p,ws,rfl,rfl,hq,hz,q⟩:=h;obtain⟨u,rfl,r1⟩:=jr rv;cases r1;obtain⟨t,rfl⟩:=rx;obtain⟨its,rv2,pl,hz2⟩:=I.list hq;have hj:=IE c ws;have hw:((ws.map Tx).map (·.length)).sum+(ws.map Tx).length<=1048576:=by
  rw[cG,aY];have e:ws.map ((λx:Str=>x.length) ∘ Tx)=ws.map (·.length):=List.map_congr_left λa _=>ja a;rw[e];split at hj<;>omega
 refine join_listW pl.isList (ys:=ws.map Tx) (by simpa using EW rv2) (by rw[ja];show 1<=16;decide) hw λt' k=>?_;refine⟨.str (Tx (gR c ws)),H,I.kept (t':=k) λ_ _ e=>e,⟨t',by rw[MC]⟩,q⟩
theorem RN{o e:Expr}{to te:TE}{apos cpos:Pos}(ho:E X o to)(he:E X e te)(hbase:attributeBase o "join" X.env (eval o X.env)=eval o X.env:=by rfl)
  (hfew:((backTo cpos (starEach [e] X.env)).all (λx=> !x.1)&&(backToKw cpos (keywordEach [] X.env)).all (λx=>x.1.isSome)&&decide (([e]:List Expr).length+([]:List Keyword).length+(if ([]:List Keyword).isEmpty then 0 else 1)<30))=true:=by rfl)
  (hline:(apos.endLine==cpos.line)=true:=by rfl) (hs:starEach [e] X.env=(false,eval e X.env)::starEach [] X.env:=by rfl) (hplain:(backTo cpos (starEach [] X.env)).any (·.1)=false:=by rfl):
  E X (.Call (.Attribute o "join" apos) [e] [] cpos) (nE X.K "str" (HH X.K) to (jc te iP)):=
 ⟨oZ PySem.F.plainAttrs_str PySem.F.slot_str_join PySem.F.type_str_join LD ho.h (kZ he.h lH hs) hbase hfew hline hs hplain⟩
theorem om:gF X (binaryOp .Add) (λx y H Q=>∃(a b:Addr) (xs ys:List V),x=.ref a/\y=.ref b/\SqL X.K H a xs/\SqL X.K H b ys/\xs.length+ys.length<=sizeLine/\∀p,H p=none->Q (.ref p) (upd H p (.lst (xs++ys)))):=by
 refine⟨λpins s σ H x y v u Q I rx ry h=>?_⟩;obtain⟨a,b,xs,ys,rfl,rfl,ha,hb,hz,q⟩:=h;cases rx;cases ry;obtain⟨i1,r1,p1,z1⟩:=I.list ha;obtain⟨i2,r2,p2,z2⟩:=I.list hb;obtain⟨⟨cls,dd,data,sl⟩,ho,hc,n,hd⟩:=p1.isList;obtain⟨⟨cls2,dd2,data2,sl2⟩,ho2,hc2,n2,hd2⟩:=p2.isList;simp only at hc hd hc2 hd2;subst hc hd hc2 hd2;have l1:=r1.length;have l2:=r2.length;refine concat_meets ⟨_,ho,rfl⟩ ⟨_,ho2,rfl⟩ noFill_list_add seq_list_add PySem.F.slot_list_add PySem.F.entry_list_add (PySem.F.args_list_add_2 _ _) (list_addW a b _ _ n n2 dd dd2 sl sl2 (by simp only[bJ];omega)) ⟨ho,ho2,?_⟩
 refine⟨.ref s.heap.objs.size,upd H s.heap.objs.size (.lst (xs++ys)),I.laid (t':=s.toks) (λb u e=>bD _ e) (aX _) ?_,rfl,q _ (I.hok.fresh (aX _))⟩;exact⟨by rw[a8];exact hz,i1++i2,0,r1.append r2,by simpa using bO _ rfl⟩
end
def qZ(J:It)(k:Nat)(js:List Nat)(g:TG)(σ:St)(tt:TT)(te:TE)(Q:VK)(H1:Hp):Prop:=∀D,H1 D=none->∃W:Nat->Nat->Hp->Prop,(∃m,W 0 m (upd H1 D (.lst [])))/\∀i m H2,W i m H2->
 (J.stop i H2/\Q (.ref D) H2)∨(J.go i H2/\∀v H3,J.yld i H2 v H3->∀τ:St,τ.length=k->g v (τ++gZ js σ) H3 λσ2 H3'=>(∃τ':St,τ'.length=k/\σ2=τ'++gZ js σ)/\tt σ2 H3' λb H4=>if b=true then
  te σ2 H4 λy H5=>∃ys,H5 D=some (.lst ys)/\ys.length<sizeLine/\∃m',m'<m/\W (i+1) m' (upd H5 D (.lst (ys++[y])))
  else ∃m',m'<m/\W (i+1) m' H4)
def tQ(wi:TI)(k:Nat)(js:List Nat)(g:TG)(tt:TT)(te:TE):TE:=λσ H Q=>wi σ H λJ H1=>qZ J k js g σ tt te Q H1
section
variable{X:Cx}{elt iter tg:Expr}{xs:List Str}{y:Str}{py pos spos:Pos}{ifs:List Expr}{scope:Scope}{cl:List (Str×Addr)}{N':List Str}{js:List Nat}{tt:TT}{te:TE}{g:TG}{wi:TI}
theorem avR{pins:List (Addr×Obj)}{σ:St}{H:Hp}{s s4:Shared}{fp:List Addr}{C:Addr}{m4:Str->Option Value}(hcl:jh X scope cl)(hN:js.map (λj=>X.N[j]?)=N'.map some)
  (hk:N'.all (λy=>(X.env.kindOf y==some .cell)||(X.env.kindOf y==some .free))=true) (hf:N'.all (λy=>scope.names.lookup y==some .free)=true)
  (I:Inv X pins σ H s) (hfp:∀b∈fp,jM X pins H b/\b<s.heap.objs.size) (hC:C=s.heap.objs.size) (ho:s4.os=s.os) (hg:s4.gens=s.gens) (hkeep:∀b o,s.heap.get? b=some o->s4.heap.get? b=some o) (hn:s4.heap.Ns C m4):
  Inv (g8 X (xs++N') scope cl C fp pins s H) [] (List.replicate xs.length none++gZ js σ) H s4:=by
 have hne:∀b o,s.heap.get? b=some o->b≠C:=λb o e=>by rw[hC];exact bE (aZ e)
 refine⟨⟨I.ok.mod,hcl.kind,I.ok.glob,I.ok.blt,Nat.le_of_eq hC.symm,λy z c h1 h2=>I.ok.inj y z c (hcl.sub y c h1) (hcl.sub z c h2),λy hy=>hcl.has y (Oj (λz=>hcl.nocell _ (PySem.mem_of_lookup z) rfl) (by rw[←zP];exact hy)),λy c h _=>(nomatch h),I.ok.hd,I.ok.frames,.inl rfl,λb hb=>⟨?_,λy c e=>(hfp b hb).1.2.2.2.2.1 y c (hcl.sub y c e)⟩,
  I.bs,bV I.ok.bsz I.sz,λb o e hb=>?_,λb hb hz=>?_,I.stack,I.stkFree⟩,ho,by rw[hg];exact I.bare,Un.kept hkeep,⟨m4,hn,λi y v h1 h2 h3=>?_⟩,λy c e=>?_,?_,λy c e=>I.freeC y c (hcl.sub y c e),λp hp=>?_,I.hok.kept hkeep,?_⟩
 ·rw[hC];exact bE (hfp b hb).2
 ·rcases (hfp b hb).1.2.2.2.1 with z | z
  ·exact I.ok.noex b o e z
  ·exact absurd (bC (aZ e) (bV I.ok.bsz z)) (cL _)
 ·rcases a9.mp (I.stkSub b hz) with z | z
  ·exact (hfp b hb).1.2.1 z
  ·exact (hfp b hb).1.2.2.1 z
 ·by_cases hi:i<xs.length
  ·rw[List.getElem?_append_left (by rw[c7];exact hi),List.getElem?_replicate,if_pos hi] at h2;exact nomatch h2
  ·obtain⟨j0,rfl⟩:∃j0,i=xs.length+j0:=⟨i-xs.length,⋯⟩;have h1:N'[j0]? =some y:=by
    have h1:(xs++N')[xs.length+j0]? =some y:=h1;rw[List.getElem?_append_right (dB _ _),Nat.add_sub_cancel_left] at h1;exact h1
   have h2:(gZ js σ)[j0]? =some (some v):=by rw[List.getElem?_append_right (by rw[c7];exact dB _ _),c7,Nat.add_sub_cancel_left] at h2;exact h2
   generalize j0=i at h1 h2;have hy:y∈N':=bR h1;have q:(js.map (λj=>X.N[j]?))[i]? =some (some y):=by rw[hN,bI,h1];rfl
   rw[bI] at q;cases ej:js[i]? with
   |none=>rw[ej] at q;cases q
   |some j=>
    rw[ej] at q;have q:X.N[j]? =some y:=bG q;unfold gZ at h2;rw[bI,ej] at h2;have h2:(σ[j]?).getD none=some v:=bG h2;have h2:σ[j]? =some (some v):=by
     cases e:σ[j]? with
     |none=>rw[e] at h2;cases h2
     |some o=>rw[e] at h2;exact congrArg some h2
    have kk:=cJ.mp hk y hy;have kk:X.env.kindOf y=some .cell∨X.env.kindOf y=some .free:=by simpa using kk
    have ff:=cJ.mp hf y hy;have ff:scope.names.lookup y=some .free:=by simpa using ff
    obtain⟨m,_,hl⟩:=I.loc;obtain⟨u,r,l⟩:=hl j y v q h2 (by rcases kk with z | z;exact .inr (.inl z);exact .inr (.inr z))
    refine⟨u,r,.inr ⟨Pg ff,?_⟩⟩;obtain⟨c,hc⟩:=hcl.has y ff;rcases l with ⟨z,_⟩ | ⟨_,c',e',cell⟩
    ·rcases kk with k | k<;>(rw[k] at z;cases z)
    ·rw[hcl.sub y c hc] at e';cases e';exact⟨c,hc,cell.keeps hkeep⟩
 ·obtain⟨v,q⟩:=I.cell y c (hcl.sub y c e);exact⟨v,q.keeps hkeep⟩
 ·show H C=none;rw[hC];exact I.hok.fresh (aX _)
 ·have hp:p∈X.pn++pins:=by
   have hp:p∈(X.pn++pins)++[]:=hp
   rwa [cU] at hp
  obtain⟨e,n,ne,nf,d⟩:=I.pin p hp;refine⟨hkeep _ _ e,n,hne _ _ e,λz=>?_,d⟩;rcases a9.mp (I.stkSub p.1 z) with z | z
  ·exact ne z
  ·exact nf z
 ·show (List.replicate xs.length none++gZ js σ).length=(xs++N').length;rw[a8,a8,c7];have q:=congrArg List.length hN;rw[aY,aY] at q;unfold gZ;rw[aY,q]
theorem RV{pins:List (Addr×Obj)}{σ σ':St}{H H':Hp}{s s':Shared}{fp:List Addr}{C:Addr}(I:Inv X pins σ H s)(hfp:∀b∈fp,jM X pins H b)(J:Inv (g8 X (xs++N') scope cl C fp pins s H) [] σ' H' s'):Inv X pins σ H' s':=
 I.call' (ch:=fp) J.os J.base J.hok J.bare λb hb=>⟨(hfp b hb).2.2.2.1,(hfp b hb).2.1,(hfp b hb).2.2.2.2.1,(hfp b hb).2.2.2.2.2⟩
theorem qo{pins:List (Addr×Obj)}{σ:St}{H:Hp}{s:Shared}{Q:VK}{RR:Value->Addr->Result->Shared->Prop}{J:It}{fp:List Addr}{it:Addr}{tn:Nat->Heap->Prop}
  (hcl:jh X scope cl) (hnd:(xs++N').Nodup) (hN:js.map (λj=>X.N[j]?)=N'.map some)
  (hk:N'.all (λy=>(X.env.kindOf y==some .cell)||(X.env.kindOf y==some .free))=true) (hf:N'.all (λy=>scope.names.lookup y==some .free)=true) (hc:X.calm=true)
  (hg:∀(C:Addr) (ex:List Addr) (pins:List (Addr×Obj)) (s:Shared) (H:Hp),PG (g8 X (xs++N') scope cl C ex pins s H) tg g)
  (ht:∀(C:Addr) (ex:List Addr) (pins:List (Addr×Obj)) (s:Shared) (H:Hp),PF (g8 X (xs++N') scope cl C ex pins s H) ifs tt)
  (he:∀(C:Addr) (ex:List Addr) (pins:List (Addr×Obj)) (s:Shared) (H:Hp),PE (g8 X (xs++N') scope cl C ex pins s H) elt te)
  (I:Inv X pins σ H s) (T:iS X.prog X.w X.K (tg) J fp it tn) (st:tn 0 s.heap) (hfp:∀b∈fp,jM X pins H b)
  (q:∀D,H D=none->∃W:Nat->Nat->Hp->Prop,(∃m,W 0 m (upd H D (.lst [])))/\∀i m H2,W i m H2->
   (J.stop i H2/\Q (.ref D) H2)∨(J.go i H2/\∀v H3,J.yld i H2 v H3->∀τ:St,τ.length=xs.length->g v (τ++gZ js σ) H3 λσ2 H3'=>(∃τ':St,τ'.length=xs.length/\σ2=τ'++gZ js σ)/\tt σ2 H3' λb H4=>if b=true then
    te σ2 H4 λy H5=>∃ys,H5 D=some (.lst ys)/\ys.length<sizeLine/\∃m',m'<m/\W (i+1) m' (upd H5 D (.lst (ys++[y])))
    else ∃m',m'<m/\W (i+1) m' H4))
  (hRR:∀(D C:Addr) (s':Shared) (H':Hp) (m:Str->Option Value),Inv X pins σ H' s'->H' C=none->C≠X.env.locals->X.s₀.heap.objs.size<=C->(∀y c,X.env.cells.lookup y=some c->c≠C)->(∀p∈X.pn++pins,p.1≠C)->s'.heap.Ns C m->Q (.ref D) H'->RR (.ref D) C (.ok .next) s'):
  wpAny (model X.prog X.w) X.A (newList []) (λacc s₃=>wpAny (model X.prog X.w) X.A (newFunctionEnv scope X.env.globals cl [] X.env.qual none .none (some X.env)) (λcenv s₄=>
   codeAny (model X.prog X.w) X.A (.compStart (.ListComp elt [⟨tg,iter,ifs,0⟩] scope pos) 0 (.ref it) acc {cenv with scope:=relabel scope X.env}) (RR acc cenv.locals) s₄) X.xe s₃) X.xe s:=by
 refine wpAny_newObj_type ?_;have hD:H s.heap.objs.size=none:=I.hok.fresh (aX _);have I3:Inv X pins σ (upd H s.heap.objs.size (.lst [])) {s with heap:=s.heap.push {cls:=.type "list",dict:=none,data:=.seq ([]:List Value).toArray} }:=I.lnew (its:=[]) (t':=s.toks) .nil (bK _);have hfp3:∀b∈fp,jM X pins (upd H s.heap.objs.size (.lst [])) b/\b<(s.heap.push {cls:=.type "list",dict:=none,data:=.seq ([]:List Value).toArray}).objs.size:=λb hb=>by
  obtain⟨o,ho,_⟩:=T.obj 0 _ st b hb;have hlt:=aZ ho;obtain⟨f0,f1⟩:=hfp b hb;exact⟨⟨by rw[eW (bE hlt)];exact f0,f1⟩,by rw[Heap.size_push];exact Nat.lt_succ_of_lt hlt⟩
 have st3:tn 0 (s.heap.push {cls:=.type "list",dict:=none,data:=.seq ([]:List Value).toArray}):=T.keep _ _ _ st λb _ o e=>bD _ e;obtain⟨W,⟨m0,w0⟩,turn⟩:=q s.heap.objs.size hD;generalize hs3:({s with heap:=s.heap.push {cls:=.type "list",dict:=none,data:=.seq ([]:List Value).toArray} }:Shared)=s3 at I3 ⊢;have hh3:s.heap.push {cls:=.type "list",dict:=none,data:=.seq ([]:List Value).toArray}=s3.heap:=by rw[←hs3]
 rw[hh3] at hfp3 st3;generalize s.heap.objs.size=D at I3 hfp3 w0 turn hD ⊢;generalize upd H D (.lst [])=H3 at I3 hfp3 w0;refine wpAny_newFunctionEnv hcl.nocell (by intro y hy;simp at hy) (λh₁ hns₁ hsb₁=>?_) hcl.kind;have hkeep:∀b o,s3.heap.get? b=some o->h₁.get? b=some o:=λb o e=>hsb₁.extBut b o (bE (aZ e)) (bD _ e);have J4:Inv (g8 X (xs++N') scope cl s3.heap.objs.size fp pins s3 H3) [] (List.replicate xs.length none++gZ js σ) H3 {s3 with heap:=h₁,toks:=s3.toks+([]:List (Str×Value)).length}:=
  avR hcl hN hk hf I3 hfp3 rfl rfl rfl hkeep hns₁
 have st4:tn 0 h₁:=T.keep _ _ _ st3 λb _ o e=>hkeep b o e;have cell':∀{s':Shared} {σ':St} {H':Hp},Inv (g8 X (xs++N') scope cl s3.heap.objs.size fp pins s3 H3) [] σ' H' s'->Q (.ref D) H'->RR (.ref D) s3.heap.objs.size (.ok .next) s':=λ{s' σ' H'} J hq=>by
  obtain⟨m,hn,_⟩:=J.loc;refine hRR D _ s' H' m (RV I3 (λb hb=>(hfp3 b hb).1) J) J.free (Nat.ne_of_gt I3.lt) I3.sz (λy c e z=>?_) (λp hp z=>?_) hn hq
  ·obtain⟨v,k⟩:=I3.cell y c e;exact absurd k.lt (by rw[z];exact cL _)
  ·exact absurd (aZ (I3.pin p hp).1) (by rw[z];exact cL _)
 have fpX:∀{H':Hp},(∀b∈fp,H' b=none)->∀b∈fp,jM (g8 X (xs++N') scope cl s3.heap.objs.size fp pins s3 H3) [] H' b:=λ{H'} hn b hb=>by
  obtain⟨⟨f0,f1,f2,f3,f4,f5⟩,flt⟩:=hfp3 b hb;refine⟨hn b hb,bE flt,λz=>?_,.inl hb,λy c e=>f4 y c (hcl.sub y c e),λp hp=>?_⟩
  ·rcases a9.mp (I3.stkSub b z) with z | z
   ·exact f1 z
   ·exact f2 z
  ·have hp:p∈(X.pn++pins)++[]:=hp;rw[cU] at hp;exact f5 p hp
 have loop:∀s₄:Shared,s₄={s3 with heap:=h₁,toks:=s3.toks+([]:List (Str×Value)).length}->
   codeAny (model X.prog X.w) X.A (.compLoop (.ListComp elt [⟨tg,iter,ifs,0⟩] scope pos) 0 (.ref it) (.ref D) (compEnvC scope cl s3.heap.objs.size X.env)) (RR (.ref D) s3.heap.objs.size) s₄:=by
  rintro s₄ rfl;refine Qv rfl (λn s'=>∃i τ H',τ.length=xs.length/\Inv (g8 X (xs++N') scope cl s3.heap.objs.size fp pins s3 H3) [] (τ++gZ js σ) H' s'/\tn i s'.heap/\(∀b∈fp,H' b=none)/\W i n H') ?_ m0 ⟨0,List.replicate xs.length none,H3,c7,J4,st4,λb hb=>(hfp3 b hb).1.1,w0⟩;rintro n s5 ⟨i,τ,H5,hτ,J5,st5,fr5,w5⟩;rcases turn i n H5 w5 with ⟨stop,qn⟩ | ⟨go,step⟩
  ·refine dM (T.done (g8 X (xs++N') scope cl s3.heap.objs.size fp pins s3 H3) rfl rfl rfl hc i [] s5 _ H5 (λ_ _=>False) J5 (fpX fr5) st5 stop) (λr s6 ⟨hr,J6⟩=>?_) λ_ _ z=>z.elim;subst hr;exact cell' J6 qn
  ·refine dM (T.item (g8 X (xs++N') scope cl s3.heap.objs.size fp pins s3 H3) rfl rfl rfl hc i [] s5 _ H5 (λ_ _=>False) J5 (fpX fr5) st5 go) (λr s6 ⟨u,hr,h6⟩=>?_) λ_ _ z=>z.elim;subst hr;refine dM h6 (λ_ s6' h6'=>?_) λ_ _ z=>z.elim;obtain⟨v,H6,J6,r6,y6,st6,fr6⟩:=h6';clear h6;have J6':=J6.pinned (fpX fr6) (T.obj _ _ st6);show wpAny _ _ (assign tg _ u) _ _ _;refine dM (hg _ _ _ _ _ _ s6' _ H6 v u _ J6' r6 (step v H6 y6 τ hτ)) (λ_ s7 h7=>?_) λ_ _ z=>z.elim
   obtain⟨_,H7,J7,⟨τ',hτ',rfl⟩,q7⟩:=h7;have again:∀{σ8:St} {H8:Hp} {s8:Shared},Inv (g8 X (xs++N') scope cl s3.heap.objs.size fp pins s3 H3) ([]++pG fp s6'.heap) σ8 H8 s8->tn (i+1) s8.heap/\∀b∈fp,H8 b=none:=λ{σ8 H8 s8} J8=>by
    refine⟨T.keep _ _ _ st6 λb hb o e=>(J8.pin (b,o) (cH _ (cH _ (rK hb e)))).1,λb hb=>?_⟩;obtain⟨o,e,d⟩:=T.obj _ _ st6 b hb;exact (J8.pin (b,o) (cH _ (cH _ (rK hb e)))).2.1
   refine dM (ht _ _ _ _ _ _ s7 _ H7 _ J7 q7) (λok s8 ⟨H8,J8,q8⟩=>?_) λ_ _ z=>z.elim;cases ok with
   |false=>
    obtain⟨m',hm,w8⟩:=(show ∃m',m'<n/\W (i+1) m' H8 from q8);obtain⟨a1,a2⟩:=again J8;exact⟨m',hm,i+1,τ',H8,hτ',J8.unpinned,a1,a2,w8⟩
   |true=>
    refine dM (he _ _ _ _ _ _ s8 _ H8 _ J8 q8) (λy s9 ⟨z,H9,J9,r9,ys,hys,hlen,m',hm,w9⟩=>?_) λ_ _ z=>z.elim;refine dM (JH (X:=g8 X (xs++N') scope cl s3.heap.objs.size fp pins s3 H3) _ s9 _ H9 (.ref D) [z] (.ref D) [y] (λ_ H10=>H10=upd H9 D (.lst (ys++[z]))) J9 rfl (.cons r9 .nil) ⟨D,ys,z,rfl,rfl,hys,hlen,rfl⟩) (λ_ s10 ⟨_,H10,J10,_,e10⟩=>?_) λ_ _ z=>z.elim;subst e10;obtain⟨a1,a2⟩:=again J10;exact⟨m',hm,i+1,τ',_,hτ',J10.unpinned,a1,a2,w9⟩
 exact codeAny_compStart_list (loop _ rfl) (T.self _ 0 _ _ _ st4 (loop _ rfl))
theorem SK(hcl:jh X scope cl)(hnd:(xs++N').Nodup)(hN:js.map (λj=>X.N[j]?)=N'.map some)
  (hk:N'.all (λy=>(X.env.kindOf y==some .cell)||(X.env.kindOf y==some .free))=true) (hf:N'.all (λy=>scope.names.lookup y==some .free)=true) (hc:X.calm=true)
  (hi:PI X (tg) iter wi)
  (hg:∀(C:Addr) (ex:List Addr) (pins:List (Addr×Obj)) (s:Shared) (H:Hp),PG (g8 X (xs++N') scope cl C ex pins s H) tg g)
  (ht:∀(C:Addr) (ex:List Addr) (pins:List (Addr×Obj)) (s:Shared) (H:Hp),PF (g8 X (xs++N') scope cl C ex pins s H) ifs tt)
  (he:∀(C:Addr) (ex:List Addr) (pins:List (Addr×Obj)) (s:Shared) (H:Hp),PE (g8 X (xs++N') scope cl C ex pins s H) elt te)
  (hs:∀x,foldedSetIterable iter X.env x=pure x:=by intro _;rfl):
  PE X (.ListComp elt [⟨tg,iter,ifs,0⟩] scope pos) (tQ wi xs.length js g tt te):=by
 intro pins s σ H Q I h;rw[eval_ListComp];refine dI (use:=none) rfl hs hcl.is hcl.kind hcl.names (eX (hi pins s σ H _ I h) λxv s₁ h₁=>eX h₁ λitv s₂ h₂=>?_);obtain⟨it,fp,tn,J,H2,rfl,I2,T,st,hfp,q⟩:=h₂;refine qo (RR:=λacc C=>compPost (model X.prog X.w) X.A X.xe none (EP X pins σ Q) acc C) hcl hnd hN hk hf hc hg ht he I2 T st hfp q ?_;intro D C s' H' m I' hC0 hCL hCs hCc hCp hn hq;refine⟨m,hn,λh' sb=>⟨.ref D,H',?_,rfl,hq⟩⟩
 exact I'.turned (t':=s'.toks) (λb o hb e=>(sb.2 b hb).trans e) hC0 hCL (.inr hCs) hCc hCp
theorem G8(xs N':List Str)(js:List Nat)(hi:Il X (tg) iter wi)
  (hg:∀(cl:List (Str×Addr)) (C:Addr) (ex:List Addr) (pins:List (Addr×Obj)) (s:Shared) (H:Hp),Gt (g8 X (xs++N') scope cl C ex pins s H) tg g)
  (ht:∀(cl:List (Str×Addr)) (C:Addr) (ex:List Addr) (pins:List (Addr×Obj)) (s:Shared) (H:Hp),Fs (g8 X (xs++N') scope cl C ex pins s H) ifs tt)
  (he:∀(cl:List (Str×Addr)) (C:Addr) (ex:List Addr) (pins:List (Addr×Obj)) (s:Shared) (H:Hp),E (g8 X (xs++N') scope cl C ex pins s H) elt te)
  (hcl:∃cl,jh X scope cl:=by exact qD rfl rfl rfl rfl) (hnd:(xs++N').Nodup:=by decide +kernel) (hN:js.map (λj=>X.N[j]?)=N'.map some:=by rfl)
  (hk:N'.all (λy=>(X.env.kindOf y==some .cell)||(X.env.kindOf y==some .free))=true:=by rfl) (hf:N'.all (λy=>scope.names.lookup y==some .free)=true:=by rfl) (hc:X.calm=true:=by rfl)
  (hs:∀x,foldedSetIterable iter X.env x=pure x:=by intro _;rfl):E X (.ListComp elt [⟨tg,iter,ifs,0⟩] scope pos) (tQ wi xs.length js g tt te):=by
 obtain⟨cl,hcl⟩:=hcl;exact⟨SK hcl hnd hN hk hf hc hi.h (λC ex pins s H=>(hg cl C ex pins s H).h) (λC ex pins s H=>(ht cl C ex pins s H).h) (λC ex pins s H=>(he cl C ex pins s H).h) hs⟩
theorem Gh(i:Nat)(xs N':List Str)(js:List Nat)(hi:Il X (tg) iter wi)
  (hg:∀(cl:List (Str×Addr)) (C:Addr) (ex:List Addr) (pins:List (Addr×Obj)) (s:Shared) (H:Hp),Gt (g8 X (xs++N') scope cl C ex pins s H) tg g)
  (ht:∀(cl:List (Str×Addr)) (C:Addr) (ex:List Addr) (pins:List (Addr×Obj)) (s:Shared) (H:Hp),Fs (g8 X (xs++N') scope cl C ex pins s H) ifs tt)
  (he:∀(cl:List (Str×Addr)) (C:Addr) (ex:List Addr) (pins:List (Addr×Obj)) (s:Shared) (H:Hp),E (g8 X (xs++N') scope cl C ex pins s H) elt te)
  (hXN:X.N.Nodup) (hsw:swapsWith (.ListComp elt [⟨tg,iter,ifs,0⟩] scope pos) (some (.Name y py)) spos.line X.env=pure true:=by rfl)
  (hiN:X.N[i]? =some y:=by rfl) (hy:X.env.scope.names.lookup y=some .local:=by rfl)
  (hcl:∃cl,jh X scope cl:=by exact qD rfl rfl rfl rfl) (hnd:(xs++N').Nodup:=by decide +kernel) (hN:js.map (λj=>X.N[j]?)=N'.map some:=by rfl)
  (hk:N'.all (λy=>(X.env.kindOf y==some .cell)||(X.env.kindOf y==some .free))=true:=by rfl) (hf:N'.all (λy=>scope.names.lookup y==some .free)=true:=by rfl) (hc:X.calm=true:=by rfl)
  (hs:∀x,foldedSetIterable iter X.env x=pure x:=by intro _;rfl):S X (.Assign [.Name y py] (.ListComp elt [⟨tg,iter,ifs,0⟩] scope pos) spos) (mN (tQ wi xs.length js g tt te) (iV i)):=by
 obtain⟨cl,hcl⟩:=hcl;refine⟨λpins s σ H D I h=>?_⟩;rw[exec_Assign_Name_used _ _ _ _ hsw];refine dJ (wpAny_standAt (dJ ?_));show wpAny _ X.A (do let _ ←comprehension (.ListComp elt [⟨tg,iter,ifs,0⟩] scope pos) scope X.env _ (newList []) false (eval iter X.env) (some (assign (.Name y py) X.env))) _ _ s
 refine dJ (dM (dI (use:=some (assign (.Name y py) X.env)) (Q:=λ_ s'=>SP X pins D .next s') rfl hs hcl.is hcl.kind hcl.names ?_) (λ_ s' hq=>dX (dX hq)) λ_ _ z=>z);refine eX (hi.h pins s σ H _ I h) λxv s₁ h₁=>eX h₁ λitv s₂ h₂=>?_;obtain⟨it,fp,tn,J,H2,rfl,I2,T,st,hfp,q⟩:=h₂;refine qo (Q:=λv H'=>D.nx (σ.set i (some v)) H') (RR:=λacc C=>compPost (model X.prog X.w) X.A X.xe (some (assign (.Name y py) X.env)) (λ_ s'=>SP X pins D .next s') acc C) hcl hnd hN hk hf hc (λC ex pins s H=>(hg cl C ex pins s H).h) (λC ex pins s H=>(ht cl C ex pins s H).h) (λC ex pins s H=>(he cl C ex pins s H).h) I2 T st hfp q ?_
 intro D' C s' H' m I' hC0 hCL hCs hCc hCp hn hq;show wpAny _ _ (assign (.Name y py) X.env (.ref D')) _ _ s';refine wpAny_assign_Name (tO I' hXN hiN (.inl hy) (v:=.ref D') rfl (λs3 I3 sb3=>?_) (.inr hy));obtain⟨a3,sb3,e3⟩:=sb3;have hCa:C≠a3:=by
  rcases e3 with e3 | e3
  ·rw[e3];exact hCL
  ·exact λz=>hCc y a3 e3 z.symm
 refine⟨m,hn.sameBut sb3 hCa,λh' sb=>⟨σ.set i (some (.ref D')),H',?_,hq⟩⟩;exact I3.turned (t':=s3.toks) (λb o hb e=>(sb.2 b hb).trans e) hC0 hCL (.inr hCs) hCc hCp
end
theorem mD{X:Cx}{pos:Pos}{K:FG}{es:List Expr}{k n:Nat}{t:j3}(h:p8 X es t)(hK:X.K=K:=by rfl)(hc:X.calm=true:=by rfl)(hn:(assignEach es X.env).length=n:=by rfl)(hst:(assignEach es X.env).findIdx? (·.1)=none:=by rfl):Gt X (.Tuple es k pos) (oC K n t):=by
 subst hK;exact w6 h hc hn hst
end L2
namespace L2
open PySem PySem.Spec PyProof.Rows PySem.SeqAt
section
variable{X:Cx}
theorem kN{K:FG}{tg e:Expr}{te:TE}(hl:E X e te)(hK:X.K=K:=by rfl):Il X tg e (Ai K te):=by
 subst hK;exact iL hl
end
theorem ObjOk.at{P:Program}{w:World}{H:Hp}{h:Heap}{a:Addr}{o:HO}(x:ObjOk P w H h a o):∃ob,h.get? a=some ob:=by
 induction o with
 |lst xs=>obtain⟨_,_,_,_,e⟩:=x;exact⟨_,e⟩
 |tup xs=>obtain⟨_,_,_,ob,e,_⟩:=x;exact⟨_,e⟩
 |dK kvs=>obtain⟨_,_,_,_,ob,_,_,e,_⟩:=x;exact⟨_,e⟩
 |dT kvs=>obtain⟨_,_,_,_,ob,_,_,e,_⟩:=x;exact⟨_,e⟩
 |set S n=>obtain⟨ob,_,_,_,e,_⟩:=x;exact⟨_,e⟩
 |ins C dx fs=>obtain⟨_,_,_,e,_⟩:=x;exact⟨_,e⟩
 |own y=>exact x
 |xd fs=>obtain⟨_,⟨ob,_,_,e,_⟩,_⟩:=x;exact⟨_,e⟩
 |rng lo hi=>obtain⟨_,_,_,e⟩:=x;exact⟨_,e⟩
 |frz ob u ih=>exact⟨_,x.1⟩
 |tbl ps=>exact⟨_,x⟩
 |met f y=>exact⟨_,x⟩
 |ext φ=>exact x.2.1
def Ex(C:Addr)(d:Option Addr)(b:Bool)(o:Obj):Prop:=o.cls=.ref C/\o.dict=d/\∃vs,o.data=.fields vs/\(b=true->vs[2]? =some .none)
noncomputable def wc(C:Addr):Value:=.int C 0
noncomputable def cv(C:Addr):Bool->Value
 |true=>.ref C
 |false=>wc C
def Vy(g h:Heap)(H:Hp)(a C:Addr)(d:Option Addr)(b:Bool):Prop:=
 H a=none/\g.get? a=none/\∃(o:Obj) (vs:Array Value) (T:Addr) (oT:Obj) (ts:Array Value),(h.get? a=some o/\o.data=.fields vs/\vs[1]? =some (.ref T)/\Ex C d b o)/\
  (h.get? T=some oT/\oT.data=.fields ts/\ts[3]? =some .none)/\(H T=none/\g.get? T=none)/\T≠a
def CX1(P:Program)(w:World):lC:=λouter H s E e s'=>
 ∃a C d b H',e=.ref a/\s'.os=s.os/\AllBare s'.gens/\Un (jW outer) [] H H' s.heap s'.heap/\HOk P w H' s'.heap/\Vy s.heap s'.heap H' a C d b/\E (cv C b) d H'
noncomputable abbrev IY:List Value:=[.type "ValueError",.type "Exception",.type "BaseException",.type "object"]
structure Xc(K:FG)(mg:Str->Option Value)(x:Str)(C:Addr):Prop where
 m:mg x=some (.ref C)
 n:PySem.W.nsIn K mainGlobals x=some (some (.ref C))
 q:PySem.W.excIn K C IY "ValueError.__new__"=true
theorem Mod.top{K:FG}{mg:Str->Option Value}{base:Heap}(m:Mod K mg base)(p:Program):∃loose mb,PySem.W.TopRead p loose mg mb base:=by
 obtain⟨mb,b1,b2⟩:=m.blt;obtain⟨o,es,ep,ho,hd,hk,hf⟩:=id m.glob;refine⟨es.toList.filterMap λe=>match e.key with | .str y _=>some y | _=>none,mb,m.glob,b1,m.nolimit,b2,λx _ hx _ _ _=>?_⟩
 rw[←hf];have none_:es.find? (λe=>e.key.isStr x)=none:=by
  rw[Array.find?_eq_none];intro e he hs;obtain⟨y,t,ek⟩:=hk e he;refine hx (List.mem_filterMap.mpr ⟨e,by simpa using he,?_⟩);rw[ek] at hs ⊢;have:y=x:=by simpa [Value.isStr] using hs
  rw[this]
 show (es.find? λe=>e.key.isStr x).map (·.val)=none;rw[none_];rfl
theorem Xc.own{K:FG}{mg:Str->Option Value}{base:Heap}{x:Str}{C:Addr}(c:Xc K mg x C)(m:Mod K mg base)(p:Program):OwnCls x C IY "ValueError.__new__" mg base:=by
 obtain⟨loose,mb,T⟩:=m.top p;exact PySem.W.own_of_in m.kin T c.n c.q
def XP(X:Cx)(pins:List (Addr×Obj))(σ:St)(E:XK)(e:Value)(s':Shared):Prop:=∃s1 H1,Inv X pins σ H1 s1/\CX1 X.prog X.w X.stack H1 s1 E e s'
noncomputable abbrev TX:=St->Hp->VK->XK->Prop
noncomputable abbrev TB:=ic->St->Hp->XK->Prop
noncomputable def xo(a C:Addr)(d:Option Addr)(b:Bool):HO:=.ext λh=>∃o,h.get? a=some o/\Ex C d b o
def AtC(a C:Addr)(h:Heap):Prop:=∃o vs,h.get? a=some o/\o.cls=.ref C/\o.data=.fields vs
theorem AtC.ty{M:Model}{a C:Addr}{h:Heap}(x:AtC a C h):PySem.W.Looks M h (typeOf (.ref a)) (.ref C):=by
 obtain⟨o,vs,h1,h2,_⟩:=x;exact h2▸(PySem.W.Looks.ld h1).andThen .now
def tDi:TE:=λ_ H Q=>∀p,H p=none->Q (.ref p) (upd H p (.dK []))
section
variable{X:Cx}{pos:Pos}{o i:Expr}{to ti:TE}
theorem Inv.bigM{pins:List (Addr×Obj)}{σ:St}{H:Hp}{s:Shared}(I:Inv X pins σ H s):sysModules<s.heap.objs.size:=by
 have h:mainGlobals<s.heap.objs.size:=(I.mod.glob.keeps I.bk).lt;exact Nat.lt_trans (by decide) h
theorem Tc:E X (.Dict [] [] pos) tDi:=⟨λpins s σ H Q I h=>wpAny_Dict_empty ⟨.ref s.heap.objs.size,_,I.laid (a:=s.heap.objs.size) (o:=.dK []) (t':=s.toks) (λ_ _ q=>bD _ q) (aX _)
 ⟨bK _,beq_eq_false_iff_ne.mpr (Ne.symm (bE I.bigM)),[],.nil,Heap.DictOf.new s.heap⟩,rfl,h _ (I.hok.fresh (aX _))⟩⟩
theorem wA(ho:E X o to)(hi:E X i ti)(ha:∀v,assign (.Subscript o i pos) X.env v=(do
   let ov ←holding [v] (eval o X.env)
   let iv ←holding [v,ov] (eval i X.env)
   standAt pos
   holding [v,ov,iv] (setItem ov iv v)
   release [v,ov,iv] []):=by intro _;rfl):Gt X (.Subscript o i pos) (G2 to ti Jm):=⟨aJ4 ho.h hi.h aD6 ha⟩
end
theorem KindV.same{K:FG}{H H':Hp}{v:V}{k:Kd}(h:KindV K H v k)(s:Same H H'):KindV K H' v k:=by
 cases v with
 |ref a=>
  rcases h with ⟨e,xs,h⟩ | ⟨e,xs,h⟩ | ⟨e,xs,h⟩
  ·exact .inl ⟨e,xs,s.seq h⟩
  ·refine .inr (.inl ⟨e,xs,?_⟩);rcases h with (h | ⟨o,h⟩) | h
   ·exact .inl (.inl (s _ _ h))
   ·exact .inl (.inr ⟨o,s _ _ h⟩)
   ·exact .inr h
  ·exact .inr (.inr ⟨e,xs,s _ _ h⟩)
 |int i=>exact h
 |bl b=>exact h
 |str x=>exact h
 |non=>exact h
 |byt b=>exact h
 |flt b=>exact h
 |ty n=>exact h
noncomputable def jA(l:List Nat)(lo hi:Option Int):List Nat:=(l.drop (HT.sIx l.length 0 lo)).take (HT.sIx l.length l.length hi-HT.sIx l.length 0 lo)
theorem FW(v:Option Int)(n d:Nat):(match v with | none=>(d:Int) | some i=>max 0 (min (if i<0 then i+(n:Int) else i) (n:Int)))=((HT.sIx n d v:Nat):Int):=by
 cases v with
 |none=>rfl
 |some i=>
  show max 0 (min (if i<0 then i+(n:Int) else i) (n:Int))=(((if i<0 then (i+(n:Int)).toNat else min i.toNat n):Nat):Int);by_cases h:i<0
  ·rw[if_pos h,if_pos h];omega
  ·rw[if_neg h,if_neg h];omega
theorem Hn(lo hi:Option Int)(n:Nat):Builtin.Str.strSliceIndices lo hi 1 n=sliceRange ((HT.sIx n 0 lo:Nat):Int) ((HT.sIx n n hi:Nat):Int) 1:=by
 unfold Builtin.Str.strSliceIndices;simp only[show ((1:Int)>0)=True from by simp,if_true];rw[←FW lo n 0,←FW hi n n];cases lo<;>cases hi<;>rfl
theorem Ij(a b:Nat):sliceRange (a:Int) (b:Int) 1=(List.range (b-a)).map λk=>a+k:=by
 rcases Nat.lt_or_ge a b with c | c
 ·have up:(a:Int)<b:=⋯;have many:(((b:Int)-a+1-1) / 1).toNat=b-a:=by rw[Int.ediv_one];omega
  have e:∀k:Nat,((a:Int)+1*(k:Int)).toNat=a+k:=λk=>by omega
  simp only[sliceRange,gt_iff_lt,Int.one_pos,if_true,up,many,e]
 ·have no:¬((a:Int)<b):=⋯;have z:b-a=0:=⋯;simp only[sliceRange,gt_iff_lt,Int.one_pos,if_true,no,if_false,z,List.range_zero,List.map_nil];rfl
theorem OS(l:List Nat)(n a:Nat):((List.range n).map λk=>a+k).filterMap (λi=>(Tx l).cps[i]?)=(l.drop a).take n:=by
 rw[List.filterMap_map];induction n with
 |zero=>rw[List.take_zero];rfl
 |succ n ih=>
  have one:[n].filterMap ((λi=>(Tx l).cps[i]?) ∘ λk=>a+k)=(l[a+n]?).toList:=by
   show List.filterMap _ [n]=_;cases e:l[a+n]? <;>simp[e]
  rw[cC,dG,ih,one,List.take_add_one,List.getElem?_drop]
theorem Z6(l:List Nat)(lo hi:Option Int):(Builtin.Str.strSliceIndices lo hi 1 l.length).filterMap (λi=>(Tx l).cps[i]?)=jA l lo hi:=by
 rw[Hn,Ij,OS];rfl
theorem Rn(l:List Nat)(lo hi:Option Int)(h:(Builtin.Str.strSliceIndices lo hi 1 l.length).length=l.length):jA l lo hi=l:=by
 rw[Hn,Ij,aY,List.length_range] at h;have h1:=HT.sIx_le l.length l.length (aX _) hi;have e1:HT.sIx l.length 0 lo=0∨l.length=0:=⋯;unfold jA;rcases e1 with e | e
 ·rw[e];have:HT.sIx l.length l.length hi=l.length:=⋯;rw[this];simp
 ·have:l=[]:=List.eq_nil_of_length_eq_zero e;subst this;simp
theorem qM(l:List Nat)(lo hi:Option Int):(jA l lo hi).length<=l.length:=by
 unfold jA;rw[cF,cN];omega
section
variable{X:Cx}
def uP:V->Option Int->Option Int->Hp->VK->Prop:=λx lo hi H Q=>∃l:List Nat,x=.str (Tx l)/\l.length<=sizeLine/\Q (.str (Tx (jA l lo hi))) H
theorem yy:so X uP:=by
 refine⟨λpins s σ H x v vl vu lo hi sl Q I rx hs pl pu h=>?_⟩;obtain⟨l,rfl,hz,q⟩:=h;obtain⟨t,rfl⟩:=rx;refine⟨"str",_,PySem.F.slot_str_getitem.lookup,typeIs_str _ _ _,?_⟩;obtain⟨o,ho,hc,hd⟩:=hs;have fE:∀(a b:Option (Int×Tok)),o.data=.fields #[partValue a,partValue b,.none]->a.map (·.1)=lo->b.map (·.1)=hi->wpAny (model X.prog X.w) X.A (getItem (.str (Tx l) t) (.ref sl)) (EP X pins σ Q) X.xe s:=λa b hd ea eb=>by
  refine wpAny_getItem_str_slice (l:=a) (u:=b) (st:=none) ⟨o,ho,hc,hd⟩ rfl ?_;have ep:slicePicked (Tx l) a b none=Builtin.Str.strSliceIndices lo hi 1 l.length:=by unfold slicePicked;rw[ea,eb,ja];rfl
  unfold sliceMade;rw[ep];split
  ·next hw=>
   have hw2:(Builtin.Str.strSliceIndices lo hi 1 l.length).length=l.length:=by
    have:=(Bool.and_eq_true_iff.mp hw).2;rw[ja] at this;exact beq_iff_eq.mp this
   show EP X pins σ Q _ s;rw[Rn l lo hi hw2] at q;exact⟨.str (Tx l),H,I,⟨t,rfl⟩,q⟩
  ·rw[Z6];exact⟨by rw[ja];exact bV (qM l lo hi) hz,⟨.str (Tx (jA l lo hi)),H,I.tok _,⟨()⟩,q⟩⟩
 cases pl with
 |none=>
  cases pu with
  |none=>exact fE none none hd rfl rfl
  |int j tj=>exact fE none (some (j,tj)) hd rfl rfl
 |int i ti=>
  cases pu with
  |none=>exact fE (some (i,ti)) none hd rfl rfl
  |int j tj=>exact fE (some (i,ti)) (some (j,tj)) hd rfl rfl
theorem oN(m:Nat):num m≠[]:=λe=>Nat.toDigits_ne_nil (List.map_eq_nil_iff.mp e)
end
theorem kR{X:Cx}{e:Expr}{t u:TE}(h:E X e t)(h':E X e u):E X e (λσ H Q=>t σ H Q∨u σ H Q):=
 ⟨λpins s σ H Q I z=>z.elim (λz=>h.h pins s σ H Q I z) λz=>h'.h pins s σ H Q I z⟩
section
variable{κ:Type}[DecidableEq κ]
noncomputable def hX(kvs:List (κ×V))(k:κ):Option V:=(kvs.find? λkv=>decide (kv.1=k)).map (·.2)
noncomputable def iW(kvs:List (κ×V))(k:κ)(v:V):List (κ×V):=
 if (kvs.any λkv=>decide (kv.1=k))=true then kvs.map (λkv=>if kv.1=k then (kv.1,v) else kv) else kvs++[(k,v)]
theorem kI{p:κ×V}{r:List (κ×V)}{k:κ}(e:p.1=k):hX (p::r) k=some p.2:=by simp[hX,dC,e]
theorem kC{p:κ×V}{r:List (κ×V)}{k:κ}(e:¬p.1=k):hX (p::r) k=hX r k:=by simp[hX,dC,e]
theorem qm(k:κ):∀kvs:List (κ×V),(kvs.any λkv=>decide (kv.1=k))=(hX kvs k).isSome
 |[]=>rfl
 |p::r=>by
  rw[cI];by_cases e:p.1=k
  ·simp only[kI e,dQ e,Bool.true_or,Option.isSome_some]
  ·rw[kC e,dU e,Bool.false_or];exact qm k r
theorem Gq(k j:κ)(y:V):∀kvs:List (κ×V),hX (kvs.map λkv=>if kv.1=k then (kv.1,y) else kv) j=(hX kvs j).map λx=>if j=k then y else x
 |[]=>rfl
 |p::r=>by
  have ih:=Gq k j y r;rw[bM];by_cases h:p.1=k
  ·rw[if_pos h];by_cases e:p.1=j
   ·rw[kI (p:=(p.1,y)) e,kI e,dA,if_pos (e.symm.trans h)]
   ·rw[kC (p:=(p.1,y)) e,kC e,ih]
  ·rw[if_neg h];by_cases e:p.1=j
   ·rw[kI (p:=p) e,kI e,dA,if_neg (λz=>h (e.trans z))]
   ·rw[kC (p:=p) e,kC e,ih]
theorem K1(k j:κ)(y:V):∀kvs:List (κ×V),hX kvs k=none->hX (kvs++[(k,y)]) j=if j=k then some y else hX kvs j
 |[],_=>by
  by_cases e:k=j
  ·rw[if_pos e.symm];exact kI (p:=(k,y)) e
  ·rw[if_neg (λz=>e z.symm)];exact kC (p:=(k,y)) e
 |p::r,hn=>by
  rw[List.cons_append];have hk:¬p.1=k:=λz=>by rw[kI z] at hn;cases hn
  rw[kC hk] at hn;have ih:=K1 k j y r hn;by_cases e:p.1=j
  ·rw[kI e,kI e,if_neg (λz=>hk (e.trans z))]
  ·rw[kC e,kC e,ih]
theorem Iv(kvs:List (κ×V))(k j:κ)(y:V):hX (iW kvs k y) j=if j=k then some y else hX kvs j:=by
 unfold iW;by_cases a:(kvs.any λkv=>decide (kv.1=k))=true
 ·rw[if_pos a,Gq];rw[qm] at a;by_cases e:j=k
  ·obtain⟨x,hx⟩:=c6.mp a;rw[if_pos e,e,hx,dA,if_pos rfl]
  ·rw[if_neg e];cases hX kvs j with
   |none=>rfl
   |some x=>rw[dA,if_neg e]
 ·rw[if_neg a];refine K1 k j y kvs ?_;rw[qm] at a;cases q:hX kvs k with
  |none=>rfl
  |some x=>rw[q] at a;exact (a rfl).elim
theorem rh(kvs:List (κ×V))(k:κ)(v:V):(iW kvs k v).length<=kvs.length+1:=by
 unfold iW;split
 ·rw[aY];omega
 ·rw[a8,bQ,List.length_nil];omega
theorem RelO.isSome_eq{o:Option V}{u:Option Value}(r:RelO o u):o.isSome=u.isSome:=by
 cases o with
 |none=>cases u with
  |none=>rfl
  |some _=>exact (show False from r).elim
 |some _=>cases u with
  |none=>exact (show False from r).elim
  |some _=>rfl
theorem KV.val{kvs:List (κ×V)}{vs:List (κ×Value)}(r:KV kvs vs)(k:κ):RelO (hX kvs k) (valueAt vs k):=by
 unfold KV at r;induction r with
 |nil=>exact True.intro
 |@cons p q ps qs h t ih=>
  obtain⟨h1,h2⟩:=h;by_cases e:p.1=k
  ·have e':q.1=k:=h1.symm.trans e;have b:valueAt (q::qs) k=some q.2:=by simp[valueAt,dC,e']
   rw[kI e,b];exact h2
  ·have e':¬q.1=k:=λz=>e (h1.trans z);have b:valueAt (q::qs) k=valueAt qs k:=by simp[valueAt,dC,e']
   rw[kC e,b];exact ih
theorem KV.any{kvs:List (κ×V)}{vs:List (κ×Value)}(r:KV kvs vs)(k:κ):(kvs.any λkv=>decide (kv.1=k))=vs.any λkv=>decide (kv.1=k):=by
 unfold KV at r;induction r with
 |nil=>rfl
 |cons h t ih=>rw[cI,cI,ih,h.1]
theorem KV.repl{kvs:List (κ×V)}{vs:List (κ×Value)}(r:KV kvs vs)(k:κ){y:V}{u:Value}(ry:RelV y u):
  KV (kvs.map λkv=>if kv.1=k then (kv.1,y) else kv) (vs.map λkv=>if kv.1=k then (kv.1,u) else kv):=by
 unfold KV at r ⊢;induction r with
 |nil=>exact .nil
 |@cons p q ps qs h t ih=>
  rw[bM,bM];refine .cons ?_ ih;obtain⟨h1,h2⟩:=h;by_cases e:p.1=k
  ·rw[if_pos e,if_pos (h1.symm.trans e)];exact⟨h1,ry⟩
  ·rw[if_neg e,if_neg (λz=>e (h1.trans z))];exact⟨h1,h2⟩
theorem KV.put{kvs:List (κ×V)}{vs:List (κ×Value)}(r:KV kvs vs)(k:κ){y:V}{u:Value}(ry:RelV y u):KV (iW kvs k y) (stored vs k u):=by
 unfold iW stored;rw[r.any k];by_cases e:(vs.any λkv=>decide (kv.1=k))=true
 ·rw[if_pos e,if_pos e];exact r.repl k ry
 ·rw[if_neg e,if_neg e];exact Paired.snoc r ⟨rfl,ry⟩
theorem KV.length{kvs:List (κ×V)}{vs:List (κ×Value)}(r:KV kvs vs):kvs.length=vs.length:=Paired.length r
end
theorem nL{P:Program}{w:World}{k:fG}{u:Value}(r:RelV (kV k) u):(i8 P w).is k u=true:=by
 cases k with
 |inl i=>obtain⟨t,e⟩:=(show ∃t,u=Value.int i t from r);subst e;exact auX P w i t
 |inr x=>obtain⟨t,e⟩:=(show ∃t,u=Value.str x t from r);subst e;exact YV P w x t
theorem oG{P:Program}{w:World}:∀{ks:List fG} {us:List Value},Vals (ks.map kV) us->ItemsAre (i8 P w) ks us
 |[],_,r=>by rw[List.map_nil] at r;cases r;exact .nil
 |k::ks,_,r=>by
  rw[bM] at r;cases r with
  |cons h t=>exact .cons (nL h) (oG t)
abbrev KT(H:Hp):List (List fG×V)->List (List fG×Addr×Value)->Prop:=Paired λp q=>p.1=q.1/\H q.2.1=some (.tup (p.1.map kV))/\RelV p.2 q.2.2
theorem KT.val{H:Hp}{kvs:List (List fG×V)}{xs:List (List fG×Addr×Value)}(r:KT H kvs xs)(k:List fG):RelO (hX kvs k) ((atKey xs k).map (·.2)):=by
 induction r with
 |nil=>exact True.intro
 |@cons p q ps qs h t ih=>
  obtain⟨h1,_,h2⟩:=h;by_cases e:p.1=k
  ·have e':q.1=k:=h1.symm.trans e;have b:atKey (q::qs) k=some q.2:=by simp[atKey,dC,e']
   rw[kI e,b];exact h2
  ·have e':¬q.1=k:=λz=>e (h1.trans z);have b:atKey (q::qs) k=atKey qs k:=by simp[atKey,dC,e']
   rw[kC e,b];exact ih
theorem KT.repl{H:Hp}{kvs:List (List fG×V)}{xs:List (List fG×Addr×Value)}(r:KT H kvs xs)(k:List fG){y:V}{u:Value}(ry:RelV y u):
  KT H (kvs.map λkv=>if kv.1=k then (kv.1,y) else kv) (xs.map (putAt k u)):=by
 induction r with
 |nil=>exact .nil
 |@cons p q ps qs h t ih=>
  rw[bM,bM];refine .cons ?_ ih;obtain⟨h1,h2,h3⟩:=h;unfold putAt;by_cases e:p.1=k
  ·rw[if_pos e,if_pos (h1.symm.trans e)];exact⟨h1,h2,ry⟩
  ·rw[if_neg e,if_neg (λz=>e (h1.trans z))];exact⟨h1,h2,h3⟩
theorem KT.put{H:Hp}{kvs:List (List fG×V)}{xs:List (List fG×Addr×Value)}(r:KT H kvs xs)(k:List fG){b:Addr}{y:V}{u:Value}(hb:H b=some (.tup (k.map kV)))(ry:RelV y u):
  KT H (iW kvs k y) (storedH xs k b u):=by
 have e:(kvs.any λkv=>decide (kv.1=k))=(atKey xs k).isSome:=by
  rw[qm,(r.val k).isSome_eq,Option.isSome_map]
 unfold iW storedH;rw[e];by_cases q:(atKey xs k).isSome=true
 ·rw[if_pos q,if_pos q];exact r.repl k ry
 ·rw[if_neg q,if_neg q];exact Paired.snoc r ⟨rfl,hb,ry⟩
theorem KT.keeps{H H':Hp}{kvs:List (List fG×V)}{xs:List (List fG×Addr×Value)}(r:KT H kvs xs)(ht:∀b ys,H b=some (.tup ys)->H' b=some (.tup ys)):KT H' kvs xs:=
 Paired.mapP r λ_ _ z=>⟨z.1,ht _ _ z.2.1,z.2.2⟩
section
variable{P:Program}{w:World}{H:Hp}{h:Heap}{a:Addr}
theorem Fq{u:HO}(ok:HOk P w H h)(e:Rd H a u):ObjOk P w H h a u:=e.ok ok
theorem si{kvs:List (fG×V)}(ok:HOk P w H h)(e:Rd H a (.dK kvs)):kvs.length<=sizeLine/\(a==sysModules)=false/\∃vs,KV kvs vs/\h.DictOf (i8 P w) a vs:=
 show ObjOk P w H h a (.dK kvs) from Fq ok e
theorem KU{kvs:List (fG×V)}(ok:HOk P w H h)(e:H a=some (.dK kvs)):kvs.length<=sizeLine/\(a==sysModules)=false/\∃vs,KV kvs vs/\h.DictOf (i8 P w) a vs:=si ok (.inl e)
theorem qj{ks:List fG}(ok:HOk P w H h)(e:H a=some (.tup (ks.map kV))):(tupleKind (i8 P w)).is h ks a:=by
 obtain⟨_,its,r,o,h1,h2,n,h3⟩:=(show ObjOk P w H h a (.tup (ks.map kV)) from ok a _ e);exact⟨o,its.toArray,n,h1,h2,h3,by simpa using oG r⟩
theorem rQ{kvs:List (List fG×V)}(ok:HOk P w H h)(e:Rd H a (.dT kvs)):kvs.length<=sizeLine/\(a==sysModules)=false/\
  ∃xs,KT H kvs xs/\h.DictOfH (tupleKind (i8 P w)) a xs:=by
 obtain⟨z,y,xs,r,o,es,ep,h1,h2,h3,h4,h5⟩:=(show ObjOk P w H h a (.dT kvs) from Fq ok e);refine⟨z,y,xs,r,o,es,ep,h1,h2,h3,h4,λx hx=>?_,h5⟩;have all:∀{l:List (List fG×V)} {m:List (List fG×Addr×Value)},KT H l m->∀x∈m,(tupleKind (i8 P w)).is h x.1 x.2.1:=by
  intro l m q;induction q with
  |nil=>intro x hx;exact nomatch hx
  |@cons p q ps qs hq t ih=>
   intro x hx;rcases a9.mp hx with e | hx
   ·subst e;exact qj ok (by rw[←hq.1];exact hq.2.1)
   ·exact ih x hx
 exact all r x hx
theorem T8{kvs:List (List fG×V)}(ok:HOk P w H h)(e:H a=some (.dT kvs)):kvs.length<=sizeLine/\(a==sysModules)=false/\
  ∃xs,KT H kvs xs/\h.DictOfH (tupleKind (i8 P w)) a xs:=rQ ok (.inl e)
end
def DGet(H:Hp)(a:Addr)(y:V)(r:Option V):Prop:=
 (∃kvs k,Rd H a (.dK kvs)/\y=kV k/\r=hX kvs k)∨∃kvs k b,Rd H a (.dT kvs)/\y=.ref b/\H b=some (.tup (k.map kV))/\r=hX kvs k
def DPut(H:Hp)(a:Addr)(y v:V)(H':Hp):Prop:=
 (∃kvs k,H a=some (.dK kvs)/\y=kV k/\kvs.length<sizeLine/\H'=upd H a (.dK (iW kvs k v)))∨
 ∃kvs k b,H a=some (.dT kvs)/\y=.ref b/\H b=some (.tup (k.map kV))/\kvs.length<sizeLine/\H'=upd H a (.dT (iW kvs k v))
theorem DGet.k{H:Hp}{a:Addr}{kvs:List (fG×V)}{k:fG}(e:H a=some (.dK kvs)):DGet H a (kV k) (hX kvs k):=.inl ⟨kvs,k,.inl e,rfl,rfl⟩
theorem DGet.t{H:Hp}{a b:Addr}{kvs:List (List fG×V)}{k:List fG}(e:H a=some (.dT kvs))(eb:H b=some (.tup (k.map kV))):DGet H a (.ref b) (hX kvs k):=.inr ⟨kvs,k,b,.inl e,rfl,eb,rfl⟩
theorem DPut.k{H:Hp}{a:Addr}{kvs:List (fG×V)}{k:fG}{v:V}(e:H a=some (.dK kvs))(hl:kvs.length<sizeLine):DPut H a (kV k) v (upd H a (.dK (iW kvs k v))):=.inl ⟨kvs,k,e,rfl,hl,rfl⟩
theorem DPut.t{H:Hp}{a b:Addr}{kvs:List (List fG×V)}{k:List fG}{v:V}(e:H a=some (.dT kvs))(eb:H b=some (.tup (k.map kV)))(hl:kvs.length<sizeLine):
  DPut H a (.ref b) v (upd H a (.dT (iW kvs k v))):=.inr ⟨kvs,k,b,e,rfl,eb,hl,rfl⟩
section
variable{X:Cx}{pins:List (Addr×Obj)}{σ:St}{H:Hp}{s:Shared}{a:Addr}{y v:V}{u r:Value}{o:Option V}{A:Around}{E:Value->Shared->Prop}
theorem Inv.big(I:Inv X pins σ H s):sysModules<s.heap.objs.size:=by
 have h:mainGlobals<s.heap.objs.size:=(I.mod.glob.keeps I.bk).lt;exact Nat.lt_trans (by decide) h
theorem VD{Q:Value->Shared->Prop}(hu:A.units+1<cLine)(I:Inv X pins σ H s)(g:DGet H a y (some v))(ry:RelV y u)(h:∀w' s',Inv X pins σ H s'->RelV v w'->Q w' s'):
  wpAny (model X.prog X.w) A (getItem (.ref a) u) Q E s:=by
 rcases g with ⟨kvs,k,e,ey,l⟩ | ⟨kvs,k,b,e,ey,eb,l⟩
 ·subst ey;obtain⟨z,hd,vs,rel,dd⟩:=si I.hok e;obtain⟨w',hw,rw'⟩:=RelO.some_of (v:=v) (o:=valueAt vs k) (by rw[l];exact rel.val k);exact wpAny_getItem_of (nL ry) dd.mapOf hw (h w' _ (I.tok _) rw')
 ·subst ey;cases (show u=Value.ref b from ry);obtain⟨z,hd,xs,rel,dd⟩:=rQ I.hok e;obtain⟨w',hw,rw'⟩:=RelO.some_of (v:=v) (o:=(atKey xs k).map (·.2)) (by rw[l];exact rel.val k);obtain⟨p,hp,hp2⟩:=Option.map_eq_some_iff.mp hw;refine wpAny_getItem_heap (tupleKind_room_in1 hu) (qj I.hok eb) dd hp ?_;rw[hp2];exact h w' _ (I.tok _) rw'
theorem aFK{Q:Value->Shared->Prop}(hu:A.units+1<cLine)(I:Inv X pins σ H s)(g:DGet H a y o)(ry:RelV y u)(h:∀s',Inv X pins σ H s'->Q (.bool (!o.isSome)) s'):
  wpAny (model X.prog X.w) A (compareOp .NotIn u (.ref a)) Q E s:=by
 rcases g with ⟨kvs,k,e,ey,l⟩ | ⟨kvs,k,b,e,ey,eb,l⟩
 ·subst ey;obtain⟨z,hd,vs,rel,dd⟩:=si I.hok e;refine wpAny_notIn_of (nL ry) hd dd.mapOf ?_;rw[←(rel.val k).isSome_eq,←l];exact h _ (I.tok _)
 ·subst ey;cases (show u=Value.ref b from ry);obtain⟨z,hd,xs,rel,dd⟩:=rQ I.hok e;refine wpAny_notIn_heap (tupleKind_room_in1 hu) (qj I.hok eb) hd dd ?_;have q:=(rel.val k).isSome_eq;rw[Option.isSome_map] at q;rw[←q,←l];exact h _ (I.tok _)
theorem wO{h':Heap}{t':Nat}{ob:HO}(I:Inv X pins σ H s)(mu:pE (H a))(hs:Heap.SameBut a s.heap h')(he:∃q,h'.get? a=some q)(new:ObjOk X.prog X.w (upd H a ob) h' a ob):
  Inv X pins σ (upd H a ob) {s with heap:=h',toks:=t'}:=
 I.write (x:=a) (e:=a) mu (.inl rfl) (λb q hb z=>(hs.2 b hb).trans z) he new
theorem JQ{P:Program}{w:World}{H':Hp}{h':Heap}{kvs:List (fG×V)}{vs:List (fG×Value)}(z:kvs.length<=sizeLine)(hd:(a==sysModules)=false)(rel:KV kvs vs)(dd:h'.DictOf (i8 P w) a vs):
  ObjOk P w H' h' a (.dK kvs):=⟨z,hd,vs,rel,dd⟩
theorem Wf{H':Hp}{Q:Unit->Shared->Prop}(hu:A.units+1<cLine)(I:Inv X pins σ H s)(g:DPut H a y v H')(ry:RelV y u)(rv:RelV v r)(h:∀s',Inv X pins σ H' s'->Q () s'):
  wpAny (model X.prog X.w) A (setItem (.ref a) u r) Q E s:=by
 rcases g with ⟨kvs,k,e,ey,l,eH⟩ | ⟨kvs,k,b,e,ey,eb,l,eH⟩
 ·subst ey eH;obtain⟨z,hd,vs,rel,dd⟩:=KU I.hok e;have hz:vs.length<=sizeLine:=by rw[←rel.length];exact z
  have hl:(iW kvs k v).length<=sizeLine:=by have:=rh kvs k v;omega
  refine wpAny_setItem_pairs (hsz:=hz) (nL ry) dd λh' dd' hs=>h _ ?_;have he:∃q,h'.get? a=some q:=let ⟨q,_,_,hq,_⟩:=dd';⟨q,hq⟩;exact wO I (by rw[e];exact True.intro) hs he (JQ hl hd (rel.put k rv) dd')
 ·subst ey eH;cases (show u=Value.ref b from ry);obtain⟨z,hd,xs,rel,dd⟩:=T8 I.hok e;have hz:xs.length<=sizeLine:=by rw[←Paired.length rel];exact z
  have hl:(iW kvs k v).length<=sizeLine:=by have:=rh kvs k v;omega
  refine wpAny_setItem_heap (hsz:=hz) (tupleKind_room_in1 hu) (qj I.hok eb) dd λh' dd' hs=>h _ ?_;obtain⟨q,es,ep,hq,h2,h3,h4,_,h5⟩:=dd';refine wO I (by rw[e];exact True.intro) hs ⟨q,hq⟩ ⟨hl,hd,_,(rel.put k eb rv).keeps λc ys ec=>?_,q,es,ep,hq,h2,h3,h4,h5⟩;rw[eW (RC ec e (λz=>nomatch z))];exact ec
end
def rM(i:Expr):Prop:=∀ov iv,subscripted i false ov iv=operate [ov,iv] (getItem ov iv)
theorem FB{prog:Program}{w:World}{A:Around}{E:Value->Shared->Prop}{s:Shared}{env:Env}{value slice:Expr}{pos:Pos}{T id:String}{Q:Value->Shared->Prop}
  (hl:typeLookup (.type T) "__getitem__"=pure (some (.builtin id))) (hs:rM slice)
  (h:wpAny (model prog w) A (eval value env) (λo s₁=>wpAny (model prog w) A (eval slice env) (λi s₂=>s₂.TypeIs o T/\wpAny (model prog w) A (getItem o i) Q E s₂) E s₁) E s):
  wpAny (model prog w) A (eval (.Subscript value slice pos) env) Q E s:=by
 refine Subscript_ (dM h (λo s₁ h₁=>dM h₁ (λi s₂ h₂=>?_) λ_ _ x=>x) λ_ _ x=>x);obtain⟨hT,h₂⟩:=h₂;unfold subscriptTail;refine dJ ?_;rw[getitemInPython_of_ne hT.not_modules];refine dJ (wpAny_specialOf hT hl ?_);have fE:wpAny (model prog w) A (subscripted slice false o i) (λr s₃=>wpAny (model prog w) A (letTemporaryGo value o r >>=λ_=>pure r) Q E s₃) E s₂:=by
  rw[hs o i];exact wpAny_operating (dM h₂ (λr s₃ h₃=>dJ (wpAny_letTemporaryGo (dX h₃))) λ_ _ x=>x)
 first
  |exact dX (dJ fE)
  |exact dJ (dX (dJ fE))
  |exact dJ fE
theorem YH{X:Cx}{pins:List (Addr×Obj)}{σ:St}{H:Hp}{s:Shared}{a:Addr}{y:V}{o:Option V}(I:Inv X pins σ H s)(g:DGet H a y o):s.TypeIs (.ref a) "dict":=by
 rcases g with ⟨kvs,k,e,_,_⟩ | ⟨kvs,k,b,e,_,_,_⟩
 ·obtain⟨_,_,vs,_,dd⟩:=si I.hok e;exact dd.typeIs
 ·obtain⟨_,_,xs,_,dd⟩:=rQ I.hok e;exact dd.typeIs
def Ga(td ty:TE):TE:=λσ H Q=>td σ H λx H1=>ty σ H1 λy H2=>∃a v,x=.ref a/\DGet H2 a y (some v)/\Q v H2
def JP(ty td:TE):TE:=λσ H Q=>ty σ H λy H1=>td σ H1 λx H2=>∃a o,x=.ref a/\DGet H2 a y o/\Q (.bl (!o.isSome)) H2
def Ic(td ty tv:TE):TS:=λD σ H=>tv σ H λv H1=>td σ H1 λx H2=>ty σ H2 λy H3=>∃a H4,x=.ref a/\DPut H3 a y v H4/\D.nx σ H4
section
variable{X:Cx}{o i e value:Expr}{pos pos' tpos:Pos}{td ty tv:TE}
theorem QF(hu:X.A.units+1<cLine)(ho:PE X o td)(hi:PE X i ty)(hs:rM i):PE X (.Subscript o i pos) (Ga td ty):=by
 intro pins s σ H Q I h;refine FB PySem.F.slot_dict_getitem.lookup hs (eX (ho pins s σ H _ I h) λu s1 ⟨x,H1,I1,rx,q1⟩=>eX (hi pins s1 σ H1 _ I1 q1) λiv s2 ⟨y,H2,I2,ry,a,v,ex,g,q2⟩=>?_);subst ex;obtain rfl:u=Value.ref a:=rx;exact⟨YH I2 g,VD hu I2 g ry λw' s3 I3 rw'=>⟨v,H2,I3,rw',q2⟩⟩
theorem aAD(hu:X.A.units+1<cLine)(hi:PE X i ty)(ho:PE X o td):PC X .NotIn i o (JP ty td):=by
 intro pins s σ H Q I h;refine eX (hi pins s σ H _ I h) λiv s1 ⟨y,H1,I1,ry,q1⟩=>eX (ho pins s1 σ H1 _ I1 q1) λu s2 ⟨x,H2,I2,rx,a,ov,ex,g,q2⟩=>?_;subst ex;obtain rfl:u=Value.ref a:=rx;exact aFK hu I2 g ry λs3 I3=>⟨.bl (!ov.isSome),H2,I3,rfl,q2⟩
theorem Qs(hu:X.A.units+1<cLine)(ho:PE X o td)(hi:PE X i ty)(hv:PE X value tv)(hs:swapsWith value (some (.Subscript o i pos')) pos.line X.env=pure false):
  PS X (.Assign [.Subscript o i pos'] value pos) (Ic td ty tv):=by
 intro pins s σ H D I h;refine wpAny_Assign_Subscript (eX (hv pins s σ H _ I h) λr s1 ⟨v,H1,I1,rv,q1⟩=>eX (ho pins s1 σ H1 _ I1 q1) λu s2 ⟨x,H2,I2,rx,q2⟩=>eX (hi pins s2 σ H2 _ I2 q2) λiv s3 ⟨y,H3,I3,ry,a,H4,ex,g,q3⟩=>?_) hs;subst ex;obtain rfl:u=Value.ref a:=rx;exact Wf hu I3 g ry rv λs4 I4=>⟨σ,H4,I4,q3⟩
end
theorem OP{P:Program}{w:World}{H:Hp}(h:Heap)(hb:sysModules<h.objs.size):ObjOk P w H (h.push {cls:=.type "dict",data:=.dict #[]}) h.objs.size (.dK []):=
 ⟨bK _,beq_eq_false_iff_ne.mpr (Ne.symm (bE hb)),[],.nil,Heap.DictOf.new h⟩
def xn:List (TE×TE)->St->Hp->(List (V×V)->Hp->Prop)->Prop
 |[],_,H,Q=>Q [] H
 |(tk,tv)::r,σ,H,Q=>tk σ H λx H1=>tv σ H1 λy H2=>xn r σ H2 λps H3=>Q ((x,y)::ps) H3
abbrev VV:List (V×V)->List (Value×Value)->Prop:=Paired λp q=>RelV p.1 q.1/\RelV p.2 q.2
def pf(X:Cx)(pos:Pos)(keys:List (Option Expr))(values:List Expr)(trs:List (TE×TE)):Prop:=
 ∀(pins:List (Addr×Obj)) (s:Shared) (σ:St) (H:Hp) (Q:List (V×V)->Hp->Prop),Inv X pins σ H s->xn trs σ H Q->
  wpAny (model X.prog X.w) X.A (evalPairs (pairTrees keys values X.env pos)) (λvs s'=>∃ps H',Inv X pins σ H' s'/\VV ps vs/\Q ps H') X.xe s
theorem WJ{X:Cx}{pos:Pos}:pf X pos [] [] []:=λpins s σ H Q I h=>pairTrees_nil_walk ⟨[],H,I,.nil,h⟩
theorem TL{X:Cx}{pos:Pos}{k v:Expr}{ks:List (Option Expr)}{vs:List Expr}{tk tv:TE}{trs:List (TE×TE)}(hk:PE X k tk)(hv:PE X v tv)(hr:pf X pos ks vs trs):
  pf X pos (some k::ks) (v::vs) ((tk,tv)::trs):=λpins s σ H Q I h=>
 pairTrees_cons_walk (eX (hk pins s σ H _ I h) λu s1 ⟨x,H1,I1,rx,q1⟩=>eX (hv pins s1 σ H1 _ I1 q1) λw2 s2 ⟨y,H2,I2,ry,q2⟩=>
  eX (hr pins s2 σ H2 _ I2 q2) λws s3 ⟨ps,H3,I3,rel,q3⟩=>⟨(x,y)::ps,H3,I3,.cons ⟨rx,ry⟩ rel,q3⟩)
noncomputable def mM(kvs more:List (fG×V)):List (fG×V):=more.foldl (λacc kv=>iW acc kv.1 kv.2) kvs
theorem KV.merge:∀{more:List (fG×V)} {rs:List (fG×Value)} {kvs:List (fG×V)} {vs:List (fG×Value)},KV more rs->KV kvs vs->KV (mM kvs more) (merged vs rs):=by
 intro more rs kvs vs r;unfold KV at r;induction r generalizing kvs vs with
 |nil=>intro q;exact q
 |@cons p q ps qs h t ih=>
  intro r0;have e:KV (iW kvs p.1 p.2) (stored vs q.1 q.2):=by
   have:=r0.put p.1 h.2;rw[←h.1];exact this
  exact ih e
theorem Kk:∀(more kvs:List (fG×V)),(mM kvs more).length<=kvs.length+more.length
 |[],kvs=>by show kvs.length<=kvs.length+0;omega
 |p::r,kvs=>by
  have h1:=Kk r (iW kvs p.1 p.2);have h2:=rh kvs p.1 p.2;show (mM (iW kvs p.1 p.2) r).length<=_;rw[bQ];omega
theorem GG{P:Program}{w:World}:∀{kvs:List (fG×V)} {ws:List (Value×Value)},VV (kvs.map λkv=>(kV kv.1,kv.2)) ws->∃rs,Carries (i8 P w) ws rs/\KV kvs rs
 |[],_,r=>by rw[List.map_nil] at r;cases r;exact⟨[],True.intro,.nil⟩
 |p::kvs,_,r=>by
  rw[bM] at r;cases r with
  |@cons a b as bs h t=>
   obtain⟨rs,c,q⟩:=GG (P:=P) (w:=w) t;obtain⟨b1,b2⟩:=b;exact⟨(p.1,b2)::rs,⟨nL h.1,rfl,c⟩,.cons ⟨rfl,h.2⟩ q⟩
def Jt(trs:List (TE×TE)):TE:=λσ H Q=>∀p,H p=none->xn trs σ (upd H p (.dK [])) λps H2=>H2 p=some (.dK [])/\∃kvs:List (fG×V),ps=kvs.map (λkv=>(kV kv.1,kv.2))/\kvs.length<=15/\Q (.ref p) (upd H2 p (.dK (mM [] kvs)))
theorem Wh{X:Cx}{pos:Pos}{keys:List (Option Expr)}{values:List Expr}{trs:List (TE×TE)}(h:pf X pos keys values trs)(hall:keys.all (·.isSome)=true)(hl:keys.length=values.length)(h0:keys≠[])
  (h15:keys.length<=15):PE X (.Dict keys values pos) (Jt trs):=by
 intro pins s σ H Q I q;have hn:=I.hok.fresh (aX s.heap.objs.size);have I1:=I.laid (a:=s.heap.objs.size) (o:=.dK []) (h':=s.heap.push {cls:=.type "dict",data:=.dict #[]}) (t':=s.toks) (λ_ _ q=>bD _ q) (aX _) (OP s.heap I.big);refine wpAny_Dict_walk (knd:=i8 X.prog X.w) hall hl h0 h15 (eX (h pins _ σ _ _ I1 (q _ hn)) λws s2 ⟨ps,H2,I2,rel,e,kvs,ep,lk,q2⟩=>?_);subst ep;obtain⟨rs,c,rk⟩:=GG (P:=X.prog) (w:=X.w) rel
 obtain⟨z,hd,vs0,r0,dd⟩:=KU I2.hok e;cases r0;refine⟨rs,c,dd,λh' dd' hs=>⟨.ref s.heap.objs.size,_,?_,rfl,q2⟩⟩;have hz:(mM [] kvs).length<=sizeLine:=by
  have h1:=Kk kvs [];rw[List.length_nil] at h1;rw[dN];omega
 have he:∃q,h'.get? s.heap.objs.size=some q:=let ⟨q,_,_,hq,_⟩:=dd';⟨q,hq⟩;exact wO I2 (by rw[e];exact True.intro) hs he (JQ hz hd (rk.merge .nil) dd')
structure qr(X:Cx)(pos:Pos)(keys:List (Option Expr))(values:List Expr)(trs:List (TE×TE)):Prop where
 h:pf X pos keys values trs
section
variable{X:Cx}{k:Nat}{o i kx vx:Expr}{td ty tk tv:TE}{pos:Pos}{keys:List (Option Expr)}{values:List Expr}{trs:List (TE×TE)}
theorem wZ{A:Around}(hr:Room k A):A.units+1<cLine:=by have:=hr.un;omega
theorem Hz(hr:Room k X.A)(ho:E X o td)(hi:E X i ty)(hs:rM i:=by intro _ _;rfl):E X (.Subscript o i pos) (Ga td ty):=⟨QF (wZ hr) ho.h hi.h hs⟩
theorem LC:qr X pos [] [] []:=⟨WJ⟩
theorem qL(hk:E X kx tk)(hv:E X vx tv)(hr:qr X pos keys values trs):qr X pos (some kx::keys) (vx::values) ((tk,tv)::trs):=⟨TL hk.h hv.h hr.h⟩
theorem aRE(h:qr X pos keys values trs)(ha:keys.all (·.isSome)=true:=by rfl)(hl:keys.length=values.length:=by rfl)(h0:keys≠[]:=by exact λz=>nomatch z)(h15:keys.length<=15:=by decide):E X (.Dict keys values pos) (Jt trs):=⟨Wh h.h ha hl h0 h15⟩
theorem yP:gF X (binaryOp .Mult) Km:=⟨PL⟩
end
theorem lx{a b:List Nat}{A B:Prop}(h1:a=b->A)(h2:¬a=b->B):if decide (V.str (Tx a)=V.str (Tx b))=true then A else B:=by
 rw[pR];exact hW h1 h2
theorem kG{a:List Nat}{A B:Prop}(h:A):if decide (V.str (Tx a)=V.str (Tx a))=true then A else B:=lx (λ_=>h) λc=>absurd rfl c
theorem jp{a b:List Nat}{A B:Prop}(c:¬a=b)(h:B):if decide (V.str (Tx a)=V.str (Tx b))=true then A else B:=lx (λe=>absurd e c) λ_=>h
end L2
namespace KM
open PySem PySem.Spec PyProof.Rows L2
inductive Mk where
 |num (m:Int) | lst (b:Int) | nea (d:Int) | wrk | wkd (m:Int) | nth (w m:Int) | one (w:Int) | nil
 deriving DecidableEq
abbrev Ko:=Option (List Mk)
def Lf(l f:Int):Prop:=(28<=l/\l<=31)/\0<=f/\f<=6
noncomputable def me(ds:List Int):Int:=(ds.map λd=>1*2^d.toNat).sum
noncomputable def FI:List Int->Bool
 |[]=>true
 |[_]=>true
 |x::y::r=>decide (x<y)&&FI (y::r)
noncomputable def Im(ds:List Int):Bool:=decide (ds.length<=31)&&(FI ds&&ds.all λd=>decide (0<=d)&&decide (d<=31))
theorem Er(ds:List Int):0<=me ds:=by
 unfold me;induction ds with
 |nil=>exact bB 0
 |cons d ds ih=>
  have:=i9 d.toNat;rw[bM,List.sum_cons];omega
noncomputable def pS(m l:Int):Int:=Builtin.bitAnd m (2*2^l.toNat-2)
noncomputable def mh(b l:Int):Int:=if l<=b then 0 else 1*2^(l-b).toNat
noncomputable def lR(m:Int)(n:Nat):Bool:=decide (Builtin.bitAnd (m / 2^(1+(n:Int)).toNat) 1=1)
noncomputable def j4(m:Int):Nat->List Int
 |0=>[]
 |n+1=>j4 m n++(if lR m n=true then [1+(n:Int)] else [])
noncomputable def nw(d l f:Int):Int:=if (f+d-1)%7=6 then (if 1<d then d-1 else 3) else if (f+d-1)%7=0 then (if d<l then d+1 else l-2) else d
noncomputable def mG(d l f:Int):Int:=if l<d then 0 else 1*2^(nw d l f).toNat
noncomputable def wk(f:Int)(n:Nat):Bool:=decide (1<=(f+(1+(n:Int))-1)%7)&&decide ((f+(1+(n:Int))-1)%7<=5)
noncomputable def zV(f:Int):Nat->List Int
 |0=>[]
 |n+1=>zV f n++(if wk f n=true then [1+(n:Int)] else [])
noncomputable def ab(i:Int):Int:=if i<0 then -i else i
noncomputable def EV(d acc o:Int):Int:=if acc=0 then o else if ab (o-d)<ab (acc-d) then o else acc
noncomputable def m7(w m f:Int):Int:=1+(w-f)%7+7*(m-1)
noncomputable def lj(w m l f:Int):Int:=if l<m7 w m f then 0 else 1*2^(m7 w m f).toNat
noncomputable def sx(w l f:Int):Int:=l-((f+l-1)%7-w)%7
noncomputable def F8(w l f:Int):Int:=1*2^(sx w l f).toNat
noncomputable def pI(m:Int):Nat->Int
 |0=>0
 |n+1=>Builtin.bitOr (pI m n) (m*2^(7*(0+(n:Int))).toNat)
noncomputable def rJ(m l f:Int):Int:=Builtin.bitAnd (pI m 6 / 2^f.toNat*2^(1:Int).toNat) (2*2^l.toNat-2)
noncomputable def onD(f w:Int)(n:Nat):Bool:=decide ((f+(1+(n:Int))-1)%7=w)
noncomputable def qy(f w:Int):Nat->List Int
 |0=>[]
 |n+1=>qy f w n++(if onD f w n=true then [1+(n:Int)] else [])
noncomputable def Dl(m f:Int)(n:Nat):Bool:=decide (Builtin.bitAnd (m / 2^((f+(1+(n:Int))-1)%7).toNat) 1=1)
noncomputable def yf(m f:Int):Nat->List Int
 |0=>[]
 |n+1=>yf m f n++(if Dl m f n=true then [1+(n:Int)] else [])
noncomputable def yF:List Int:=[1,2,3,4,5,6,7,8,9,10,11,12,13,14,15,16,17,18,19,20,21,22,23,24,25,26,27,28,29,30,31]
noncomputable def pq:List Int:=[28,29,30,31]
noncomputable def mB:List Int:=[0,1,2,3,4,5,6]
noncomputable def Iw:List Int:=[1,2,3,4,5]
noncomputable def rO:List Int:=(List.range 128).map λn:Nat=>(n:Int)
theorem VW:∀l∈pq,∀f∈mB,∀d∈yF,d<=l->(zV f l.toNat).foldl (EV d) 0=nw d l f/\1<=nw d l f/\nw d l f<=31:=by decide +kernel
theorem TJ:∀l∈pq,∀f∈mB,∀w∈mB,∀m∈Iw,lj w m l f=me (K0 (qy f w l.toNat) (some (m-1)) (some m))/\Im (K0 (qy f w l.toNat) (some (m-1)) (some m))=true/\0<=m7 w m f/\m7 w m f<=100:=by decide +kernel
theorem XS:∀l∈pq,∀f∈mB,∀w∈mB,ie ((qy f w l.toNat).map V.int) (-1)=some (V.int (sx w l f))/\0<=sx w l f/\sx w l f<=31:=by decide +kernel
theorem Vj:∀m∈rO,∀l∈pq,∀f∈mB,rJ m l f=me (yf m f l.toNat)/\Im (yf m f l.toNat)=true:=by decide +kernel
theorem MZ:∀m∈rO,(∀n:Nat,n<7->(pI m n).natAbs<2^60)/\∀f∈mB,(pI m 6 / 2^f.toNat).natAbs<2^64:=by decide +kernel
theorem rY{l:Int}(h0:28<=l)(h1:l<=31):l∈pq:=by
 have:l=28∨l=29∨l=30∨l=31:=⋯;rcases this with rfl | rfl | rfl | rfl<;>decide
theorem nA{f:Int}(h0:0<=f)(h1:f<=6):f∈mB:=by
 have:f=0∨f=1∨f=2∨f=3∨f=4∨f=5∨f=6:=⋯;rcases this with rfl | rfl | rfl | rfl | rfl | rfl | rfl<;>decide
theorem Da{m:Int}(h0:1<=m)(h1:m<=5):m∈Iw:=by
 have:m=1∨m=2∨m=3∨m=4∨m=5:=⋯;rcases this with rfl | rfl | rfl | rfl | rfl<;>decide
theorem GP{m:Int}(h0:0<=m)(h1:m<=127):m∈rO:=by
 unfold rO;exact bH.mpr ⟨m.toNat,cM.mpr ⋯,⋯⟩
theorem vc{d:Int}(h0:1<=d)(h1:d<=31):d∈yF:=by
 have e:d=1+((d-1).toNat:Int):=⋯;have hn:(d-1).toNat<31:=⋯;rw[e];generalize (d-1).toNat=n at hn;have all:∀n:Nat,n<31->(1+(n:Int))∈yF:=by decide +kernel
 exact all n hn
def rW(d l f:Int):Prop:=(1<=d/\d<=31)/\(28<=l/\l<=31)/\0<=f/\f<=6
theorem FE{d l f:Int}(h:rW d l f)(hd:d<=l):(zV f l.toNat).foldl (EV d) 0=nw d l f/\1<=nw d l f/\nw d l f<=31:=VW l (rY h.2.1.1 h.2.1.2) f (nA h.2.2.1 h.2.2.2) d (vc h.1.1 h.1.2) hd
theorem Lf.last{l f:Int}(h:Lf l f):rW l l f:=⟨⟨by have:=h.1.1;omega,h.1.2⟩,h.1,h.2⟩
theorem SD{m:Int}(h:0<=m)(n:Nat):lR m n=tb m (n+1):=by
 have e:(1+(n:Int)).toNat=n+1:=⋯;unfold lR;rw[e];by_cases c:tb m (n+1)=true
 ·rw[c];exact dQ ((mv h _).mpr c)
 ·have c':tb m (n+1)=false:=by simpa using c
  rw[c'];exact dU λq=>c ((mv h _).mp q)
noncomputable def oU(m:Int)(i:Nat):Bool:=decide (1<=i)&&tb m i
theorem FJ{m:Int}(h:0<=m):∀n:Nat,me (j4 m n)=kj (oU m) (n+1)
 |0=>by
  have e:oU m 0=false:=rfl;rw[Ju,Ly,e];rfl
 |n+1=>by
  have ih:=FJ h n;rw[Ju,←ih];show me (j4 m n++(if lR m n=true then [1+(n:Int)] else []))=_;have e:oU m (n+1)=lR m n:=by rw[SD h];unfold oU;simp
  have e1:(1+(n:Int)).toNat=n+1:=⋯;rw[e];unfold me;rw[bA,List.sum_append];by_cases c:lR m n=true
  ·rw[if_pos c,if_pos c];show _+(1*2^(1+(n:Int)).toNat+0)=_;rw[e1];omega
  ·rw[if_neg c,if_neg c];rfl
theorem EB(m:Int):∀n:Nat,(j4 m n).length<=n/\(j4 m n).Pairwise (·<·)/\∀d∈j4 m n,0<=d/\d<=n
 |0=>⟨aX _,.nil,λd hd=>nomatch hd⟩
 |n+1=>by
  obtain⟨h1,hp,h2⟩:=EB m n;show (j4 m n++(if lR m n=true then [1+(n:Int)] else [])).length<=n+1/\(j4 m n++(if lR m n=true then [1+(n:Int)] else [])).Pairwise (·<·)/\∀d∈j4 m n++(if lR m n=true then [1+(n:Int)] else []),_;split
  ·refine⟨by simp;omega,List.pairwise_append.mpr ⟨hp,.cons (λ_ h=>nomatch h) .nil,λa ha b hb=>?_⟩,λd hd=>?_⟩
   ·have:b=1+(n:Int):=by simpa using hb
    have:=h2 a ha;omega
   ·rcases b8.mp hd with z | z
    ·have:=h2 d z;omega
    ·have:d=1+(n:Int):=by simpa using z
     omega
  ·rw[cU];refine⟨⋯,hp,λd hd=>?_⟩;have:=h2 d hd;omega
theorem S3{m l:Int}(h:0<=m)(hl:28<=l/\l<=31):pS m l=me (j4 m l.toNat)/\(j4 m l.toNat).length<=31/\(j4 m l.toNat).Pairwise (·<·)/\∀d∈j4 m l.toNat,0<=d/\d<=31:=by
 obtain⟨k1,kp,k2⟩:=EB m l.toNat;have hp:=i9 l.toNat;refine⟨?_,⋯,kp,λd hd=>by have:=k2 d hd;omega⟩;rw[FJ h];have e:(2*2^l.toNat-2:Int)=(2^l.toNat-1)*2^1:=⋯;have n0:(0:Int)<=2^l.toNat-1:=⋯;have n1:(0:Int)<=(2^l.toNat-1)*2^1:=⋯;unfold pS;rw[e];refine jf (kU h n1) (rL _ _) λi=>?_;rw[kE h n1,ql n0,Ca,rX];unfold oU;by_cases c1:1<=i
 ·have:(i-1<l.toNat)↔(i<l.toNat+1):=⋯;simp only[c1,this,decide_true,Bool.true_and];rw[Bool.and_comm]
 ·simp[c1]
theorem rng{l:Int}(hl:28<=l/\l<=31):(-(2^62)<=(1:Int)/\(1:Int)<2^62/\ -(2^62)<=l+1/\l+1<2^62)/\(l+1-1).toNat=l.toNat/\(l+1-1).toNat<=sizeLine:=by
 obtain⟨h0,h1⟩:=hl;refine⟨⟨by decide,by decide,⋯,⋯⟩,⋯,?_⟩;rw[dN];omega
noncomputable def lK(w m:Int):List (Str×V):=fJ "many" (.int m) (fJ "weekday" (.int w) [])
theorem Mx:¬(("weekday":Str)="many"):=by decide +kernel
theorem Lj(w m:Int):(lK w m).lookup ("weekday":Str)=some (.int w):=by
 unfold lK;rw[fO,if_neg Mx,fO,if_pos rfl]
theorem Os(w m:Int):(lK w m).lookup ("many":Str)=some (.int m):=by
 unfold lK;rw[fO,if_pos rfl]
theorem aFE(w m:Int):(lK w m).lookup ("days":Str)=none:=by
 unfold lK;rw[fO,if_neg (by decide +kernel),fO,if_neg (by decide +kernel)];rfl
noncomputable def Mk.due:Mk->Int->Int->Int
 |.num m,l,_=>pS m l
 |.lst b,l,_=>mh b l
 |.nea d,l,f=>mG d l f
 |.wrk,l,f=>1*2^(nw l l f).toNat
 |.wkd m,l,f=>rJ m l f
 |.nth w m,l,f=>lj w m l f
 |.one w,l,f=>F8 w l f
 |.nil,_,_=>0
def Mk.ok:Mk->Prop
 |.num m=>0<=m
 |.lst b=>0<=b/\b<=30
 |.nea d=>1<=d/\d<=31
 |.wrk=>True
 |.wkd m=>0<=m/\m<=127
 |.nth w m=>(0<=w/\w<=6)/\1<=m/\m<=5
 |.one w=>0<=w/\w<=6
 |.nil=>True
noncomputable def Mk.wk:Mk->Bool
 |.wkd _ | .nth _ _ | .one _=>true
 |_=>false
noncomputable def Mk.tup:Mk->List V
 |.num m=>[.str (Tx [112,108,97,105,110]),.int m,.int 0]
 |.wkd m=>[.str (Tx [112,108,97,105,110]),.int m,.int 0]
 |.lst b=>[.str (Tx [108,97,115,116]),.int b,.int 0]
 |.nea d=>[.str (Tx [110,101,97,114]),.int d,.int 0]
 |.wrk=>[.str (Tx [119,111,114,107]),.int 0,.int 0]
 |.nth w m=>[.str (Tx [110,116,104]),.int w,.int m]
 |.one w=>[.str (Tx [108,97,115,116,111,110,101]),.int w,.int 0]
 |.nil=>[]
noncomputable def Mk.sp:Mk->Bool
 |.nil=>false
 |_=>true
theorem M5{k:Mk}{l f:Int}(hk:k.ok)(h:Lf l f):0<=k.due l f:=by
 have p1:∀n:Nat,(0:Int)<=1*2^n:=λn=>by have:=i9 n;omega
 cases k with
 |num m=>show 0<=pS m l;rw[(S3 hk h.1).1];exact Er _
 |lst b=>show 0<=mh b l;unfold mh;split;exact bB 0;exact p1 _
 |nea d=>show 0<=mG d l f;unfold mG;split;exact bB 0;exact p1 _
 |wrk=>exact p1 _
 |wkd m=>show 0<=rJ m l f;rw[(Vj m (GP hk.1 hk.2) l (rY h.1.1 h.1.2) f (nA h.2.1 h.2.2)).1];exact Er _
 |nth w m=>show 0<=lj w m l f;unfold lj;split;exact bB 0;exact p1 _
 |one w=>exact p1 _
 |nil=>exact bB 0
noncomputable def ll(ks:List Mk)(l f:Int):Int:=gM (ks.map λk=>k.due l f)
theorem aB1(ks:List Mk)(k:Mk)(l f:Int):ll (ks++[k]) l f=Builtin.bitOr (ll ks l f) (k.due l f):=by unfold ll;rw[bA];exact pA _ _
structure Cs where
 (nu la ne lw we nt lo ma:Addr)
def MkAt(c:Cs)(H:Hp)(x:Addr):Mk->Prop
 |.num m=>∃dx,H x=some (.ins c.nu dx [("mask",.int m)])
 |.lst b=>∃dx,H x=some (.ins c.la dx [("back",.int b)])
 |.nea d=>∃dx,H x=some (.ins c.ne dx [("day",.int d)])
 |.wrk=>∃dx,H x=some (.ins c.lw dx [])
 |.wkd m=>∃dx,H x=some (.ins c.we dx [("mask",.int m)])
 |.nth w m=>∃dx,H x=some (.ins c.nt dx (lK w m))
 |.one w=>∃dx,H x=some (.ins c.lo dx [("weekday",.int w)])
 |.nil=>∃dx,H x=some (.ins c.ma dx [])
theorem MkAt.keep{c:Cs}{H H':Hp}(s:Keep H H'){x:Addr}{k:Mk}(h:MkAt c H x k):MkAt c H' x k:=by
 cases k<;>(obtain⟨dx,h⟩:=h;exact⟨dx,s.ins h⟩)
abbrev Ft(R:Addr->Mk->Prop):List Addr->List Mk->Prop:=Paired R
theorem Ft.get{R:Addr->Mk->Prop}:∀{ps:List Addr} {ks:List Mk},Ft R ps ks->∀{i:Nat} {p:Addr},ps[i]? =some p->∃k,ks[i]? =some k/\R p k
 |_,_,.nil,_,_,h=>nomatch h
 |_,_,.cons r _,0,_,h=>by cases h;exact⟨(),r⟩
 |_,_,.cons _ t,i+1,_,h=>Ft.get t h
theorem Ft.keepM{c:Cs}{H H':Hp}(s:Keep H H'){ps:List Addr}{ks:List Mk}(h:Ft (MkAt c H) ps ks):Ft (MkAt c H') ps ks:=Paired.imp' (λ_ _ z=>z.keep s) h
theorem Ft.app{R:Addr->Mk->Prop}:∀{ps:List Addr} {ks:List Mk} {ps':List Addr} {ks':List Mk},Ft R ps ks->Ft R ps' ks'->Ft R (ps++ps') (ks++ks')
 |_,_,_,_,.nil,h=>h
 |_,_,_,_,.cons r t,h=>.cons r (Ft.app t h)
end KM
namespace L2
open PySem
theorem Jl{us:List Value}(h:us.length=1):∃a,us=[a]:=by
 cases us with
 |nil=>cases h
 |cons a r=>cases r with
  |nil=>exact⟨a,rfl⟩
  |cons b r=>cases h
theorem xF{us:List Value}{n:Nat}(h:us.length=n+1):∃a r,us=a::r/\r.length=n:=by
 cases us with
 |nil=>cases h
 |cons a r=>exact⟨a,r,rfl,cR h⟩
theorem HM{us:List Value}(h:us.length=2):∃a b,us=[a,b]:=by
 obtain⟨a,r,rfl,h'⟩:=xF h;obtain⟨b,rfl⟩:=Jl h';exact⟨a,b,rfl⟩
theorem KW{us:List Value}(h:us.length=3):∃a b c,us=[a,b,c]:=by
 obtain⟨a,r,rfl,h'⟩:=xF h;obtain⟨b,c,rfl⟩:=HM h';exact⟨a,b,c,rfl⟩
theorem CN{us:List Value}(h:us.length=4):∃a b c d,us=[a,b,c,d]:=by
 obtain⟨a,r,rfl,h'⟩:=xF h;obtain⟨b,c,d,rfl⟩:=KW h';exact⟨a,b,c,d,rfl⟩
structure KI(P:Program)(w:World)(K:FG)(mg:Str->Option Value)(base:Heap)(f:Addr)(k:Nat)(ps:List Str)(sp:Sp):Prop where
 ex:∃fd:FuncData,gz P w K mg base i7 k f fd ps sp/\Binds K fd ps []/\PySem.W.keepIn K (.ref f)=true
theorem Df.at_{P:Program}{w:World}{K:FG}{mg:Str->Option Value}{base:Heap}{x:Str}{k:Nat}{ps:List Str}{sp:Sp}{f:Addr}(D:Df P w K mg base x k ps sp)(hm:mg x=some (.ref f)):KI P w K mg base f k ps sp:=by
 obtain⟨f',fd,F,hb,hm',kp⟩:=D.ex;rw[hm] at hm';cases hm';exact⟨fd,F,hb,kp⟩
def aKL(f:Addr)(sp:Sp)(tv:TE)(t:TA):TE:=λσ H Q=>tv σ H λv H1=>v=.ref f/\mK sp [] E0 t σ H1 Q
section
variable{X:Cx}{f:Addr}{k k':Nat}{ps:List Str}{sp:Sp}{y:Str}{e:Expr}{es:List Expr}{t:TA}{tv:TE}{p pos:Pos}
theorem JS(D:KI X.prog X.w X.K X.mg X.base f k ps sp)(hr:Room k' X.A)(hv:E X (.Name y p) tv)(ha:As X (e::es) t)(hk:k<=k':=by decide)
  (he:starEach (e::es) X.env=(false,eval e X.env)::starEach es X.env:=by rfl) (hpl:(backTo pos (starEach es X.env)).any (·.1)=false:=by rfl):E X (.Call (.Name y p) (e::es) [] pos) (aKL f sp tv t):=by
 obtain⟨fd,F,hb,kp⟩:=D.ex;refine⟨λpins s σ H Q I h=>?_⟩;refine dW (eX (hv.h pins s σ H _ I h) λv s1 ⟨x,H1,I1,r1,ex,q⟩=>?_);subst ex;cases r1;refine PySem.W.callWith_K (h₀:=X.base) I1.ok.mod.kin kp (eX (ha.h pos pins s1 σ H1 _ I1 q) λus s2 ⟨vs,H2,I2,r,q2⟩=>⟨I2.kIn,?_⟩) he hpl;exact pD F (hr.mono hk) hb .nil ny I2 r q2
end
section
variable{X:Cx}
def Ka:V->List V->Hp->VK->Prop:=λx vs H Q=>∃l p:List Nat,x=.str (Tx l)/\vs=[.str (Tx p)]/\Q (.bl (decide (l.take p.length=p))) H
theorem NS(l p:List Nat):(decide (0+(Tx p).length<=(Tx l).length)&&Builtin.Str.subAt (Tx l) (Tx p) 0)=decide (l.take p.length=p):=by
 rw[ja,ja];have e:(Tx l).cps.extract 0 (0+(Tx p).length)=(l.take p.length).toArray:=by
  rw[ja];show l.toArray.extract 0 (0+p.length)=_;simp
 have e2:(((l.take p.length).toArray==p.toArray:Bool))=decide (l.take p.length=p):=by
  by_cases h:l.take p.length=p
  ·rw[h];simp
  ·rw[dU h];exact beq_eq_false_iff_ne.mpr λz=>h (by simpa using congrArg Array.toList z)
 unfold Builtin.Str.subAt;rw[e];show (_&&((l.take p.length).toArray==p.toArray))=_;rw[e2];by_cases h:l.take p.length=p
 ·have:0+p.length<=l.length:=by
   have:=congrArg List.length h;rw[cF] at this;omega
  rw[dQ this,Bool.true_and]
 ·rw[dU h,Bool.and_false]
theorem Z5:nB X "str.startswith" Ka:=by
 intro pins s σ H x xs v us Q I rx rv h;obtain⟨l,p,rfl,rfl,q⟩:=h;obtain⟨u,rfl,r1⟩:=jr rv;obtain⟨t',rfl⟩:=r1;obtain⟨t,rfl⟩:=rx;refine call_gives PySem.F.slot_str_startswith (typeIs_str _ _ _) PySem.F.entry_str_startswith (PySem.F.args_str_startswith_2 _ _) (gives_str_startswith (Tx l) (Tx p) t t') ?_;rw[NS];exact⟨.bl _,H,I,rfl,q⟩
theorem Dg{o e:Expr}{to te:TE}{apos cpos:Pos}(ho:E X o to)(he:E X e te)(hbase:attributeBase o "startswith" X.env (eval o X.env)=eval o X.env:=by rfl)
  (hfew:((backTo cpos (starEach [e] X.env)).all (λx=> !x.1)&&(backToKw cpos (keywordEach [] X.env)).all (λx=>x.1.isSome)&&decide (([e]:List Expr).length+([]:List Keyword).length+(if ([]:List Keyword).isEmpty then 0 else 1)<30))=true:=by rfl)
  (hline:(apos.endLine==cpos.line)=true:=by rfl) (hs:starEach [e] X.env=(false,eval e X.env)::starEach [] X.env:=by rfl) (hplain:(backTo cpos (starEach [] X.env)).any (·.1)=false:=by rfl):
  E X (.Call (.Attribute o "startswith" apos) [e] [] cpos) (nE X.K "str" Ka to (jc te iP)):=
 ⟨oZ PySem.F.plainAttrs_str PySem.F.slot_str_startswith PySem.F.type_str_startswith Z5 ho.h (kZ he.h lH hs) hbase hfew hline hs hplain⟩
def JD:V->List V->Hp->VK->Prop:=λx vs H Q=>∃(l:List Nat) (c:Nat),x=.str (Tx l)/\vs=[.str (Tx [c])]/\Q (.bl (decide (l.getLast? =some c))) H
theorem aLI(l:List Nat)(c:Nat):(decide (0+(Tx [c]).length<=(Tx l).length)&&Builtin.Str.subAt (Tx l) (Tx [c]) ((Tx l).length-(Tx [c]).length))=decide (l.getLast? =some c):=by
 rw[ja,ja];rcases List.eq_nil_or_concat l with rfl | ⟨r,x,rfl⟩
 ·simp
 ·rw[List.concat_eq_append];have e:(Tx (r++[x])).cps.extract ((r++[x]).length - [c].length) ((r++[x]).length - [c].length+(Tx [c]).length)= #[x]:=by
   show (r++[x]).toArray.extract ((r++[x]).length-1) ((r++[x]).length-1+1)= #[x];rw[a8,b9,Nat.add_sub_cancel];simp
  unfold Builtin.Str.subAt;rw[e];have e2:decide (0+[c].length<=(r++[x]).length)=true:=by simp
  rw[e2,Bool.true_and,List.getLast?_append,List.getLast?_singleton];show (#[x]== #[c])=decide (some x=some c);by_cases h:x=c
  ·subst h;simp
  ·have h2:¬some x=some c:=λz=>h (bG z);rw[dU h2];exact beq_eq_false_iff_ne.mpr λz=>h (by simpa using z)
theorem aQC:nB X "str.endswith" JD:=by
 intro pins s σ H x xs v us Q I rx rv h;obtain⟨l,c,rfl,rfl,q⟩:=h;obtain⟨u,rfl,r1⟩:=jr rv;obtain⟨t',rfl⟩:=r1;obtain⟨t,rfl⟩:=rx;refine call_gives PySem.F.slot_str_endswith (typeIs_str _ _ _) PySem.F.entry_str_endswith (PySem.F.args_str_endswith_2 _ _) (gives_str_endswith (Tx l) (Tx [c]) t t') ?_;rw[aLI];exact⟨.bl _,H,I,rfl,q⟩
theorem IU{o e:Expr}{to te:TE}{apos cpos:Pos}(ho:E X o to)(he:E X e te)(hbase:attributeBase o "endswith" X.env (eval o X.env)=eval o X.env:=by rfl)
  (hfew:((backTo cpos (starEach [e] X.env)).all (λx=> !x.1)&&(backToKw cpos (keywordEach [] X.env)).all (λx=>x.1.isSome)&&decide (([e]:List Expr).length+([]:List Keyword).length+(if ([]:List Keyword).isEmpty then 0 else 1)<30))=true:=by rfl)
  (hline:(apos.endLine==cpos.line)=true:=by rfl) (hs:starEach [e] X.env=(false,eval e X.env)::starEach [] X.env:=by rfl) (hplain:(backTo cpos (starEach [] X.env)).any (·.1)=false:=by rfl):
  E X (.Call (.Attribute o "endswith" apos) [e] [] cpos) (nE X.K "str" JD to (jc te iP)):=
 ⟨oZ PySem.F.plainAttrs_str PySem.F.slot_str_endswith PySem.F.type_str_endswith aQC ho.h (kZ he.h lH hs) hbase hfew hline hs hplain⟩
end
end L2
namespace KM
open PySem PySem.Spec PyProof.Rows L2
noncomputable def jX(t:List Nat):Option Mk:=
 if t=[76] then some (.lst 0) else if t=[76,87] then some .wrk
 else if t.take ([76,45]:List Nat).length=[76,45] then (gL 1 30 (jA t (some 2) none)).map Mk.lst
 else if t.getLast? =some 87 then (gL 1 31 (jA t none (some (-1)))).map Mk.nea else none
noncomputable def kD(t:List Nat):Option Int:=(gL 0 7 t).map λn=>if n=7 then 0 else n
noncomputable def Je:Option Int->Option Int->Option Mk
 |some w,some m=>some (.nth w m)
 |_,_=>none
noncomputable def l9(t:List Nat):Option Mk:=
 if t.getLast? =some 76 then (kD (jA t none (some (-1)))).map Mk.one
 else match eY 35 t with
  |[a,b]=>Je (kD a) (gL 1 5 b)
  |_=>none
noncomputable def jP(wk:Bool)(t:List Nat):Option Mk:=if wk=true then l9 t else jX t
def KL(c:Cs)(H:Hp)(v:V):Option Mk->Prop
 |none=>v=.non
 |some k=>∃x,v=.ref x/\MkAt c H x k
theorem nK(c:Nat):∀(l:List Nat),∀w∈eY c l,w.length<=l.length
 |[],w,hw=>by simp[eY] at hw;simp[hw]
 |x::r,w,hw=>by
  have ih:=nK c r;unfold eY at hw;split at hw
  ·rcases a9.mp hw with z | z
   ·subst z;simp
   ·have:=ih w z;simp;omega
  ·split at hw
   ·rename_i h t e;rcases a9.mp hw with z | z
    ·subst z;have:=ih h (by rw[e];simp);simp;omega
    ·have:=ih w (by rw[e];simp[z]);simp;omega
   ·have:w=[x]:=by simpa using hw
    subst this;simp
noncomputable def hG(lo hi:Int)(ws:List (List Nat)):List Int:=ws.filterMap (gJ lo hi)
noncomputable def iq(wk:Bool)(lo hi:Int)(ws:List (List Nat)):List Mk:=ws.filterMap λw=>if (gJ lo hi w).isSome=true then none else jP wk w
theorem ND{lo hi:Int}{ws:List (List Nat)}{w:List Nat}{m:Int}(h:gJ lo hi w=some m):hG lo hi (ws++[w])=hG lo hi ws++[m]:=by
 unfold hG;rw[dG];simp[h]
theorem E4{lo hi:Int}{ws:List (List Nat)}{w:List Nat}(h:gJ lo hi w=none):hG lo hi (ws++[w])=hG lo hi ws:=by
 unfold hG;rw[dG];simp[h]
theorem TM{wk:Bool}{lo hi:Int}{ws:List (List Nat)}{w:List Nat}{m:Int}(h:gJ lo hi w=some m):iq wk lo hi (ws++[w])=iq wk lo hi ws:=by
 unfold iq;rw[dG];simp[h]
theorem qv{wk:Bool}{lo hi:Int}{ws:List (List Nat)}{w:List Nat}{k:Mk}(h:gJ lo hi w=none)(hk:jP wk w=some k):iq wk lo hi (ws++[w])=iq wk lo hi ws++[k]:=by
 unfold iq;rw[dG];simp[h,hk]
theorem K3(wk:Bool)(lo hi:Int)(ws:List (List Nat))(i:Nat):(iq wk lo hi (ws.take i)).length<=(iq wk lo hi ws).length:=((List.take_sublist i ws).filterMap _).length_le
structure gY(wk:Bool)(lo hi:Int)(l:List Nat):Prop where
 len:l.length<=300
 few:(eY 44 l).length<=40
 all:∀w∈eY 44 l,(gJ lo hi w).isSome=true∨(jP wk w).isSome=true
 most:(iq wk lo hi (eY 44 l)).length<=20
theorem Hm{xs:List V}(h:xs.length<=40):jR xs none (some 40)=xs:=by
 unfold jR;have e1:HT.sIx xs.length 0 none=0:=rfl;have e2:xs.length<=HT.sIx xs.length xs.length (some 40):=by
  show xs.length<=HT.sIx xs.length xs.length (some 40);unfold HT.sIx;simp;omega
 rw[e1,List.drop_zero,Nat.sub_zero];exact dF e2
def DZ(H:Hp)(r:V):Option (Int×Int)->Prop
 |none=>r=.non
 |some (a,b)=>∃p,r=.ref p/\H p=some (.tup [.int a,.int b])
theorem LS(es:List (Option Int)):(es.map oV).all kP=true:=by
 rw[List.all_map];refine cJ.mpr λx _=>?_;cases x<;>rfl
noncomputable def g7(m:Int):Int:=Builtin.bitAnd (Builtin.bitOr m (m / 2^(7:Int).toNat)) 127
noncomputable def kW(wk:Bool)(m:Int):List Mk:=if m=0 then [] else if wk=true then [.wkd (g7 m)] else [.num m]
noncomputable def ni(wk:Bool)(lo hi:Int)(l:List Nat):List Mk:=kW wk (gM (hG lo hi (eY 44 l)))++iq wk lo hi (eY 44 l)
def Cl(t:List Nat):Prop:=(44∉t/\32∉t)/\t≠[]/\t.length<=8
instance (t:List Nat):Decidable (Cl t):=by unfold Cl;exact inferInstance
def kq(lo hi:Int)(t:List Nat)(ns:List Int):Prop:=gJ lo hi t=some (iD ns)/\Cl t/\(∀n∈ns,lo<=n/\n<=hi)/\ns≠[]/\ns.length<=64
theorem ol{c:Nat}{a b:List Nat}{d:Nat}(h1:c∉a)(h2:c∉b)(h3:c≠d):c∉a++d::b:=by
 simp only[b8,a9,not_or];exact⟨h1,h3,h2⟩
theorem qR{a b:List Nat}{d:Nat}(ha:(44∉a/\32∉a)/\a≠[]/\a.length<=5)(hb:(44∉b/\32∉b)/\b.length<=2)(h1:44≠d)(h2:32≠d):Cl (a++d::b):=by
 refine⟨⟨ol ha.1.1 hb.1.1 h1,ol ha.1.2 hb.1.2 h2⟩,by simp,?_⟩;have:=ha.2.2;have:=hb.2;rw[a8,bQ];omega
theorem lg{n:Nat}(h:n<100):(44∉num n/\32∉num n)/\num n≠[]/\(num n).length<=2:=⟨⟨jJ h (by decide),jJ h (by decide)⟩,oN n,(lI n h).2.2.2⟩
theorem n4{a b s lo hi:Int}(h0:0<=a)(h1:b<=63)(hab:a<=b)(hs:0<s)(hl:lo<=a)(hb:b<=hi):(∀n∈ij a b s,lo<=n/\n<=hi)/\ij a b s≠[]/\(ij a b s).length<=64:=by
 refine⟨λn hn=>?_,λe=>?_,?_⟩
 ·have:=(Bp hs).mp hn;omega
 ·have:a∈ij a b s:=(Bp hs).mpr ⟨bB _,hab,by rw[Int.sub_self];rfl⟩;rw[e] at this;cases this
 ·rw[qk,aY,List.length_range,rV hs,if_pos hab];have:=Int.ediv_le_self (a:=b-a) s ⋯;omega
theorem EC(a:Int):ij a a 1=[a]:=by
 rw[qk,rV (by decide),if_pos (bB a),Int.sub_self];show [a+((0:Nat):Int)*1]=[a];simp
theorem i1{lo hi a:Int}(h0:0<=lo)(h1:lo<=a)(h2:a<=hi)(h3:hi<=63):kq lo hi (num a.toNat) [a]:=by
 have ha:a.toNat<100:=⋯;have e:=JE (lo:=lo) (hi:=hi) ha ⋯ ⋯;rw[b7 ⋯] at e;have c:=lg ha;have r:=n4 (a:=a) (b:=a) (s:=1) (lo:=lo) (hi:=hi) ⋯ ⋯ ⋯ (by decide) h1 h2;have e2:=yA (jJ ha (by decide)) e;unfold jt at e2;rw[EC] at e2 r;exact⟨e2,⟨c.1,c.2.1,by have:=c.2.2;omega⟩,r⟩
theorem i2{lo hi a b:Int}(h0:0<=lo)(h1:lo<=a)(h2:a<=b)(h4:b<=hi)(h3:hi<=63):kq lo hi (num a.toNat++45::num b.toNat) (ij a b 1):=by
 have ha:a.toNat<100:=⋯;have hb:b.toNat<100:=⋯;have e:=GW (lo:=lo) (hi:=hi) ha hb ⋯ ⋯ ⋯;rw[b7 ⋯,b7 ⋯] at e;have ca:=lg ha;have cb:=lg hb;exact⟨yA (ol (jJ ha (by decide)) (jJ hb (by decide)) (by decide)) e,qR ⟨ca.1,ca.2.1,by have:=ca.2.2;omega⟩ ⟨cb.1,cb.2.2⟩ (by decide) (by decide),n4 ⋯ ⋯ h2 (by decide) h1 h4⟩
theorem i0{lo hi:Int}(h0:0<=lo)(h1:lo<=hi)(h3:hi<=63):kq lo hi [42] (ij lo hi 1):=
 ⟨yA (by decide) Hq,by decide,n4 h0 h3 h1 (by decide) (bB _) (bB _)⟩
theorem i3{lo hi s:Int}(h0:0<=lo)(h1:lo<=hi)(h3:hi<=63)(hs:1<=s/\s<=99):kq lo hi ([42]++47::num s.toNat) (ij lo hi s):=by
 have hs':s.toNat<100:=⋯;have e:=zB (show 47∉[42] by decide) (Hq (lo:=lo) (hi:=hi)) hs' ⋯;rw[if_neg (by decide),b7 ⋯] at e;have cs:=lg hs';exact⟨e,qR (by decide) ⟨cs.1,cs.2.2⟩ (by decide) (by decide),n4 h0 h3 h1 ⋯ (bB _) (bB _)⟩
theorem i4{lo hi a s:Int}(h0:0<=lo)(h1:lo<=a)(h2:a<=hi)(h3:hi<=63)(hs:1<=s/\s<=99):kq lo hi (num a.toNat++47::num s.toNat) (ij a hi s):=by
 have ha:a.toNat<100:=⋯;have hs':s.toNat<100:=⋯;have e1:=JE (lo:=lo) (hi:=hi) ha ⋯ ⋯;have e:=zB (jJ ha (by decide)) e1 hs' ⋯;rw[if_pos (lI _ ha).1,b7 ⋯,b7 ⋯] at e;have ca:=lg ha;have cs:=lg hs';exact⟨e,qR ⟨ca.1,ca.2.1,by have:=ca.2.2;omega⟩ ⟨cs.1,cs.2.2⟩ (by decide) (by decide),n4 ⋯ h3 h2 ⋯ h1 (bB _)⟩
theorem i5{lo hi a b s:Int}(h0:0<=lo)(h1:lo<=a)(h2:a<=b)(h4:b<=hi)(h3:hi<=63)(hs:1<=s/\s<=99):kq lo hi ((num a.toNat++45::num b.toNat)++47::num s.toNat) (ij a b s):=by
 have ha:a.toNat<100:=⋯;have hb:b.toNat<100:=⋯;have hs':s.toNat<100:=⋯;have e1:=GW (lo:=lo) (hi:=hi) ha hb ⋯ ⋯ ⋯;have e:=zB (ol (jJ ha (by decide)) (jJ hb (by decide)) (by decide)) e1 hs' ⋯;rw[if_neg (by rw[YS (c:=45) (by simp) (by decide)];exact bF),b7 ⋯,b7 ⋯,b7 ⋯] at e;have ca:=lg ha;have cb:=lg hb;have cs:=lg hs';refine⟨e,qR ⟨⟨ol ca.1.1 cb.1.1 (by decide),ol ca.1.2 cb.1.2 (by decide)⟩,by simp,?_⟩ ⟨cs.1,cs.2.2⟩ (by decide) (by decide),n4 ⋯ ⋯ h2 ⋯ h1 h4⟩
 have:=ca.2.2;have:=cb.2.2;rw[a8,bQ];omega
theorem mW{m:Int}(h:0<=m)(i:Nat):0<=g7 m/\tb (g7 m) i=((tb m i||tb m (7+i))&&decide (i<7)):=by
 have h1:(0:Int)<=m / 2^(7:Int).toNat:=cX h (by decide);unfold g7;refine⟨kU (kg h h1) (by decide),?_⟩;rw[kE (kg h h1) (by decide),lD h h1,mX h];have e:tb 127 i=decide (i<7):=Ca 7 i;rw[e];rfl
theorem La{ms:List Int}(h:∀m∈ms,0<=m):gM ms=0↔∀m∈ms,m=0:=by
 constructor
 ·intro e m hm;refine jf (h m hm) (bB 0) λi=>?_;have z:=l3 h i;rw[e,i6] at z;have:=c5.mp z.symm m hm;rw[i6];simpa using this
 ·intro e;refine jf (mi h) (bB 0) λi=>?_;rw[l3 h,i6,c5];intro m hm;rw[e m hm,i6];exact bF
theorem Gj{ms:List Int}(h:∀m∈ms,0<=m):g7 (gM ms)=gM (ms.map g7):=by
 have h':∀m∈ms.map g7,0<=m:=λm hm=>by
  obtain⟨z,hz,rfl⟩:=bH.mp hm;exact (mW (h z hz) 0).1
 refine jf (mW (mi h) 0).1 (mi h') λi=>?_;rw[(mW (mi h) i).2,l3 h,l3 h,l3 h',List.any_map,cS];simp only[bX,Bool.or_eq_true,List.any_eq_true,dR,Function.comp];constructor
 ·rintro⟨⟨m,hm,e⟩ | ⟨m,hm,e⟩,hi⟩
  ·exact⟨m,hm,by rw[(mW (h m hm) i).2,e,dQ hi];rfl⟩
  ·exact⟨m,hm,by rw[(mW (h m hm) i).2,e,dQ hi,Bool.or_true];rfl⟩
 ·rintro⟨m,hm,e⟩;rw[(mW (h m hm) i).2,bX,Bool.or_eq_true,dR] at e;rcases e with ⟨e | e,hi⟩
  ·exact⟨.inl ⟨m,hm,e⟩,hi⟩
  ·exact⟨.inr ⟨m,hm,e⟩,hi⟩
theorem Gp{m:Int}(h0:0<m)(h1:m<=255):g7 m≠0/\0<=g7 m/\g7 m<=127:=by
 have all:∀n:Nat,n<256->0<n->g7 (n:Int)≠0/\0<=g7 (n:Int)/\g7 (n:Int)<=127:=by decide +kernel
 have e:m=((m.toNat:Nat):Int):=⋯;rw[e];exact all m.toNat ⋯ ⋯
def oB(b:Bool)(t:List Nat):Mk->Prop
 |.num m=>b=false/\gJ 1 31 t=some m/\0<m
 |.wkd m=>b=true/\∃M,gJ 0 7 t=some M/\(0<M/\M<=255)/\m=g7 M
 |.nil=>False
 |k=>gJ (if b=true then 0 else 1) (if b=true then 7 else 31) t=none/\jP b t=some k
theorem Fy:oB false [76] (.lst 0)/\Cl [76]:=by
 refine⟨⟨?_,?_⟩,by decide⟩<;>decide +kernel
theorem E5:oB false [76,87] .wrk/\Cl [76,87]:=by
 refine⟨⟨?_,?_⟩,by decide⟩<;>decide +kernel
theorem Fc:∀n:Nat,n<31->1<=n->(gJ 1 31 ([76,45]++num n)=none/\jP false ([76,45]++num n)=some (.lst n))/\Cl ([76,45]++num n):=by decide +kernel
theorem YB:∀n:Nat,n<32->1<=n->(gJ 1 31 (num n++[87])=none/\jP false (num n++[87])=some (.nea n))/\Cl (num n++[87]):=by decide +kernel
theorem aMU:∀n:Nat,n<8->(gJ 0 7 (num n++[76])=none/\jP true (num n++[76])=some (.one ((n:Int)%7)))/\Cl (num n++[76]):=by decide +kernel
theorem aL4:∀n:Nat,n<8->∀m:Nat,m<6->1<=m->(gJ 0 7 (num n++[35]++num m)=none/\jP true (num n++[35]++num m)=some (.nth ((n:Int)%7) m))/\Cl (num n++[35]++num m):=by decide +kernel
theorem E8{ns:List Int}(h:ns≠[])(hn:∀n∈ns,0<=n):0<iD ns:=by
 have h0:=pL ns;rcases Int.lt_or_eq_of_le h0 with h1 | h1
 ·exact h1
 ·cases ns with
  |nil=>exact absurd rfl h
  |cons n r=>
   have z:=rT (n::r) n.toNat;rw[←h1,i6,cI] at z;simp at z
theorem Ec{ns:List Int}{n:Nat}(hn:∀z∈ns,0<=z/\z<(n:Int)):iD ns<2^n:=by
 have e:iD ns=kj (tb (iD ns)) n:=by
  refine jf (pL _) (rL _ _) λi=>?_;rw[rX];by_cases c:i<n
  ·rw[dQ c,Bool.true_and]
  ·rw[dU c,Bool.false_and,rT,c5];intro z hz;have:=hn z hz;have:¬z.toNat=i:=⋯;simpa using this
 rw[e];exact yc _ _
end KM
namespace L2
open PySem PySem.Spec PyProof.Rows PySem.SeqAt
section
variable{X:Cx}
theorem IC:io X (.builtin "isinstance") (λxs H Q=>∃(v:V) (t:Value) (C':Addr) (b:Bool),xs=[v,.ref C']/\jb X.K H v t/\PySem.W.kitOne X.K t (.ref C')=some b/\Q (.bl b) H):=by
 refine⟨λpins s σ H xs us Q I r h=>?_⟩;obtain⟨v,t,C',b,rfl,ty,e,q⟩:=h;obtain⟨u,w',rfl,r1,r2⟩:=mO r;cases r2;exact az9 I r1 ty e λtk=>⟨.bl b,H,I.tok _,rfl,q⟩
structure IsC(K:FG)(C:Addr):Prop where
 ha:PySem.W.findIn K (.ref C) "__class__"=some (some (.builtin "object.__class__"))
 hn:PySem.W.specialIn K (.builtin "object.__class__") "__get__"=some (some (.builtin "getset_descriptor.__get__"))
 htk:PySem.W.takesIn K (.builtin "object.__class__")=some true
 hm:PySem.W.mroIn K C (.type "object")=some true
theorem IsC.ty{K:FG}{C a dx:Addr}{H:Hp}{fs:List (Str×V)}(i:IsC K C)(c:Cls K C)(h:H a=some (.ins C dx fs)):jb K H (.ref a) (.ref C):=.ins h c i.ha i.hn i.htk i.hm
end
end L2
namespace KM
open PySem PySem.Spec PyProof.Rows L2
noncomputable def Mk.pl:Mk->Option Int
 |.num m=>some m
 |.wkd m=>some m
 |_=>none
noncomputable def kX(ks:List Mk):List Int:=ks.filterMap Mk.pl
noncomputable def nV(ks:List Mk):List Mk:=ks.filter λk=>k.pl.isNone
noncomputable def qG(b:Bool)(M:Int):List Mk:=if M=0 then [] else if b=true then [.wkd M] else [.num M]
noncomputable def oR(b:Bool)(ks:List Mk):List Mk:=qG b (gM (kX ks))++nV ks
theorem Ya{b:Bool}{ks:List Mk}(h:∀k∈ks,k.sp=true/\k.wk=b/\k.ok):∀m∈kX ks,0<=m/\(b=true->m<=127):=by
 intro m hm;obtain⟨k,hk,e⟩:=List.mem_filterMap.mp hm;have:=h k hk;cases k with
 |num z=>cases e;exact⟨this.2.2,λhb=>by rw[←this.2.1] at hb;cases hb⟩
 |wkd z=>cases e;exact⟨this.2.2.1,λ_=>this.2.2.2⟩
 |lst z=>cases e
 |nea z=>cases e
 |wrk=>cases e
 |nth z y=>cases e
 |one z=>cases e
 |nil=>cases e
theorem aII{ms:List Int}{n:Nat}(h:∀m∈ms,0<=m/\m<2^n):gM ms<2^n:=by
 have h0:∀m∈ms,0<=m:=λm hm=>(h m hm).1;have e:gM ms=kj (tb (gM ms)) n:=by
  refine jf (mi h0) (rL _ _) λi=>?_;rw[rX];by_cases c:i<n
  ·rw[dQ c,Bool.true_and]
  ·rw[dU c,Bool.false_and,l3 h0,c5];intro m hm;rw[nC (h m hm).2 ⋯];exact bF
 rw[e];exact yc _ _
theorem Tv{b:Bool}{ks:List Mk}(h:∀k∈ks,k.sp=true/\k.wk=b/\k.ok):∀k∈qG b (gM (kX ks)),k.sp=true/\k.wk=b/\k.ok:=by
 have hp:=Ya h;have h0:0<=gM (kX ks):=mi λm hm=>(hp m hm).1;intro k hk;unfold qG at hk;split at hk
 ·cases hk
 ·split at hk
  ·rename_i hb;rw[bU.mp hk,hb];have e:(2:Int)^7=128:=by decide
   have:=aII (n:=7) (ms:=kX ks) λm hm=>⟨(hp m hm).1,by have:=(hp m hm).2 hb;omega⟩;exact⟨rfl,rfl,h0,⋯⟩
  ·rename_i hb;rw[bU.mp hk];exact⟨rfl,by cases b with | true=>exact absurd rfl hb | false=>rfl,h0⟩
abbrev Ws(b:Bool):List (List Nat)->List Mk->Prop:=Paired λw k=>Cl w/\oB b w k
noncomputable def ik(b:Bool):Int:=if b=true then 0 else 1
noncomputable def il(b:Bool):Int:=if b=true then 7 else 31
theorem Qr(k:Mk)(ks:List Mk):kX (k::ks)=(match k.pl with | some m=>m::kX ks | none=>kX ks)/\nV (k::ks)=(match k.pl with | some _=>nV ks | none=>k::nV ks):=by
 unfold kX nV;rw[cY,List.filter_cons];cases k.pl<;>exact⟨rfl,rfl⟩
theorem Rl(b:Bool)(lo hi:Int)(w:List Nat)(ws:List (List Nat)):hG lo hi (w::ws)=(match gJ lo hi w with | some m=>m::hG lo hi ws | none=>hG lo hi ws)/\iq b lo hi (w::ws)=(match gJ lo hi w with | some _=>iq b lo hi ws | none=>match jP b w with | some k=>k::iq b lo hi ws | none=>iq b lo hi ws):=by
 unfold hG iq;rw[cY,cY];cases gJ lo hi w with
 |some m=>exact⟨rfl,rfl⟩
 |none=>exact⟨rfl,by cases jP b w<;>rfl⟩
def pT(b:Bool)(ws:List (List Nat))(ks:List Mk):Prop:=iq b (ik b) (il b) ws=nV ks/\kX ks=(hG (ik b) (il b) ws).map (λm=>if b=true then g7 m else m)/\(∀m∈hG (ik b) (il b) ws,0<m/\(b=true->m<=255))/\∀w∈ws,(gJ (ik b) (il b) w).isSome=true∨(jP b w).isSome=true
theorem vI(b:Bool):∀{ws:List (List Nat)} {ks:List Mk},Ws b ws ks->pT b ws ks
 |_,_,.nil=>⟨rfl,rfl,λm hm=>(nomatch hm),λw hw=>(nomatch hw)⟩
 |w::ws,k::ks,.cons r t=>by
  obtain⟨i1,i2,i3,i4⟩:=vI b t;have c1:=Qr k ks;have c2:=Rl b (ik b) (il b) w ws;have plain:∀(m M:Int),k.pl=some m->gJ (ik b) (il b) w=some M->(m=if b=true then g7 M else M)->(0<M/\(b=true->M<=255))->pT b (w::ws) (k::ks):=λm M e1 e2 e3 e4=>by
   unfold pT;rw[e1] at c1;rw[e2] at c2;rw[c1.1,c1.2,c2.1,c2.2];refine⟨i1,by rw[bM,←e3,←i2],λz hz=>?_,λv hv=>?_⟩
   ·rcases a9.mp hz with rfl | hz
    ·exact e4
    ·exact i3 z hz
   ·rcases a9.mp hv with rfl | hv
    ·exact .inl (by rw[e2];rfl)
    ·exact i4 v hv
  have mark:k.pl=none->gJ (ik b) (il b) w=none->jP b w=some k->pT b (w::ws) (k::ks):=λe1 e2 e3=>by
   unfold pT;rw[e1] at c1;rw[e2,e3] at c2;rw[c1.1,c1.2,c2.1,c2.2];refine⟨by rw[i1],i2,i3,λv hv=>?_⟩;rcases a9.mp hv with rfl | hv
   ·exact .inr (by rw[e3];rfl)
   ·exact i4 v hv
  cases k with
  |num m=>
   obtain⟨_,hb,hr,h0⟩:=r;subst hb;exact plain m m rfl hr rfl ⟨h0,λz=>nomatch z⟩
  |wkd m=>
   obtain⟨_,hb,M,hr,h0,hm⟩:=r;subst hb;exact plain m M rfl hr hm ⟨h0.1,λ_=>h0.2⟩
  |lst z=>exact mark rfl r.2.1 r.2.2
  |nea z=>exact mark rfl r.2.1 r.2.2
  |wrk=>exact mark rfl r.2.1 r.2.2
  |nth z y=>exact mark rfl r.2.1 r.2.2
  |one z=>exact mark rfl r.2.1 r.2.2
  |nil=>exact r.2.elim
theorem Wa{b:Bool}{ws:List (List Nat)}{ks:List Mk}{l:List Nat}(h:Ws b ws ks)(hl:eY 44 l=ws):ni b (ik b) (il b) l=oR b ks:=by
 obtain⟨i1,i2,i3,_⟩:=vI b h;have hz:∀m∈hG (ik b) (il b) ws,0<=m:=λm hm=>bZ (i3 m hm).1;unfold ni oR;rw[hl,i1,i2];congr 1;cases b with
 |false=>
  have e:(hG (ik false) (il false) ws).map (λm=>if false=true then g7 m else m)=hG (ik false) (il false) ws:=List.map_id'' (λ_=>rfl) _;rw[e];rfl
 |true=>
  have e:gM ((hG (ik true) (il true) ws).map (λm=>if true=true then g7 m else m))=g7 (gM (hG (ik true) (il true) ws)):=(Gj hz).symm;rw[e];unfold kW qG;by_cases c:gM (hG (ik true) (il true) ws)=0
  ·rw[if_pos c,c];rfl
  ·have c2:¬g7 (gM (hG (ik true) (il true) ws))=0:=λz=>c (by
    rw[Gj hz] at z;have h0:∀m∈(hG (ik true) (il true) ws).map g7,0<=m:=λm hm=>by
     obtain⟨y,hy,rfl⟩:=bH.mp hm;exact (mW (hz y hy) 0).1
    rw[La hz];intro m hm;have:=(La h0).mp z (g7 m) (bH.mpr ⟨m,hm,rfl⟩);exact absurd this (Gp (i3 m hm).1 ((i3 m hm).2 rfl)).1)
   rw[if_neg c,if_neg c2];rfl
theorem none_of{H H':Hp}(s:Same H H'){p:Addr}(h:H' p=none):H p=none:=by
 cases e:H p with
 |none=>rfl
 |some o=>rw[s _ _ e] at h;cases h
theorem uu:∀(ws:List (List Nat)),(∀w∈ws,w.length<=8)->(gR 44 ws).length<=9*ws.length
 |[],_=>bK _
 |[w],h=>by
  have:=h w (bW ..);show w.length<=9;omega
 |w::v::ws,h=>by
  have ih:=uu (v::ws) λz hz=>h z (bP _ hz);have:=h w (bW ..);show (w++44::gR 44 (v::ws)).length<=_;rw[a8,bQ,bQ];omega
theorem Ws.cl{b:Bool}:∀{ws:List (List Nat)} {ks:List Mk},Ws b ws ks->∀w∈ws,Cl w
 |_,_,.nil,w,hw=>nomatch hw
 |_,_,.cons r t,w,hw=>by
  rcases a9.mp hw with rfl | hw
  ·exact r.1
  ·exact Ws.cl t w hw
theorem Hw{b:Bool}{ws:List (List Nat)}{ks:List Mk}(h:Ws b ws ks)(hne:ws≠[])(hn:ws.length<=20):eY 44 (gR 44 ws)=ws/\gY b (ik b) (il b) (gR 44 ws):=by
 have hs:=pH 44 ws hne λw hw=>(h.cl w hw).1.1;have hl:=uu ws λw hw=>(h.cl w hw).2.2;refine⟨hs,⋯,by rw[hs];omega,?_,?_⟩
 ·rw[hs];exact (vI b h).2.2.2
 ·rw[hs];exact bV (List.length_filterMap_le ..) hn
theorem Paired.at{α β:Type}{F:α->β->Prop}:∀{l:List α} {r:List β} {i:Nat} {a:α},Paired F l r->l[i]? =some a->∃b,r[i]? =some b/\F a b
 |_,_,_,_,.nil,e=>by simp at e
 |_,_,0,_,.cons h _,e=>by
  have:=bG e;subst this;exact⟨(),h⟩
 |_,_,i+1,_,.cons _ t,e=>Paired.at (i:=i) t e
noncomputable def rt(x:Nat×Nat):List Nat:=if x.1=x.2 then num x.1 else num x.1++45::num x.2
theorem Wu{x:Int}(h0:0<=x){n:Nat}(h:∀i,tb x i=true->i<n):x<2^n:=by
 have e:kj (tb x) n=x:=jf (rL _ _) h0 λi=>by
  rw[rX];cases c:tb x i
  ·simp
  ·simp[h i c]
 rw[←e];exact yc _ _
noncomputable def nW(b:Bool)(x:Nat×Nat):Mk:=if b=true then .wkd (g7 (jt x.1 x.2 1)) else .num (jt x.1 x.2 1)
theorem KR{lo hi:Int}{x:Nat×Nat}(h0:0<=lo)(h1:lo<=x.1)(h2:x.1<=x.2)(h3:(x.2:Int)<=hi)(h4:hi<=63):kq lo hi (rt x) (ij x.1 x.2 1):=by
 unfold rt;by_cases c:x.1=x.2
 ·rw[if_pos c,←c,EC];exact i1 (a:=(x.1:Int)) h0 h1 ⋯ h4
 ·rw[if_neg c];exact i2 (a:=(x.1:Int)) (b:=(x.2:Int)) h0 h1 ⋯ h3 h4
theorem qV{b:Bool}{x:Nat×Nat}(h1:ik b<=x.1)(h2:x.1<=x.2)(h3:(x.2:Int)<=il b):Cl (rt x)/\oB b (rt x) (nW b x):=by
 cases b with
 |true=>
  have t:=KR (lo:=0) (hi:=7) (x:=x) (by decide) h1 h2 h3 (by decide);have hin:=t.2.2.1;have hlt:=Ec (n:=8) (ns:=ij x.1 x.2 1) (λz hz=>by have:=hin z hz;omega);have e256:(2:Int)^8=256:=by decide
  exact⟨t.2.1,rfl,_,t.1,⟨E8 t.2.2.2.1 (λn hn=>(hin n hn).1),⋯⟩,rfl⟩
 |false=>
  have t:=KR (lo:=1) (hi:=31) (x:=x) (by decide) h1 h2 h3 (by decide);exact⟨t.2.1,rfl,t.1,E8 t.2.2.2.1 (λn hn=>by have:=(t.2.2.1 n hn).1;omega)⟩
theorem IF{α:Type}{p q:α->Bool}:∀{l:List α},(∀x∈l,p x=q x)->l.any p=l.any q
 |[],_=>rfl
 |x::r,h=>by rw[cI,cI,h x (bW ..),IF λy hy=>h y (bP _ hy)]
theorem JI{b:Bool}{ks:List Mk}(h:∀k∈ks,k.sp=true/\k.wk=b/\k.ok):∀k∈oR b ks,k.sp=true/\k.wk=b/\k.ok:=λk hk=>by
 rcases b8.mp hk with z | z
 ·exact Tv h k z
 ·exact h k ((List.mem_filter.mp z).1)
end KM
namespace L2
open PySem PySem.Spec PyProof.Rows
section
variable{X:Cx}{C:Addr}{m:Str}{k k':Nat}{ps:List Str}{sp:Sp}{o:Expr}{ta:TE}{apos pos:Pos}
theorem Be{pl:Sem Bool}(c:Cls X.K C)(D:fV X.prog X.w X.K X.mg X.base C m k ps sp)(hr:Room k' X.A)(ho:E X o ta)(hk:k<=k':=by decide)
  (ht:eval (.Call (.Attribute o m apos) [] [] pos) X.env=(do
   let ov ←eval o X.env
   standAt apos.atName
   let (f,first) ←holding [ov] (getMethod ov m pl)
   callWith pos f first (backTo pos (starEach [] X.env)) (backToKw pos (keywordEach [] X.env))):=by rfl):E X (.Call (.Attribute o m apos) [] [] pos) (nT C m sp [] E0 ta iP):=by
 obtain⟨f,fd,F,hb,hm⟩:=D.ex;exact⟨Yq ho.h c hm F (hr.mono hk) hb .nil ny ht⟩
variable{body:List Stmt}{tb:TS}{h:ExceptHandler}{hs:List ExceptHandler}
theorem Zf(hb:Ss X.nox body tb):S X (.Try body (h::hs) [] [] pos) tb:=by
 refine⟨λpins s σ H D I hw=>?_⟩;refine wpAny_Try_except (dM (hb.h pins s σ H D (I.wish _) hw) (λf s1 q=>?_) λe s1 hx=>False.elim hx);cases f with
 |next=>exact wpAny_execs_nil q.unwish
 |ret v=>exact q.unwish
 |brk=>exact q.unwish
 |cont=>exact q.unwish
end
section
variable{js:List Nat}{σ:St}{tt:TT}{te:TE}{Q:VK}{H1:Hp}
theorem axE{K K':FG}{a:Addr}{xs:List V}(R:Addr->Nat->List V->Hp->Prop)(hm:∀D i l H l',R D i l H->R D i l (upd H D (.lst l')))(hS:∀D i l H H',Same H H'->R D i l H->R D i l H')(hn:xs.length<=sizeLine)(h0:∀D,H1 D=none->R D 0 [] H1)(hq:SqL K H1 a xs)
  (hs:∀(i:Nat) (x:V) (l:List V) (D:Addr) (H2:Hp) (E:V->Hp->Prop) (F:Hp->Prop),xs[i]? =some x->R D i l H2->H1 D=none->Same H1 H2->H2 D=some (.lst l)->(∀y H5,Same H2 H5->R D (i+1) (l++[y]) H5->E y H5)->(∀H4,Same H2 H4->R D (i+1) l H4->F H4)->
   tt (some (.int i)::some x::gZ js σ) H2 λb H4=>if b=true then te (some (.int i)::some x::gZ js σ) H4 E else F H4)
  (hd:∀(D:Addr) (H2:Hp) (l:List V),R D xs.length l H2->H1 D=none->Same H1 H2->H2 D=some (.lst l)->Q (.ref D) H2):
  qZ (mR K a) 2 js (oC K' 2 (nO (iV 0) (nO (iV 1) rp))) σ tt te Q H1:=by
 intro D hD;refine⟨λi m H2=>m=xs.length-i/\i<=xs.length/\Same H1 H2/\∃l,H2 D=some (.lst l)/\l.length<=i/\R D i l H2,⟨xs.length,by simp,bK _,eJ hD _,[],eF,aX _,hm _ _ _ _ _ (h0 D hD)⟩,?_⟩;rintro i m H2 ⟨rfl,hi,s2,l,h2,hll,hR⟩;by_cases hlt:i<xs.length
 ·refine .inr ⟨⟨xs,xs[i],s2.seq hq,by simp[hlt]⟩,λv H3 y τ hτ=>?_⟩;obtain⟨T,rfl,hT,ev⟩:=y;obtain⟨x,hx,rfl⟩:=ev xs (s2.seq hq);have sT:=eJ hT (.tup [.int i,x]);have s3:=s2.trans sT;have h3:=sT _ _ h2;obtain⟨t0,t1,rfl⟩:∃t0 t1,τ=[t0,t1]:=by
   match τ,hτ with
   |[a,b],_=>exact⟨a,b,rfl⟩
  have h:=hs i x l D _ (λy H5=>∃ys,H5 D=some (.lst ys)/\ys.length<sizeLine/\∃m',m'<xs.length-i/\(m'=xs.length-(i+1)/\i+1<=xs.length/\Same H1 (upd H5 D (.lst (ys++[y])))/\∃l,(upd H5 D (.lst (ys++[y]))) D=some (.lst l)/\l.length<=i+1/\R D (i+1) l (upd H5 D (.lst (ys++[y]))))) (λH4=>∃m',m'<xs.length-i/\(m'=xs.length-(i+1)/\i+1<=xs.length/\Same H1 H4/\∃l,H4 D=some (.lst l)/\l.length<=i+1/\R D (i+1) l H4)) hx (hS _ _ _ _ _ sT hR) hD s3 h3
   (λz H5 s5 r5=>by
    refine⟨l,s5 _ _ h3,cQ hll (bC hlt hn),xs.length-(i+1),⋯,rfl,hlt,λb o hb=>?_,l++[z],eF,by rw[a8,b9];omega,hm _ _ _ _ _ r5⟩;rw[eW (gT hb hD)];exact s5 _ _ (s3 _ _ hb))
   (λH4 s4 r4=>⟨xs.length-(i+1),⋯,rfl,hlt,s3.trans s4,l,s4 _ _ h3,⋯,r4⟩)
  exact⟨T,[.int i,x],rfl,SqT.of eF,rfl,.int i,[x],rfl,x,[],rfl,rfl,⟨[some (.int i),some x],rfl,rfl⟩,h⟩
 ·have e:i=xs.length:=⋯;subst e;exact .inl ⟨⟨xs,s2.seq hq,rfl⟩,hd D H2 l hR hD s2 h2⟩
end
def KD(K:FG)(a:Addr)(kvs:List (Int×V)):Prop:=
 ∃(es:Array DictEntry) (ep:Nat) (vs:List (fG×Value)),K.lookup a=some ⟨.type "dict",none,.dict es ep,#[]⟩/\KV (kvs.map λx=>((Sum.inl x.1:fG),x.2)) vs/\(vs.map (·.1)).Nodup/\∀(P:Program) (w:World),KeysOf (i8 P w) es/\PySem.Pairs (i8 P w) es.toList vs
def MN(K:FG)(td ty:TE):TE:=λσ H Q=>td σ H λx H1=>ty σ H1 λy H2=>∃a kvs k v,x=.ref a/\KD K a kvs/\y=.int k/\kvs.lookup k=some v/\Q v H2
theorem Iy{k:Int}{v:V}:∀{kvs:List (Int×V)} {vs:List (fG×Value)},KV (kvs.map λx=>((Sum.inl x.1:fG),x.2)) vs->kvs.lookup k=some v->∃w',valueAt vs (Sum.inl k:fG)=some w'/\RelV v w'
 |[],_,_,h=>by cases h
 |(k0,v0)::r,_,.cons (b:=(k1,w1)) h t,hl=>by
  obtain⟨e1,e2⟩:=h;have e1:(Sum.inl k0:fG)=k1:=e1;subst e1;rw[c9] at hl;unfold valueAt;by_cases c:k=k0
  ·subst c;rw[show (k==k)=true from beq_self_eq_true k] at hl;cases hl;refine⟨w1,?_,e2⟩;rw[List.find?_cons_of_pos (by simp)];rfl
  ·rw[show (k==k0)=false from beq_false_of_ne c] at hl;obtain⟨w',h1,h2⟩:=Iy t hl;refine⟨w',?_,h2⟩;rw[List.find?_cons_of_neg (by simp;exact λz=>c z.symm)];exact h1
section
variable{X:Cx}{o i:Expr}{td ty:TE}{pos:Pos}
theorem yQ(ho:E X o td)(hi:E X i ty)(hs:rM i:=by intro _ _;rfl):E X (.Subscript o i pos) (MN X.K td ty):=by
 refine⟨λpins s σ H Q I h=>?_⟩;refine FB PySem.F.slot_dict_getitem.lookup hs (eX (ho.h pins s σ H _ I h) λu s1 ⟨x,H1,I1,rx,q1⟩=>eX (hi.h pins s1 σ H1 _ I1 q1) λiv s2 ⟨y,H2,I2,ry,a,kvs,k,v,ex,hk,ey,l,q2⟩=>?_);subst ex;subst ey;obtain rfl:u=Value.ref a:=rx;obtain⟨es,ep,vs,lk,kv,nd,kp⟩:=hk;obtain⟨k1,k2⟩:=kp X.prog X.w;have dd:s2.heap.DictOf (i8 X.prog X.w) a vs:=⟨_,es,ep,I2.kIn _ _ lk,⟨rfl,rfl,rfl⟩,rfl,k1,k2,nd⟩
 obtain⟨w',hw,rw'⟩:=Iy kv l;exact⟨dd.typeIs,wpAny_getItem_of (nL (k:=Sum.inl k) ry) dd.mapOf hw ⟨v,H2,I2.tok _,rw',q2⟩⟩
end
end L2
namespace KM
open PySem PySem.Spec PyProof.Rows L2
theorem Mn{ks:List Mk}{l f:Int}(h:Lf l f)(o:∀k∈ks,k.ok):0<=ll ks l f:=mi λm hm=>by
 obtain⟨k,hk,rfl⟩:=bH.mp hm;exact M5 (o k hk) h
def DV(c:Cs)(H:Hp)(v:V):Ko->Prop
 |none=>v=.non
 |some ks=>∃p qs,v=.ref p/\H p=some (.lst (qs.map V.ref))/\Ft (MkAt c H) qs ks/\∀k∈ks,k.ok
theorem DV.keep{c:Cs}{H H':Hp}(s:Same H H'){v:V}:∀{ko:Ko},DV c H v ko->DV c H' v ko
 |none,h=>h
 |some _,⟨p,qs,e,h1,h2,h3⟩=>⟨p,qs,e,s _ _ h1,h2.keepM s.keep,h3⟩
noncomputable def jO(ko:Ko)(a l f:Int):Int:=match ko with
 |none=>a
 |some ks=>Builtin.bitOr a (ll ks l f)
noncomputable def iB(kd kw:Ko)(l f:Int):Int:=if kd.isNone=true/\kw.isNone=true then 2*2^l.toNat-2 else jO kw (jO kd 0 l f) l f
def DT(b:Bool)(t:List Nat)(ko:Ko):Prop:=(32∉t/\t≠[])/\gY b (ik b) (il b) t/\match ko with
 |none=>t=[42]
 |some ks=>t≠[42]/\(∀k∈ks,k.sp=true/\k.wk=b/\k.ok)/\ni b (ik b) (il b) t=oR b ks
noncomputable def gO(b:Bool):Ko->Ko
 |none=>none
 |some ks=>some (oR b ks)
theorem vK{c d:Nat}(hcd:c≠d):∀{ws:List (List Nat)},(∀w∈ws,c∉w)->c∉gR d ws
 |[],_=>cA
 |[w],h=>h w (bW ..)
 |w::v::ws,h=>by
  show c∉w++d::gR d (v::ws);rw[b8,a9,not_or,not_or];exact⟨h w (bW ..),hcd,vK hcd λz hz=>h z (bP _ hz)⟩
theorem El:∀{ws:List (List Nat)},ws≠[]->(∀w∈ws,w≠[])->∀d,gR d ws≠[]
 |[],h,_,_=>absurd rfl h
 |[w],_,h,_=>h w (bW ..)
 |w::v::ws,_,h,d=>λe=>by
  have e:w++d::gR d (v::ws)=[]:=e;rw[List.append_eq_nil_iff] at e;cases e.2
theorem Jc{b:Bool}{ws:List (List Nat)}{ks:List Mk}(h:Ws b ws ks)(hne:ws≠[])(hn:ws.length<=20)(hs:∀w∈ws,w≠[42])(ho:∀k∈ks,k.sp=true/\k.wk=b/\k.ok):DT b (gR 44 ws) (some ks):=by
 have w:=Hw h hne hn;refine⟨⟨vK (by decide) λx hx=>(h.cl x hx).1.2,El hne (λx hx=>(h.cl x hx).2.1) 44⟩,w.2,λe=>?_,ho,Wa h w.1⟩;have e1:=w.1;rw[e] at e1;have e2:eY 44 [42]=[[42]]:=rfl;rw[e2] at e1;exact hs [42] (by rw[←e1];exact bU.mpr rfl) rfl
theorem lN(b:Bool):DT b [42] none:=by
 refine⟨by decide,?_,rfl⟩;have c:Cl [42]/\oB b [42] (if b=true then .wkd 127 else .num 4294967294):=by
  cases b with
  |true=>exact⟨by decide,rfl,255,by decide +kernel,by decide,by decide +kernel⟩
  |false=>exact⟨by decide,rfl,by decide +kernel,by decide⟩
 exact (Hw (.cons c .nil:Ws b [[42]] _) (cE _ _) (by show 1<=20;decide)).2
structure FT(lo hi:Int)(t:List Nat)(m:Int):Prop where
 ok:Kt lo hi t
 len:t.length<=300
 is:gM (lh lo hi t)=m
 sp:32∉t
 ne:t≠[]
 nn:0<=m
theorem HE{lo hi:Int}{ws:List (List Nat)}{nss:List (List Int)}(h:Paired (kq lo hi) ws nss)(hne:ws≠[])(hn:ws.length<=20):FT lo hi (gR 44 ws) (iD nss.flatten):=by
 have all:∀{ws:List (List Nat)} {nss:List (List Int)},Paired (kq lo hi) ws nss->(∀w∈ws,Cl w/\(gJ lo hi w).isSome=true)/\(ws.map λw=>(gJ lo hi w).getD 0)=nss.map iD:=by
  intro ws nss h;induction h with
  |nil=>exact⟨λw hw=>(nomatch hw),rfl⟩
  |cons r t ih=>
   refine⟨λw hw=>?_,?_⟩
   ·rcases a9.mp hw with z | z
    ·subst z;exact⟨r.2.1,by rw[r.1];rfl⟩
    ·exact ih.1 w z
   ·rw[bM,bM,ih.2,r.1];rfl
 have a:=all h;have hs:=pH 44 ws hne λw hw=>(a.1 w hw).1.1.1;have hl:=uu ws λw hw=>(a.1 w hw).1.2.2;refine⟨⟨by rw[hs];omega,by rw[hs];exact λw hw=>(a.1 w hw).2⟩,⋯,?_,vK (by decide) λx hx=>(a.1 x hx).1.1.2,El hne (λx hx=>(a.1 x hx).1.2.1) 44,pL _⟩;unfold lh;rw[hs,a.2];have nn:∀m∈nss.map iD,0<=m:=λm hm=>by
  obtain⟨z,_,rfl⟩:=bH.mp hm;exact pL _
 refine jf (mi nn) (pL _) λi=>?_;rw[l3 nn,rT,List.any_map,List.any_flatten];exact IF λz _=>rT z i
end KM
namespace L2
open PySem PySem.Spec PyProof.Rows
structure RoomQ(k:Nat)(A:Around):Prop where
 dp:A.depth+3*k+5<recursionLimit
 un:A.units+16*k+200<cLine
theorem Room.q{k:Nat}{A:Around}(r:Room k A):RoomQ k A:=⟨r.dp,r.un⟩
theorem RoomQ.units{k:Nat}{A:Around}(r:RoomQ k A):A.units+64<cLine:=by have:=r.un;omega
end L2
namespace L2
open PySem PySem.Spec PyProof.Rows PySem.SeqAt
end L2
namespace L2
open PySem PySem.Spec PyProof.Rows PySem.SeqAt
theorem aRV{X:Cx}(hc:X.calm=true:=by rfl):io X (.builtin "max") (λxs H Q=>∃(p:Addr) (is:List Int),xs=[.ref p]/\SqL X.K H p (is.map V.int)/\0<is.length/\∀M∈is,(∀a∈is,a<=M)->Q (.int M) H):=by
 refine⟨λpins s σ H xs us Q I r h=>?_⟩;obtain⟨p,is,rfl,hq,hpos,q⟩:=h;obtain⟨u,rfl,r1⟩:=jr r;cases r1;obtain⟨its,rv,pl,_⟩:=I.list hq;have hi:=pO rv;obtain⟨ys,hy⟩:=hi.allInts.items;have ei:is=ys.toList.map (·.1):=by
  rw[←nums_intItems,←hy];exact hi.numsOf.symm
 have ln:is.length=ys.size:=by rw[ei,aY,dD]
 have best:=argBest_gt (numAt ys) (ys.size-1);refine max_intList (I.ok.hd hc) (by rw[←hy];exact pl.isList) ⋯ λv h' tk hv hk=>?_;obtain⟨t,rfl⟩:=intItems_at hv;refine⟨.int _,H,I.kept hk,⟨()⟩,q _ ?_ λa ha=>?_⟩
 ·rw[numAt_eq,←ei];exact getD_mem (by have:=best.1;omega)
 ·rw[ei] at ha;obtain⟨j,hj,rfl⟩:=mem_getD ha;rw[←ei] at hj;rw[←numAt_eq];exact best.2 j ⋯
section
variable{X:Cx}{m:Str}{C:Addr}{k:Nat}{ps:List Str}{sp:Sp}{o:Expr}{ta:TE}{pos apos:Pos}
theorem j7{x:Str}{e:Expr}{es:List Expr}{tA:TA}{p pos:Pos}(D:Df X.prog X.w X.K X.mg X.base x k ps sp)(hr:Room k X.A)(ha:As X (e::es) tA)(hg:Gl X x:=by rfl)
  (hdb:(x==("__debug__":Str))=false:=by decide) (he:starEach (e::es) X.env=(false,eval e X.env)::starEach es X.env:=by rfl) (hpl:(backTo pos (starEach es X.env)).any (·.1)=false:=by rfl):
  E X (.Call (.Name x p) (e::es) [] pos) (mK sp [] E0 tA):=eD D hr ha (aX _) hg hdb he hpl
end
section
variable{X:Cx}
theorem E.as{e:Expr}{t u:TE}(h:E X e t)(w:∀σ H Q,u σ H Q->t σ H Q):E X e u:=⟨λpins s σ H Q I z=>h.h pins s σ H Q I (w σ H Q z)⟩
theorem JG{x:Str}{k k':Nat}{sp:Sp}{p pos:Pos}(D:Df X.prog X.w X.K X.mg X.base x k [] sp)(hr:Room k' X.A)(hk:k<=k':=by decide)(hg:Gl X x:=by rfl)
  (hdb:(x==("__debug__":Str))=false:=by decide):E X (.Call (.Name x p) [] [] pos) (mK sp [] E0 iP):=by
 obtain⟨f,fd,F,hb,hm,kp⟩:=D.ex;exact⟨aCF F (hr.mono hk) hg hm kp hb .nil ny hdb⟩
end
theorem BZ{us:List Value}(h:us.length=0):us=[]:=List.eq_nil_of_length_eq_zero h
theorem MH{K:FG}{H H':Hp}{v:V}{t:Value}(s:Same H H')(h:jb K H v t):jb K H' v t:=by
 cases h with
 |non=>exact .non
 |bl x=>exact .bl x
 |int i=>exact .int i
 |str x=>exact .str x
 |flt x=>exact .flt x
 |lst e=>exact .lst (s _ _ e)
 |frz e=>exact .frz (s _ _ e)
 |tup e=>exact .tup (s _ _ e)
 |dK e=>exact .dK (s _ _ e)
 |dT e=>exact .dT (s _ _ e)
 |ins e c a n k m=>exact .ins (s _ _ e) c a n k m
def BS(K:FG)(C:Addr)(H:Hp)(v:V)(b:Bool):Prop:=∃t,jb K H v t/\PySem.W.kitOne K t (.ref C)=some b
def BF(K:FG)(B C:Addr)(b:Bool):Prop:=IsC K C/\Cls K C/\PySem.W.kitOne K (.ref C) (.ref B)=some b
theorem BF.is{K:FG}{B C x dx:Addr}{b:Bool}{H:Hp}{fs:List (Str×V)}(f:BF K B C b)(h:H x=some (.ins C dx fs)):BS K B H (.ref x) b:=⟨_,f.1.ty f.2.1 h,f.2.2⟩
theorem BQ{H1 H':Hp}{x dx:Addr}{a b:HO}(nx:H1 x=none)(ndx:H1 dx=none)(hs:∀b' o,upd (upd H1 dx a) x b b'=some o->b'≠x->H' b'=some o):Same H1 H':=λb' o hb=>
 hs b' o (kY nx ndx _ _ hb) λe=>by rw[e,nx] at hb;cases hb
theorem Kf{α:Type}{R:α->Bool->Prop}:∀{us:List α},(∀v∈us,R v true)->∃bs,Paired R us bs/\bs.all id=true
 |[],_=>⟨[],.nil,rfl⟩
 |v::us,h=>by
  obtain⟨bs,hbs,e⟩:=Kf λu hu=>h u (bP _ hu);exact⟨true::bs,.cons (h v (bW ..)) hbs,e⟩
theorem Ei{α β:Type}{F:α->β->Prop}:∀{l:List α} {r:List β},Paired F l r->∀v∈l,∃b,F v b
 |_,_,.nil,v,h=>nomatch h
 |_,_,.cons f t,v,h=>(a9.mp h).elim (λe=>by rw[e];exact⟨_,f⟩) λz=>Ei t v z
theorem mm{α β:Type}{F:α->β->Prop}:∀{l:List α} {r:List β},Paired F l r->∀c∈r,∃u∈l,F u c
 |_,_,.nil,v,h=>nomatch h
 |_,_,.cons f t,v,h=>(a9.mp h).elim (λe=>by rw[e];exact⟨_,bW ..,f⟩) λz=>let ⟨u,hu,hf⟩:=mm t v z;⟨u,bP _ hu,hf⟩
theorem AM{X:Cx}{K:FG}(hK:X.K=K:=by rfl):io X (.builtin "isinstance") (λxs H Q=>∃(v:V) (t:Value) (C':Addr) (b:Bool),xs=[v,.ref C']/\jb K H v t/\PySem.W.kitOne K t (.ref C')=some b/\Q (.bl b) H):=hK▸IC
def Hh(t u:TS):TS:=λD σ H=>∃I:St->Hp->Prop,t {D with nx:=I} σ H/\∀σ' H',I σ' H'->u D σ' H'
theorem Qt{X:Cx}{st:Stmt}{rest:List Stmt}{t u:TS}(h1:S X st t)(h2:Ss X rest u):Ss X (st::rest) (Hh t u):=by
 refine⟨λpins s σ H D I h=>?_⟩;obtain⟨J,h,hJ⟩:=h;refine wpAny_execs_cons (eX (h1.h pins s σ H {D with nx:=J} I h) λf s1 q=>?_);cases f with
 |next=>
  obtain⟨σ',H',I',q⟩:=q;exact h2.h pins s1 σ' H' D I' (hJ _ _ q)
 |ret v=>exact q
 |brk=>exact q
 |cont=>exact q
theorem Digs.non{ds:List Int}(h:Digs ds []):ds=[]:=by cases h;rfl
noncomputable def qp(K:FG)(a b:Addr):It:=
 ⟨λi H=>∃xs ys x y,SqL K H a xs/\SqL K H b ys/\xs[i]? =some x/\ys[i]? =some y,λi H v H'=>∃T,v=.ref T/\H T=none/\∀xs ys,SqL K H a xs->SqL K H b ys->∃x y,xs[i]? =some x/\ys[i]? =some y/\H'=upd H T (.tup [x,y]),
  λi H=>∃xs ys,SqL K H a xs/\SqL K H b ys/\(xs.length=i∨ys.length=i)⟩
theorem ZO{P:Program}{w:World}{K:FG}{es:List Expr}{kk:Nat}{pos:Pos}(a b z TI TO i1 i2:Addr)(n:Nat)(ez:z=n+4)(eI:TI=n+2)(eO:TO=n+3)(e1:i1=n)(e2:i2=n+1):
  iS P w K (.Tuple es kk pos) (qp K a b) [z,TI,TO,i1,i2] z (λi h=>IsZip h z TI TO .none/\IsPair h TI (.ref i1) (.ref i2)/\(∃x y,IsPair h TO x y)/\h.IsListIter i1 a i/\h.IsListIter i2 b i/\a<n/\b<n) where
 mem:=by simp
 obj:=λi h st c hc=>by
  obtain⟨hz,hI,⟨x,y,hO⟩,⟨o1,q1,_,d1⟩,⟨o2,q2,_,d2⟩,_⟩:=st;simp only[a9,cA,or_false] at hc;rcases hc with rfl | rfl | rfl | rfl | rfl
  ·exact⟨_,hz,λv q=>by have q':Data.fields _=Data.cell v:=q;cases q'⟩
  ·exact⟨_,hI,λv q=>by have q':Data.seq _ _=Data.cell v:=q;cases q'⟩
  ·exact⟨_,hO,λv q=>by have q':Data.seq _ _=Data.cell v:=q;cases q'⟩
  ·exact⟨o1,q1,λv q=>by rw[d1] at q;cases q⟩
  ·exact⟨o2,q2,λv q=>by rw[d2] at q;cases q⟩
 keep:=λi h h' st k=>by
  obtain⟨hz,hI,⟨x,y,hO⟩,h1,h2,la,lb⟩:=st;exact⟨k _ (by simp) _ hz,k _ (by simp) _ hI,⟨x,y,k _ (by simp) _ hO⟩,h1.at λo q=>k _ (by simp) o q,h2.at λo q=>k _ (by simp) o q,la,lb⟩
 item:=by
  intro X hP hw hK hc i pins s σ H E I hf st hg;subst hP hw hK;obtain⟨xs,ys,x,y,hq,hr,hx,hy⟩:=hg;obtain⟨hz,hI,⟨x0,y0,hO⟩,h1,h2,la,lb⟩:=st;obtain⟨its,rv,p,_⟩:=I.list hq;obtain⟨its',rv',p',_⟩:=I.list hr;obtain⟨u,hu,ru⟩:=rv.get hx;obtain⟨u',hu',ru'⟩:=rv'.get hy;have D:ZipApart z TI TO i1 i2 a b:=by subst ez eI eO e1 e2;exact zipApart_new la lb
  refine wpAny_pyNext_zip_item D hz hI hO h1 h2 p.isList p'.isList (x:=u) (y:=u') (by simpa using hu) (by simpa using hu') λg ho hO1 hj1 hj2 hT hsz hk=>?_;refine⟨(),wpAny_letOwnedTupleGo_zip ho λg2 hz2 sb=>?_⟩;have lz:z<s.heap.objs.size:=aZ hz;have k2:∀c oc,c∉[z,TI,TO,i1,i2]->s.heap.get? c=some oc->g2.get? c=some oc:=λc oc hc q=>by
   simp only[a9,cA,or_false,not_or] at hc;exact (sb.2 c hc.1).trans (hk c oc hc.1 hc.2.2.1 hc.2.2.2.1 hc.2.2.2.2 q)
  have hTz:s.heap.objs.size≠z:=Nat.ne_of_gt lz;have hT2:g2.get? s.heap.objs.size=some {cls:=.type "tuple",data:=.seq #[u,u']}:=(sb.2 _ hTz).trans hT;have hn:=I.hok.fresh (aX s.heap.objs.size);have I2:Inv X pins σ (upd H s.heap.objs.size (.tup [x,y])) {s with heap:=g2,toks:=s.toks}:=I.turnT k2 hf (aX _) ⟨by show 2<=sizeLine;decide,[u,u'],.cons ru (.cons ru' .nil),⟨_,hT2,rfl,()⟩⟩;refine⟨.ref s.heap.objs.size,_,I2,rfl,⟨s.heap.objs.size,rfl,hn,λxs' ys' e e'=>⟨x,y,by rw[I.list_inj e hq];exact hx,by rw[I.list_inj e' hr];exact hy,rfl⟩⟩,⟨hz2,?_,⟨_,_,(sb.2 _ D.TOz).trans hO1⟩,hj1.at λo q=>(sb.2 _ D.i1z).trans q,hj2.at λo q=>(sb.2 _ D.i2z).trans q,la,lb⟩,λc hc=>?_⟩
  ·exact (sb.2 _ D.TIz).trans (hk _ _ D.TIz D.TITO D.TIi1 D.TIi2 hI)
  have hclt:c<s.heap.objs.size:=by
   have m1:=aZ hI;have m2:=aZ hO;obtain⟨_,q1,_⟩:=h1;obtain⟨_,q2,_⟩:=h2;simp only[a9,cA,or_false] at hc;rcases hc with rfl | rfl | rfl | rfl | rfl
   ·exact lz
   ·exact m1
   ·exact m2
   ·exact aZ q1
   ·exact aZ q2
  rw[eW (bE hclt)];exact (hf c hc).1
 done:=by
  intro X hP hw hK hc i pins s σ H E I hf st hg;subst hP hw hK;obtain⟨xs,ys,hq,hr,hx⟩:=hg;obtain⟨hz,hI,⟨x0,y0,hO⟩,h1,h2,la,lb⟩:=st;obtain⟨its,rv,p,_⟩:=I.list hq;obtain⟨its',rv',p',_⟩:=I.list hr;have l1:=rv.length;have l2:=rv'.length;have D:ZipApart z TI TO i1 i2 a b:=by subst ez eI eO e1 e2;exact zipApart_new la lb
  refine wpAny_pyNext_zip_end (I.ok.hd hc) D hz hI hO h1 h2 p.isList p'.isList (hx.imp (λe=>by simp;omega) λe=>by simp;omega) λh' hk=>⟨rfl,?_⟩;exact I.turnN (ch:=[z,TI,TO,i1,i2]) (t':=s.toks) (λc oc hc q=>by
   simp only[a9,cA,or_false,not_or] at hc;exact hk c oc hc.1 hc.2.2.1 hc.2.2.2.1 hc.2.2.2.2 q) hf
 self:=λ_ _ _ _ _ st h=>wpAny_pyIter_zip st.1 h
section
variable{X:Cx}{es:List Expr}{kk:Nat}{tpos:Pos}
def ZE(K:FG)(tl tr:TE):TI:=λσ H R=>tl σ H λx H1=>tr σ H1 λy H2=>∃a b,x=.ref a/\y=.ref b/\(∃xs,SqL K H2 a xs)/\(∃ys,SqL K H2 b ys)/\R (qp K a b) H2
theorem iZ{l r:Expr}{tl tr:TE}{p pos:Pos}(hm:X.mg "zip"=none)(hl:E X l tl)(hr:E X r tr)(hg:Gl X "zip":=by rfl)(hs:starEach [l,r] X.env=[(false,eval l X.env),(false,eval r X.env)]:=by rfl)(hs2:starEach [r] X.env=[(false,eval r X.env)]:=by rfl):
  Il X (.Tuple es kk tpos) (.Call (.Name "zip" p) [l,r] [] pos) (ZE X.K tl tr):=by
 refine⟨λpins s σ H R I h=>?_⟩;have hA:PA X [l,r] (jc tl (jc tr iP)):=kZ hl.h (kZ hr.h lH hs2) (by rw[hs,hs2]);refine Call_ (nz I hg hm boot_zip (PyProof.Rows.callWith_type1 (eX (hA pos pins s σ H (λvs H1=>match vs with | [x,y]=>∃a b,x=.ref a/\y=.ref b/\(∃xs,SqL X.K H1 a xs)/\(∃ys,SqL X.K H1 b ys)/\R (qp X.K a b) H1 | _=>False) I ?_) λus s1 ⟨vs,H1,I1,r1,q1⟩=>?_) (by rw[hs,hs2]) (by rw[hs2];rfl)))
 ·exact h
 match vs,q1,r1 with
 |[x,y],q1,r1=>?_
 obtain⟨a,b,rfl,rfl,⟨xs,hq⟩,⟨ys,hq'⟩,q⟩:=q1;obtain⟨u,u',rfl,rx,ry⟩:=mO r1;cases rx;cases ry;obtain⟨its,rv,pl,hz⟩:=I1.list hq;obtain⟨its',rv',pl',hz'⟩:=I1.list hq';have la:a<s1.heap.objs.size:=by obtain⟨o,q,_⟩:=pl.isList;exact aZ q
 have lb:b<s1.heap.objs.size:=by obtain⟨o,q,_⟩:=pl'.isList;exact aZ q
 refine call_zip_2 pl.isList pl'.isList λh' hzp hI hO hi1 hi2 hsz hk=>?_;refine wpAny_pyIter_zip hzp ?_;have I2:Inv X pins σ H1 {s1 with heap:=h'}:=I1.kept (t':=s1.toks) hk;refine⟨_,_,_,_,H1,rfl,I2,ZO a b _ _ _ _ _ s1.heap.objs.size rfl rfl rfl rfl rfl,⟨hzp,hI,⟨_,_,hO⟩,hi1,hi2,la,lb⟩,λc hc=>?_,q⟩;have hb2:s1.heap.objs.size<=c:=by
  simp only[a9,cA,or_false] at hc;rcases hc with rfl | rfl | rfl | rfl | rfl
  ·exact dB _ _
  ·exact dB _ _
  ·exact dB _ _
  ·exact aX _
  ·exact dB _ _
 exact I1.fpOk hb2 (I1.hok.fresh hb2)
variable{js:List Nat}{σ:St}{tt:TT}{te:TE}{Q:VK}{H1:Hp}
theorem xm{K K':FG}{a b:Addr}{xs ys:List V}(R:Nat->List V->Prop)(hn:xs.length<=sizeLine)(he:ys.length=xs.length)(h0:R 0 [])(hq:SqL K H1 a xs)(hq':SqL K H1 b ys)
  (hs:∀(i:Nat) (x y:V) (l:List V) (D:Addr) (H2:Hp) (E:V->Hp->Prop) (F:Hp->Prop),xs[i]? =some x->ys[i]? =some y->R i l->H1 D=none->Same H1 H2->H2 D=some (.lst l)->(∀z H5,Same H2 H5->R (i+1) (l++[z])->E z H5)->(∀H4,Same H2 H4->R (i+1) l->F H4)->
   tt (some x::some y::gZ js σ) H2 λb H4=>if b=true then te (some x::some y::gZ js σ) H4 E else F H4)
  (hd:∀(D:Addr) (H2:Hp) (l:List V),R xs.length l->H1 D=none->Same H1 H2->H2 D=some (.lst l)->Q (.ref D) H2):
  qZ (qp K a b) 2 js (oC K' 2 (nO (iV 0) (nO (iV 1) rp))) σ tt te Q H1:=by
 intro D hD;refine⟨λi m H2=>m=xs.length-i/\i<=xs.length/\Same H1 H2/\∃l,H2 D=some (.lst l)/\l.length<=i/\R i l,⟨xs.length,by simp,bK _,eJ hD _,[],eF,aX _,h0⟩,?_⟩;rintro i m H2 ⟨rfl,hi,s2,l,h2,hll,hR⟩;by_cases hlt:i<xs.length
 ·refine .inr ⟨⟨xs,ys,xs[i],ys[i],s2.seq hq,s2.seq hq',by simp[hlt],by simp[he,hlt]⟩,λv H3 yl τ hτ=>?_⟩;obtain⟨T,rfl,hT,ev⟩:=yl;obtain⟨x,y,hx,hy,rfl⟩:=ev xs ys (s2.seq hq) (s2.seq hq');have sT:=eJ hT (.tup [x,y]);have s3:=s2.trans sT;have h3:=sT _ _ h2;obtain⟨t0,t1,rfl⟩:∃t0 t1,τ=[t0,t1]:=by
   match τ,hτ with
   |[a,b],_=>exact⟨a,b,rfl⟩
  refine⟨T,[x,y],rfl,SqT.of eF,rfl,x,[y],rfl,y,[],rfl,rfl,⟨[some x,some y],rfl,rfl⟩,?_⟩;refine hs i x y l D _ _ _ hx hy hR hD s3 h3 (λz H5 s5 r5=>?_) (λH4 s4 r4=>?_)
  ·refine⟨l,s5 _ _ h3,cQ hll (bC hlt hn),xs.length-(i+1),⋯,rfl,hlt,λb o hb=>?_,l++[z],eF,by rw[a8,b9];omega,r5⟩;rw[eW (gT hb hD)];exact s5 _ _ (s3 _ _ hb)
  ·exact⟨xs.length-(i+1),⋯,rfl,hlt,s3.trans s4,l,s4 _ _ h3,⋯,r4⟩
 ·have e:i=xs.length:=⋯;subst e;exact .inl ⟨⟨xs,ys,s2.seq hq,s2.seq hq',.inl rfl⟩,hd D H2 l hR hD s2 h2⟩
end
theorem Lb{prog:Program}{w:World}{A:Around}{E:Value->Shared->Prop}{s:Shared}{p q sl:Addr}{its jts:List Value}{n m:Nat}{oq:Obj}{vl vu:Value}{lo hi:Option Int}{Q:Unit->Shared->Prop}(ep:s.heap.get? p=some {cls:=.type "list",data:=.seq its.toArray n})
  (eq_:s.heap.get? q=some oq) (cq:oq.cls=.type "list") (dq:oq.data=.seq jts.toArray m) (ne:p≠q) (es:s.heap.IsSliceOf sl vl vu .none) (pl:IsPart vl lo) (pu:IsPart vu hi) (hz:its.length+jts.length<=sizeLine)
  (h:Q () {s with heap:=s.heap.update p (Obj.mapSeq λxs=>xs.extract 0 (HT.sIx its.length 0 lo)++jts.toArray++xs.extract (max (HT.sIx its.length 0 lo) (HT.sIx its.length its.length hi)) xs.size)}):
  wpAny (model prog w) A (setItem (.ref p) (.ref sl) (.ref q)) Q E s:=by
 have tp:s.TypeIs (.ref p) "list":=⟨_,ep,rfl⟩;have tq:s.TypeIs (.ref q) "list":=⟨_,eq_,cq⟩;obtain⟨os,e1,c1,d1⟩:=es;have ts:s.TypeIs (.ref sl) "slice":=⟨os,e1,c1⟩;obtain⟨b1,b2,b3⟩:=Jo lo hi its.toArray.size;unfold setItem;refine dO (dJ (wpAny_sequenceKey tp (by decide) ?_));refine dJ (wpAny_callSpecial?_slot (name:=Str.ofString "__setitem__") tp slot_list_setitem (wpAny_call_entry slot_list_setitem tp entry_list_setitem ?_ (args_list_setitem _ _ _)))
 show wpAny _ _ (Builtin.List.listSubscript? (.ref sl) >>=_) _ _ s;refine dJ ?_;unfold Builtin.List.listSubscript?;refine dJ (wpAny_specialOf ts slice_no_index ?_);rw[if_pos (show (none:Option Value).isNone=true from rfl)];refine dX ?_;show wpAny _ _ (typeOf (.ref sl) >>=_) _ _ s;refine dJ (wpAny_typeOf ts ?_);rw[if_neg (by decide),listSliceParts_eq];refine dJ (dJ (wpAny_field e1 d1 (x:=.none) rfl (dJ (wpAny_listPart .none ?_))))
 rw[if_neg (show ¬((rawPart none==rawInt 0)=true) from bF)];refine dJ (wpAny_field e1 d1 (x:=vl) rfl (dJ (wpAny_listPart pl (dJ (wpAny_field e1 d1 (x:=vu) rfl (dJ (wpAny_listPart pu (dX ?_))))))));have nr:Builtin.List.listSameRef (.ref p) (.ref q)=false:=beq_eq_false_iff_ne.mpr ne;rw[nr];refine dJ (m:=Builtin.List.listAllItems (.ref q) _) ?_;unfold Builtin.List.listAllItems;refine dJ (wpAny_typeOf tq ?_)
 rw[if_pos (by decide)];unfold Builtin.List.listItems;refine dJ (wpAny_seqItems eq_ dq (dX ?_));refine dJ (dJ (wpAny_seqItems ep rfl (dX ?_)));refine dJ (wpAny_of_eq (sliceIndices_raw lo hi none its.toArray.size (by simp)) ?_);obtain⟨c1,c2,c3,ec⟩:∃c1 c2 c3,sliceBounds lo hi none its.toArray.size=(c1,c2,c3):=⟨_,_,()⟩;rw[ec] at b1 b2 b3 ⊢;obtain rfl:c1=((HT.sIx its.toArray.size 0 lo:Nat):Int):=b1;obtain rfl:c2=((HT.sIx its.toArray.size its.toArray.size hi:Nat):Int):=b2
 obtain rfl:c3=1:=b3;show wpAny _ _ (if ((1:Int)==1)=true then _ else _) _ _ s;rw[if_pos (by decide)];refine dJ (wpAny_rule ?_);show wpAny _ _ (if Builtin.List.listTooLong (its.toArray.size+jts.toArray.size)=true then _ else _) _ _ s;rw[if_neg (by unfold Builtin.List.listTooLong;simp;omega)];refine dJ (m:=Builtin.List.listUpdate (.ref p) _) (wpAny_updateSeq ep rfl ?_ (by simp;omega) (by simp;omega))
 refine dJ (wpAny_letGo (dX ⟨(),dX ?_⟩));have ef:(λxs:Array Value=>xs.extract 0 (((HT.sIx its.toArray.size 0 lo:Nat):Int)).toNat++jts.toArray++xs.extract (max ((HT.sIx its.toArray.size 0 lo:Nat):Int) ((HT.sIx its.toArray.size its.toArray.size hi:Nat):Int)).toNat)=λxs=>xs.extract 0 (HT.sIx its.length 0 lo)++jts.toArray++xs.extract (max (HT.sIx its.length 0 lo) (HT.sIx its.length its.length hi)) xs.size:=by
  funext xs;rw[bJ,bS,show (max ((HT.sIx its.length 0 lo:Nat):Int) ((HT.sIx its.length its.length hi:Nat):Int)).toNat=max (HT.sIx its.length 0 lo) (HT.sIx its.length its.length hi) by omega]
 rw[ef];exact h
theorem aw4(its jts:List Value)(n a b:Nat):∃n',Obj.mapSeq (λxs=>xs.extract 0 a++jts.toArray++xs.extract b xs.size) {cls:=.type "list",data:=.seq its.toArray n}={cls:=.type "list",data:=.seq (its.take a++jts++its.drop b).toArray n'}:=by
 have e:its.toArray.extract 0 a++jts.toArray++its.toArray.extract b its.toArray.size=(its.take a++jts++its.drop b).toArray:=by
  apply Array.toList_inj.mp;simp[dF]
 unfold Obj.mapSeq;dsimp only;rw[e];exact⟨()⟩
noncomputable def rf(xs ys:List V)(lo hi:Option Int):List V:=xs.take (HT.sIx xs.length 0 lo)++ys++xs.drop (max (HT.sIx xs.length 0 lo) (HT.sIx xs.length xs.length hi))
def CM(K:FG)(to:TE)(tl th:TO):TG:=λv σ H Q=>to σ H λo H1=>tl σ H1 λl H2=>th σ H2 λu H3=>∃(p q:Addr) (xs ys:List V),o=.ref p/\v=.ref q/\p≠q/\H3 p=some (.lst xs)/\SqL K H3 q ys/\xs.length+ys.length<=sizeLine/\Q σ (upd H3 p (.lst (rf xs ys l u)))
theorem X6{X:Cx}{o:Expr}{lo hi:Option Expr}{to:TE}{tl th:TO}{p2 pos:Pos}(ho:E X o to)(hl:Po X lo tl)(hu:Po X hi th):Gt X (.Subscript o (.Slice lo hi none p2) pos) (CM X.K to tl th):=by
 refine⟨λpins s σ H v u Q I r h=>?_⟩;show wpAny _ _ (do
   let ov ←holding [u] (eval o X.env)
   let iv ←holding [u,ov] (eval (.Slice lo hi none p2) X.env)
   standAt pos
   holding [u,ov,iv] (setItem ov iv u)
   release [iv,u,ov] []) _ _ s
 refine dJ (dO (eX (ho.h pins s σ H _ I h) λov s1 ⟨x,H1,I1,r1,q1⟩=>?_));refine dJ (dO (wpAny_Slice (eX (hl.h pins s1 σ H1 _ I1 q1) λvl s2 ⟨l,H2,I2,pl,q2⟩=>eX (hu.h pins s2 σ H2 _ I2 q2) λvu s3 ⟨u',H3,I3,pu,q3⟩=>?_)));rw[evalPart_none];refine dX ?_;have I4:Inv X pins σ H3 {s3 with heap:=s3.heap.push {cls:=.type "slice",data:=.fields #[vl,vu,.none]} }:=I3.kept (t':=s3.toks) λb ob q=>bD _ q;obtain⟨p,q,xs,ys,rfl,rfl,ne,hp,hq,hz,qq⟩:=q3
 cases r1;cases r;obtain⟨its,n,rv,ep,_⟩:=I4.lst hp;obtain⟨jts,rv',pl',_⟩:=I4.list hq;obtain⟨oq,eq_,cq,m,dq⟩:=pl'.isList;have e1:=rv.length;have e2:=rv'.length;refine dJ (wpAny_standAt (dJ (dO (Lb ep eq_ cq dq ne (Heap.IsSliceOf.new ..) pl pu ⋯ (wpAny_release ?_)))));obtain⟨n',en⟩:=aw4 its jts n (HT.sIx its.length 0 l) (max (HT.sIx its.length 0 l) (HT.sIx its.length its.length u'));refine⟨σ,_,I4.lstUpd hp ep en (ys:=rf xs ys l u') ?_ ?_ _,qq⟩
 ·unfold rf;rw[e1];exact ((rv.take _).append rv').append (rv.drop _)
 ·unfold rf;rw[a8,a8,cF,cN];omega
theorem iU{X:Cx}{K:FG}{e:Expr}{f:Str}{ta:TE}{pos:Pos}(he:E X e ta)(hK:X.K=K:=by rfl)(hb:attributeBase e f X.env (eval e X.env)=eval e X.env:=by rfl):E X (.Attribute e f pos) (p9 K ta f):=hK▸ii he hb
section
variable{js:List Nat}{σ:St}{tt:TT}{te:TE}{Q:VK}{H1:Hp}
theorem ul{K:FG}{a:Addr}{xs:List V}(R:Addr->Nat->List V->Hp->Prop)(hm:∀D i l H l0 l',H D=some (.lst l0)->H1 D=none->R D i l H->R D i l (upd H D (.lst l')))(hn:xs.length<=sizeLine)(h0:∀D,H1 D=none->R D 0 [] (upd H1 D (.lst [])))(hq:SqL K H1 a xs)
  (hs:∀(i:Nat) (v:V) (l:List V) (D:Addr) (H2:Hp) (E:V->Hp->Prop) (F:Hp->Prop),xs[i]? =some v->R D i l H2->H1 D=none->Same H1 H2->H2 D=some (.lst l)->(∀y H5,Same H2 H5->R D (i+1) (l++[y]) H5->E y H5)->(∀H4,Same H2 H4->R D (i+1) l H4->F H4)->
   tt (some v::gZ js σ) H2 λb H4=>if b=true then te (some v::gZ js σ) H4 E else F H4)
  (hd:∀(D:Addr) (H2:Hp) (l:List V),R D xs.length l H2->H1 D=none->Same H1 H2->H2 D=some (.lst l)->Q (.ref D) H2):mr (mV K a) js σ tt te Q H1:=by
 intro D hD;refine⟨λi m H2=>m=xs.length-i/\i<=xs.length/\Same H1 H2/\∃l,H2 D=some (.lst l)/\l.length<=i/\R D i l H2,⟨xs.length,by simp,bK _,eJ hD _,[],eF,aX _,h0 D hD⟩,?_⟩;rintro i m H2 ⟨rfl,hi,s2,l,h2,hll,hR⟩;by_cases hlt:i<xs.length
 ·refine .inr ⟨⟨xs,xs[i],s2.seq hq,by simp[hlt]⟩,λv H3 y=>?_⟩;obtain⟨e,ev⟩:=y;subst e;refine hs i v l D _ _ _ (ev xs (s2.seq hq)) hR hD s2 h2 (λz H5 s5 r5=>?_) (λH4 s4 r4=>?_)
  ·refine⟨l,s5 _ _ h2,cQ hll (bC hlt hn),xs.length-(i+1),⋯,rfl,hlt,λb o hb=>?_,l++[z],eF,by rw[a8,b9];omega,hm _ _ _ _ _ _ (s5 _ _ h2) hD r5⟩;rw[eW (gT hb hD)];exact s5 _ _ (s2 _ _ hb)
  ·exact⟨xs.length-(i+1),⋯,rfl,hlt,s2.trans s4,l,s4 _ _ h2,⋯,r4⟩
 ·have e:i=xs.length:=⋯;subst e;exact .inl ⟨⟨xs,s2.seq hq,aX _⟩,hd D H2 l hR hD s2 h2⟩
theorem Ff{lo:Int}{n:Nat}(R:Addr->Nat->List V->Hp->Prop)(hm:∀D i l H l0 l',H D=some (.lst l0)->H1 D=none->R D i l H->R D i l (upd H D (.lst l')))(hn:n<=sizeLine)(h0:∀D,H1 D=none->R D 0 [] (upd H1 D (.lst [])))
  (hs:∀(i:Nat) (l:List V) (D:Addr) (H2:Hp) (E:V->Hp->Prop) (F:Hp->Prop),i<n->R D i l H2->H1 D=none->Same H1 H2->H2 D=some (.lst l)->(∀y H5,Same H2 H5->R D (i+1) (l++[y]) H5->E y H5)->(∀H4,Same H2 H4->R D (i+1) l H4->F H4)->
   tt (some (.int (lo+i))::gZ js σ) H2 λb H4=>if b=true then te (some (.int (lo+i))::gZ js σ) H4 E else F H4)
  (hd:∀(D:Addr) (H2:Hp) (l:List V),R D n l H2->H1 D=none->Same H1 H2->H2 D=some (.lst l)->Q (.ref D) H2):mr (lT lo n) js σ tt te Q H1:=by
 intro D hD;refine⟨λi m H2=>m=n-i/\i<=n/\Same H1 H2/\∃l,H2 D=some (.lst l)/\l.length<=i/\R D i l H2,⟨n,by simp,bK _,eJ hD _,[],eF,aX _,h0 D hD⟩,?_⟩;rintro i m H2 ⟨rfl,hi,s2,l,h2,hll,hR⟩;by_cases hlt:i<n
 ·refine .inr ⟨hlt,λv H3 y=>?_⟩;obtain⟨e,ev⟩:=y;subst e ev;refine hs i l D _ _ _ hlt hR hD s2 h2 (λz H5 s5 r5=>?_) (λH4 s4 r4=>?_)
  ·refine⟨l,s5 _ _ h2,cQ hll (bC hlt hn),n-(i+1),⋯,rfl,hlt,λb o hb=>?_,l++[z],eF,by rw[a8,b9];omega,hm _ _ _ _ _ _ (s5 _ _ h2) hD r5⟩;rw[eW (gT hb hD)];exact s5 _ _ (s2 _ _ hb)
  ·exact⟨n-(i+1),⋯,rfl,hlt,s2.trans s4,l,s4 _ _ h2,⋯,r4⟩
 ·have e:i=n:=⋯;subst e;exact .inl ⟨aX _,hd D H2 l hR hD s2 h2⟩
end
theorem uq{X:Cx}(hu:X.A.units+64<cLine):gF X (compareOp .NotEq) (λx y H Q=>∃(a b:Addr) (vs:List V),x=.ref a/\y=.ref b/\SqL X.K H a vs/\SqL X.K H b []/\Q (.bl (decide (vs≠[]))) H):=by
 refine⟨λpins s σ H x y v u Q I rx ry h=>?_⟩;obtain⟨a,b,vs,rfl,rfl,ha,hb,q⟩:=h;cases rx;cases ry;obtain⟨its,rv,pl,_⟩:=I.list ha;obtain⟨its',rv',pl',_⟩:=I.list hb;cases rv';have e:=rv.length;cases vs with
 |nil=>
  cases rv;refine SeqAt.RcNeAt.lists (e:=λ_=>true) pl.isList pl'.isList rfl ⋯ (λi h1 h2=>SeqAt.EqAt.same _) _ _ _ _ ?_;exact⟨.bl false,H,I,by show Value.bool _=Value.bool false;congr 1,q⟩
 |cons v0 vs=>
  refine SeqAt.RcNeAt.lists_lengths pl.isList pl'.isList (by rw[bJ,←e];rfl) ⋯ _ _ _ _ ?_;exact⟨.bl true,H,I,rfl,q⟩
end L2
namespace L2
open PySem PySem.Spec PyProof.Rows PySem.SeqAt
noncomputable abbrev rq:=Int×Int×Int
noncomputable def qI(p:rq):PyData:=.tuple [.int p.1,.int p.2.1,.int p.2.2]
noncomputable def DE(l:List rq):PyData:=.list (l.map qI)
section
variable{X:Cx}
theorem HF:∀ns ms:List rq,PySem.Spec.sameAll (ns.map qI) (ms.map qI)=decide (ns=ms)
 |[],[]=>by simp[PySem.Spec.sameAll]
 |[],_::_=>by simp[PySem.Spec.sameAll]
 |_::_,[]=>by simp[PySem.Spec.sameAll]
 |(a,b,c)::r,(x,y,z)::q=>by
  simp only[bM,qI,PySem.Spec.sameAll,PySem.Spec.same,HF r q];by_cases h1:a=x<;>by_cases h2:b=y<;>by_cases h3:c=z<;>simp[h1,h2,h3]
theorem jm:∀ns ms:List (List rq),PySem.Spec.sameAll (ns.map DE) (ms.map DE)=decide (ns=ms)
 |[],[]=>by simp[PySem.Spec.sameAll]
 |[],_::_=>by simp[PySem.Spec.sameAll]
 |_::_,[]=>by simp[PySem.Spec.sameAll]
 |a::r,b::q=>by
  simp only[bM,DE,PySem.Spec.sameAll,PySem.Spec.same,HF a b,jm r q];by_cases h1:a=b<;>simp[h1]
end
def SameBut(S:Addr->Prop)(H H':Hp):Prop:=∀b o,H b=some o->¬S b->H' b=some o
theorem SameBut.seq{S:Addr->Prop}{K:FG}{H H':Hp}{a:Addr}{xs:List V}(e:SameBut S H H')(n:∀o,H a=some o->¬S a)(h:SqL K H a xs):SqL K H' a xs:=by
 rcases h with (h | ⟨o,h⟩) | h
 ·exact .inl (.inl (e _ _ h (n _ h)))
 ·exact .inl (.inr ⟨o,e _ _ h (n _ h)⟩)
 ·exact .inr h
theorem eT{N P:List Str}{sc:Scope}(h1:sc.kind=.function:=by rfl)(h2:sc.isCoroutine=false:=by rfl)(h3:sc.isGenerator=false:=by rfl)(h4:N.Nodup:=by decide +kernel)(h5:N.take P.length=P:=by rfl)(h6:∀x∈P,sc.names.lookup x=some .local∨sc.names.lookup x=some .cell:=by decide +kernel)(h7:∀y∈sc.names,y.2≠ .free:=by decide +kernel):dZ N P sc:=⟨h1,h2,h3,h4,h5,h6,h7⟩
theorem Bw{α β:Type}{F:α->β->Prop}{a:α}{r:List β}(h:Paired F [a] r):∃v,r=[v]/\F a v:=by
 cases h with
 |cons h1 t=>cases t;exact⟨(),h1⟩
theorem EF{α β:Type}{F:α->β->Prop}{a b:α}{r:List β}(h:Paired F [a,b] r):∃u v,r=[u,v]/\F a u/\F b v:=by
 cases h with
 |cons h1 t=>
  obtain⟨v,rfl,h2⟩:=Bw t;exact⟨_,v,rfl,h1,h2⟩
theorem zL(n:Nat)(h:n<=100:=by decide):n<=sizeLine:=by rw[dN];omega
section
variable{X:Cx}
def HV(i j:Int):Prop:=0<=j/\j<=1000000/\i.natAbs<2^1440
theorem SH:gG X (binaryOp .LShift) (rI HV λi j=>.int (i*2^j.toNat)):=mJ λi j _ _ _ _ _ hc q=>lshift_int hc.1 (by
 have hb:Builtin.Int.intBits i<=1440:=intBits_le hc.2.2;have:=hc.2.1;omega) q
theorem W8:gF X (binaryOp .LShift) (rI HV λi j=>.int (i*2^j.toNat)):=⟨SH⟩
end
end L2
namespace L2
open PySem PySem.Spec PyProof.Rows PySem.W
noncomputable def hV(a:Addr)(o:Obj):HO:=.ext λh=>h.get? a=some o
noncomputable def lY(c:Addr)(qual:Str):HO:=.ext λh=>h.CodeRec (.ref c) qual
noncomputable def gX(H:Hp)(a:Addr):Hp:=λb=>if b=a then none else H b
theorem m5{H:Hp}{a:Addr}:gX H a a=none:=if_pos rfl
theorem ji{H:Hp}{a b:Addr}(h:b≠a):gX H a b=H b:=if_neg h
theorem KC{H:Hp}{a b:Addr}{o:HO}(h:gX H a b=some o):b≠a/\H b=some o:=by
 by_cases e:b=a
 ·rw[e,m5] at h;cases h
 ·rw[ji e] at h;exact⟨e,h⟩
section
variable{P:Program}{w:World}{H:Hp}{h:Heap}{a:Addr}{o:HO}
theorem HOk.era_(x:HOk P w H h)(no:∀z,H a≠some (.own z))(nt:∀xs,H a≠some (.tup xs)):HOk P w (gX H a) h:=λb u e=>by
 obtain⟨hb,e⟩:=KC e;refine (x b u e).stay (λ_ _ _ q=>q) (λc q=>?_) λc xs q=>?_
 ·by_cases z:c=a
  ·exact absurd (z▸q) (no b)
  ·rw[ji z];exact q
 ·by_cases z:c=a
  ·exact absurd (z▸q) (nt xs)
  ·rw[ji z];exact q
theorem HOk.track(x:HOk P w H h)(hn:H a=none)(new:ObjOk P w (upd H a o) h a o):HOk P w (upd H a o) h:=λb u e=>by
 by_cases hb:b=a
 ·subst hb;rw[eF] at e;cases e;exact new
 ·rw[eW hb] at e;exact (x b u e).stay (λ_ _ _ q=>q) (λc q=>by rw[eW (gT q hn)];exact q) λc xs q=>by rw[eW (gT q hn)];exact q
theorem oW{ob:Obj}(e:h.get? a=some ob):ObjOk P w H h a (hV a ob):=⟨e,⟨ob,e⟩,λh1 h2 e1 k=>k _ e1⟩
theorem pJ{ob:Obj}(x:HOk P w H h)(e:H a=some (hV a ob)):h.get? a=some ob:=(x a _ e).1
theorem YD{q:Str}(x:HOk P w H h)(e:H a=some (lY a q)):h.CodeRec (.ref a) q:=(x a _ e).1
end
noncomputable def jS(P:Program)(w:World)(K:Frag)(mg:Str->Option Value)(base:Heap)(N:List Str)(qual:Str)(scope:Scope)(L f c':Addr)(cl:List (Str×Addr))(A:Around)(outer:List Env)(s:Shared)(H:Hp):Cx where
 prog:=P
 w:=w
 K:=K
 mg:=mg
 base:=base
 A:=A.deeper (envX qual scope L f (.ref c') cl)
 N:=N
 s₀:=s
 H₀:=H
 env:=envX qual scope L f (.ref c') cl
 outer:=outer
 stack:=envX qual scope L f (.ref c') cl::outer
 ex:=[]
 fn:=λ_=>false
 calm:=true
 pn:=[]
 xe:=λ_ _=>False
structure ig(x y:Str)(scope:Scope):Prop where
 kind:scope.kind=.function
 co:scope.isCoroutine=false
 gen:scope.isGenerator=false
 nocell:∀z∈scope.names,z.2≠ .cell
 par:scope.names.lookup x=some .local
 fre:scope.names.lookup y=some .free
 only:∀z∈scope.names,z.2=.free->z.1=y
 ne:x≠y
theorem aAP{P:Program}{w:World}{K:Frag}{mg:Str->Option Value}{base:Heap}{x y:Str}{qual:Str}{scope:Scope}{f c' a:Addr}{A:Around}{outer:List Env}{s s1:Shared}{H:Hp}{u u0:Value}{v v0:V}{o0:Obj}{h1:Heap}{tk:Tok}
  (S:ig x y scope) (hd:A.handled=none) (e0:Env0 P w K mg base A outer s H) (ha:H a=some (hV a o0)) (ho:o0.data=.cell (some u0)) (r0:RelV v0 u0) (r:RelV v u)
  (hns:h1.Ns s.heap.objs.size (λz=>[(x,u)].reverse.lookup z)) (hk:∀b o,s.heap.get? b=some o->h1.get? b=some o) (hs:s1={s with heap:=h1,toks:=tk}):
  Inv (jS P w K mg base [x,y] qual scope s.heap.objs.size f c' [(y,a)] A outer s (gX H a)) [] [some v,some v0] (gX H a) s1:=by
 subst hs;have hao:=pJ e0.hok ha;have noA:∀b:Addr,b∉(jS P w K mg base [x,y] qual scope s.heap.objs.size f c' [(y,a)] A outer s (gX H a)).ex:=λb z=>absurd (show b∈([]:List Addr) from z) (by simp);have one:∀z c,([(y,a)]:List (Str×Addr)).lookup z=some c->z=y/\c=a:=λz c e=>by
  have m:=PySem.mem_of_lookup e;have:=bU.mp m;exact⟨congrArg Prod.fst this,congrArg Prod.snd this⟩
 have ly:([(y,a)]:List (Str×Addr)).lookup y=some a:=by simp
 have fr:∀b,H b=none->gX H a b=none:=λb e=>by
  by_cases z:b=a
  ·rw[z];exact m5
  ·rw[ji z];exact e
 have hok':HOk P w (gX H a) s.heap:=e0.hok.era_ (λz e=>by rw[ha] at e;cases e) (λxs e=>by rw[ha] at e;cases e);have cell:h1.IsCell a (some u0):=⟨o0,hk _ _ hao,ho⟩;refine⟨⟨e0.mod,S.kind,rfl,rfl,aX _,λz1 z2 c q1 q2=>(one z1 c q1).1.trans (one z2 c q2).1.symm,λz hz=>?_,(λz c q _=>nomatch q),λ_=>hd,Around.frames_deeper e0.frames,.inr ⟨rfl,rfl⟩,λb z=>absurd z (noA b),λb o e=>⟨(e0.bs b o e).1,fr b (e0.bs b o e).2⟩,e0.bsz,λb _ _=>noA b,λb z=>absurd z (noA b),e0.funs,λb hb=>fr b (e0.frf b hb)⟩,
  rfl,e0.bare,Un.kept hk,⟨_,hns,λi z v' q1 q2 q3=>?_⟩,λz c q=>?_,fr _ (e0.hok.fresh (aX _)),λz c q=>?_,λp hp=>absurd (show p∈([]:List (Addr×Obj)) from hp) (by simp),hok'.kept hk,rfl⟩
 ·have hz:scope.names.lookup z=some .cell∨scope.names.lookup z=some .free:=hz;rcases hz with hz | hz
  ·exact absurd rfl (S.nocell _ (PySem.mem_of_lookup hz))
  ·have:=S.only _ (PySem.mem_of_lookup hz) rfl;exact⟨a,by show ([(y,a)]:List (Str×Addr)).lookup z=_;rw[show z=y from this];exact ly⟩
 ·match i,q1,q2 with
  |0,q1,q2=>
   cases q1;cases q2;exact⟨u,r,.inl ⟨S.par,by show ([(x,u)]:List (Str×Value)).reverse.lookup x=some u;simp⟩⟩
  |1,q1,q2=>
   cases q1;cases q2;exact⟨u0,r0,.inr ⟨.inr S.fre,a,ly,cell⟩⟩
  |i+2,q1,_=>exact nomatch q1
 ·obtain⟨_,rfl⟩:=one z c q;exact⟨_,cell⟩
 ·obtain⟨_,rfl⟩:=one z c q;exact m5
theorem PB{P:Program}{w:World}{K:Frag}{mg:Str->Option Value}{base:Heap}{k:Nat}{x y:Str}{name qual:Str}{params:Arguments}{body:Expr}{scope:Scope}{pm ctv:Value}{f c' a:Addr}{A:Around}{outer:List Env}{s:Shared}{H:Hp}{args:Args}{u u0:Value}{v v0:V}{o0:Obj}{Q:VK}{E:XK}{t:TE}
  (S:ig x y scope) (hr:Room (k+1) A) (e0:Env0 P w K mg base A outer s H) (hb:BindsTo s (kla_fn name qual params body scope [(y,a)] pm (.ref c') ctv) args [(x,u)]) (r:RelV v u)
  (hf:H f=some (hV f (kla_obj name qual params body scope [(y,a)] pm c' ctv))) (hc:H c'=some (lY c' qual)) (ha:H a=some (hV a o0)) (ho:o0.data=.cell (some u0)) (r0:RelV v0 u0)
  (hbody:L2.E (jS P w K mg base [x,y] qual scope s.heap.objs.size f c' [(y,a)] A outer s (gX H a)) body t)
  (h:t [some v,some v0] (gX H a) λv' H'=>H' a=none->Q v' (upd H' a (hV a o0))):
  codeAny (model P w) A (.call (.ref f) args) (CR i7 outer P w H s Q E) s:=by
 have lim:s.heap.NoLimit:=e0.mod.nolimit.keeps λb o e=>(e0.bs b o e).1;refine kla_callFunE (by have:=hr.dp;omega) (pJ e0.hok hf) rfl S.co S.gen rfl (YD e0.hok hc) (hb _ _ _ _ ?_);refine wpAny_newFunctionEnv S.nocell (λz hz=>by rw[bU.mp hz];exact S.par) (λh₁ hns hsb=>⟨lim.fresh _ hsb,?_⟩) S.kind;show codeAny _ _ (.expr body (envX qual scope s.heap.objs.size f (.ref c') [(y,a)])) _ _;have hk₁:∀b o,s.heap.get? b=some o->h₁.get? b=some o:=λb o e=>hsb.extBut b o (bE (aZ e)) (bD _ e)
 refine kla_codeExpr ?_;have I:=aAP (f:=f) (c':=c') (qual:=qual) (tk:=s.toks+([(x,u)]:List (Str×Value)).length) S hr.hd e0 ha ho r0 r hns hk₁ rfl;refine dM (hbody.h [] _ _ _ _ I h) (λv' s' hq=>?_) λe s' hq=>hq.elim;obtain⟨z,H',J,rz,q⟩:=hq;have hao:=pJ e0.hok ha
 -- the cell is as it was
 have ca:s'.heap.get? a=some o0:=J.base.keep a o0 hao m5 (λhb=>by
  have:=e0.frf a hb;rw[ha] at this;cases this) (by simp[jS])
 refine⟨z,upd H' a (hV a o0),J.os,J.bare,⟨λb o e n hb hx=>?_,λb o e n hb hx=>?_,λb o e n hx=>?_,λb o e hx=>J.base.there b o e hx,λb xs e=>?_,λb o u e=>?_,λb ps e=>?_⟩,J.hok.track (J.base.free a o0 hao m5 (by simp[jS])) (oW ca),rz,q (J.base.free a o0 hao m5 (by simp[jS]))⟩
 all_goals have na:b≠a:=λz=>by (first | (rw[z,ha] at n;cases n) | (rw[z,ha] at e;cases e))
 ·exact J.base.keep b o e (by rw[show (jS P w K mg base [x,y] qual scope s.heap.objs.size f c' [(y,a)] A outer s (gX H a)).H₀=gX H a from rfl,ji na];exact n) hb hx
 ·exact J.base.slot b o e (by rw[show (jS P w K mg base [x,y] qual scope s.heap.objs.size f c' [(y,a)] A outer s (gX H a)).H₀=gX H a from rfl,ji na];exact n) hb hx
 ·rw[eW na];exact J.base.free b o e (by rw[show (jS P w K mg base [x,y] qual scope s.heap.objs.size f c' [(y,a)] A outer s (gX H a)).H₀=gX H a from rfl,ji na];exact n) hx
 ·rw[eW na];exact J.base.tups b xs (by rw[show (jS P w K mg base [x,y] qual scope s.heap.objs.size f c' [(y,a)] A outer s (gX H a)).H₀=gX H a from rfl,ji na];exact e)
 ·rw[eW na];exact J.base.frzs b o u (by rw[show (jS P w K mg base [x,y] qual scope s.heap.objs.size f c' [(y,a)] A outer s (gX H a)).H₀=gX H a from rfl,ji na];exact e)
 ·obtain⟨more,z⟩:=J.base.tbls b ps (by rw[show (jS P w K mg base [x,y] qual scope s.heap.objs.size f c' [(y,a)] A outer s (gX H a)).H₀=gX H a from rfl,ji na];exact e);exact⟨more,by rw[eW na];exact z⟩
end L2
namespace L2
open PySem PySem.Spec PyProof.Rows PySem.W
structure FnC(K:Frag)(mg:Str->Option Value)(x:Str)(st:Stmt)(ps:List Str)(c:Addr):Prop where
 ex:∃(f:Addr) (oc:Value) (od:Option Addr) (kV doc pm:Value) (an:Option Addr) (ct:Value) (osl:Array (Option Value)),
  K.lookup f=some ⟨oc,od,.func (fnOf x x (jg st) (iy st) (eP st) .none kV doc pm an (.ref c) ct),osl⟩/\codeIn K (.ref c) x=true/\keepIn K (.ref f)=true/\Binds K (fnOf x x (jg st) (iy st) (eP st) .none kV doc pm an (.ref c) ct) ps []/\mg x=some (.ref f)
section
variable{P:Program}{w:World}{K:Frag}{mg:Str->Option Value}{base:Heap}{x:Str}{st:Stmt}{ps N:List Str}{k:Nat}{sp:Sp}{c:Addr}
theorem FnC.dfs(F:FnC K mg x st ps c)(S':dZ N ps (eP st))(len:∀vs H Q E,sp vs H Q E->vs.length=ps.length)
  (hbody:∀(f:Addr) (A:Around) (outer:List Env) (s:Shared) (H:Hp) (vs:List V) (Q:VK) (E:XK),Room k (A.deeper (envOfC x (eP st) s.heap.objs.size f (.ref c)))->sp vs H Q E->
   Go P w K mg base N x st f (.ref c) A outer s H vs Q E):Df P w K mg base x (k+1) ps sp:=by
 obtain⟨f,oc,od,kV,doc,pm,an,ct,osl,lk,hcd,kp,hb,hm⟩:=F.ex;refine⟨⟨f,_,uW lk hcd S' len λA outer s H vs Q E hr hsp=>?_,hb,hm,kp⟩⟩;obtain⟨t,h,q⟩:=hbody f A outer s H vs Q E hr hsp;exact⟨t,h.h.nox,q⟩
theorem QB{h:Heap}{f:Addr}{oc:Value}{od an:Option Addr}{osl:Array (Option Value)}{kV doc pm ct:Value}(X:K.In h)(G:h.Ns mainGlobals mg)
  (a:nsIn K mainGlobals x=some (some (.ref f))) (l:K.lookup f=some ⟨oc,od,.func (fnOf x x (jg st) (iy st) (eP st) .none kV doc pm an (.ref c) ct),osl⟩)
  (cd:codeIn K (.ref c) x=true) (kp:keepIn K (.ref f)=true)
  (hb:∀(kV doc pm:Value) (an:Option Addr) (cdv ct:Value) (us:List Value),us.length=ps.length->bindArgs (fnOf x x (jg st) (iy st) (eP st) .none kV doc pm an cdv ct) ⟨us,[]⟩=pure (ps.zip us)):FnC K mg x st ps c:=
 ⟨⟨f,oc,od,kV,doc,pm,an,ct,osl,l,cd,kp,(rm (st:=st) l cd kp).binds (ps:=ps) hb,mg_of X G a⟩⟩
end
structure m6(K:Frag)(mg:Str->Option Value)(c Pt bm:Addr):Prop where
 code:∀h:Heap,K.In h->CodeHd h c Pt
 blt:mg "__builtins__"=some (.ref bm)/\bm≠builtinsNs
def og(H:Hp)(bm:Addr):Prop:=∃ob u,H bm=some (.frz ob u)/\ob.cls=.type "module"/\ob.dict=some builtinsNs/\ob.data=.plain
noncomputable def jz(X:Cx)(y:Str):Addr:=(X.env.cells.lookup y).getD 0
noncomputable def nJ(qual:Str)(params:Arguments)(body:Expr)(scope:Scope)(y:Str)(a:Addr)(pm:Value)(c':Addr)(ctv:Value):Obj:=kla_obj "<lambda>" qual params body scope [(y,a)] pm c' ctv
def Kg(Pt bm:Addr)(lpos:Pos)(qual:Str)(params:Arguments)(body:Expr)(scope:Scope)(y:Str)(a:Addr)(pm:Value):TE:=λ_ H Q=>og H bm/\∃ps:Array Value,H Pt=some (.tbl ps)/\TriplesOk ps.toList/\
 ((codeAmong lpos ps.toList=none/\∀f c' ctv,H f=none->H c'=none->c'≠f->Q (.ref f) (upd (upd (upd H Pt (.tbl (ps++ #[rawInt lpos.line,rawInt lpos.col,.ref c']))) c' (lY c' qual)) f (hV f (nJ qual params body scope y a pm c' ctv))))∨
 (∃c0,codeAmong lpos ps.toList=some (.ref c0)/\H c0=some (lY c0 qual)/\∀f ctv,H f=none->Q (.ref f) (upd H f (hV f (nJ qual params body scope y a pm c0 ctv)))))
section
variable{X:Cx}
theorem uj{params:Arguments}{body:Expr}{scope:Scope}{lpos:Pos}{y:Str}{c Pt bm:Addr}(hh:m6 X.K X.mg c Pt bm)(hcode:X.env.code=.ref c:=by rfl)(hcl:closureFor scope X.env=pure [(y,jz X y)]:=by rfl)(hdef:defaultsOf params X.env=([],[]):=by rfl):
  E X (.Lambda params body scope lpos) (Kg Pt bm lpos (X.env.qual++"<lambda>") params body scope y (jz X y) ((X.mg "__name__").getD .none)):=by
 refine⟨λpins s σ H Q I h=>?_⟩;obtain⟨⟨ob,u,hbm,b4,b5,b6⟩,ps,hP,ht,h⟩:=h;have hPh:s.heap.get? Pt=some (tabObj ps):=I.hok Pt _ hP;have hg:s.heap.Ns mainGlobals X.mg:=I.mod.glob.keeps I.bk;have bn:∀b o,X.base.get? b=some o->b≠Pt:=λb o e z=>by
  have:=(I.bs b o e).2;rw[z,hP] at this;cases this
 have hgP:mainGlobals≠Pt:=by
  obtain⟨o,es,ep,e,_⟩:=I.mod.glob;exact bn _ _ e
 have hb:s.heap.BuiltinsAt X.mg Pt:=by
  obtain⟨b1,b2⟩:=hh.blt;refine⟨bm,ob,b1,b2,λz=>?_,λz=>?_,(I.hok bm _ hbm).1,b4,b5,b6⟩
  ·obtain⟨o,es,ep,e2,_⟩:=I.mod.glob;have:=(I.bs _ _ e2).2;rw[←z,hbm] at this;cases this
  ·rw[z,hP] at hbm;cases hbm
 have nl:X.env.locals≠Pt:=λz=>by
  have:=I.free;rw[z,hP] at this;cases this
 refine kla_eval hdef ?_;rcases h with ⟨hnf,h⟩ | ⟨c0,hf,hc0,h⟩
 ·refine kla_makeFunction (mg:=X.mg) hcl I.ok.glob hg hcode (hh.code _ I.kIn) hPh ht hnf hgP hb λc' ctv h' tk hx hge hlt hrec htb=>?_;have szle:s.heap.objs.size<=h'.objs.size:=Nat.le_of_lt (cQ hge hlt);have ltc:∀b o,s.heap.get? b=some o->b≠c'/\b≠h'.objs.size:=λb o e=>⟨bE (bC (aZ e) hge),bE (bC (aZ e) szle)⟩;have hc'n:H c'=none:=I.hok.fresh hge;have hfn:H h'.objs.size=none:=I.hok.fresh szle;have cf:c'≠h'.objs.size:=bE hlt
  have jU:∀b o,H b=some o->b≠c'/\b≠h'.objs.size:=λb o e=>⟨gT e hc'n,gT e hfn⟩
  let fo:=nJ (X.env.qual++"<lambda>") params body scope y (jz X y) ((X.mg "__name__").getD .none) c' ctv
  let H1:=upd (upd (upd H Pt (.tbl (ps++ #[rawInt lpos.line,rawInt lpos.col,.ref c']))) c' (lY c' (X.env.qual++"<lambda>"))) h'.objs.size (hV h'.objs.size fo)
  have H1o:∀b,b≠Pt->b≠c'->b≠h'.objs.size->H1 b=H b:=λb n1 n2 n3=>by show upd (upd (upd H Pt _) c' _) h'.objs.size _ b=_;rw[eW n3,eW n2,eW n1]
  have kp:∀b o,b≠Pt->s.heap.get? b=some o->(h'.push fo).get? b=some o:=λb o n e=>bD _ (hx b o n e);have PtN:Pt≠c'/\Pt≠h'.objs.size:=jU _ _ hP;have H1P:H1 Pt=some (.tbl (ps++ #[rawInt lpos.line,rawInt lpos.col,.ref c'])):=by show upd (upd (upd H Pt _) c' _) h'.objs.size _ Pt=_;rw[eW PtN.2,eW PtN.1,eF]
  have H1c:H1 c'=some (lY c' (X.env.qual++"<lambda>")):=by show upd (upd (upd H Pt _) c' _) h'.objs.size _ c'=_;rw[eW cf,eF]
  have H1f:H1 h'.objs.size=some (hV h'.objs.size fo):=eF;have hok:HOk X.prog X.w H1 (h'.push fo):=λb u e=>by
   by_cases n3:b=h'.objs.size
   ·subst n3;rw[H1f] at e;cases e;exact oW (bO _ rfl)
   by_cases n2:b=c'
   ·subst n2;rw[H1c] at e;cases e;obtain⟨c2,oc,vs,t,e2,hoc,hd,hv⟩:=hrec;cases e2;exact⟨⟨b,oc,vs,t,rfl,bD _ hoc,hd,hv⟩,⟨oc,bD _ hoc⟩,λh1 h2 ⟨c2,oc,vs,t,e2,hoc,hd,hv⟩ k=>by cases e2;exact⟨b,oc,vs,t,rfl,k _ hoc,hd,hv⟩⟩
   by_cases n1:b=Pt
   ·subst n1;rw[H1P] at e;cases e;exact bD _ htb
   rw[H1o b n1 n2 n3] at e;refine (I.hok b u e).stay (λd v z q=>kp d v (λzz=>?_) q) (λd q=>?_) λd xs q=>?_
   ·rcases z with z | z
    ·exact n1 (z.symm.trans zz)
    ·rw[zz,hP] at z;cases z
   ·have:=jU _ _ q;rw[H1o d (λzz=>by rw[zz,hP] at q;cases q) this.1 this.2];exact q
   ·have:=jU _ _ q;rw[H1o d (λzz=>by rw[zz,hP] at q;cases q) this.1 this.2];exact q
  refine⟨.ref h'.objs.size,H1,?_,rfl,h h'.objs.size c' ctv hfn hc'n cf⟩;refine I.step (g':=s.gens) (d':=s.drawn) (t':=tk) (ch:=[]) (λ_ z=>nomatch z) (λb o _ _ _ e n=>kp b o (λz=>by rw[z,hP] at n;cases n) e) (λb o _ _ _ e n=>⟨o.slots,kp b o (λz=>by rw[z,hP] at n;cases n) e⟩) (λb o _ e n=>?_) (λb o _ e=>?_) (λb xs e=>?_) (λb o u e=>?_) (λb qs e=>?_) (λm hm=>(hm.extBut hx nl).push _) hok I.bare
  ·rw[H1o b (λz=>by rw[z,hP] at n;cases n) (ltc b o e).1 (ltc b o e).2];exact n
  ·by_cases z:b=Pt
   ·rw[z];exact⟨_,bD _ htb⟩
   ·exact⟨o,kp b o z e⟩
  ·rw[H1o b (λz=>by rw[z,hP] at e;cases e) (jU _ _ e).1 (jU _ _ e).2];exact e
  ·rw[H1o b (λz=>by rw[z,hP] at e;cases e) (jU _ _ e).1 (jU _ _ e).2];exact e
  ·by_cases z:b=Pt
   ·rw[z,hP] at e;cases e;exact⟨_,z▸H1P⟩
   ·exact⟨#[],by rw[H1o b z (jU _ _ e).1 (jU _ _ e).2,e];simp⟩
 ·refine kla_makeFunctionHit (mg:=X.mg) hcl I.ok.glob hg hcode (hh.code _ I.kIn) hPh ht hf hb λctv h' tk hk hsz=>?_;have hfn:H h'.objs.size=none:=I.hok.fresh hsz
  let fo:=nJ (X.env.qual++"<lambda>") params body scope y (jz X y) ((X.mg "__name__").getD .none) c0 ctv
  have kp:∀b o,s.heap.get? b=some o->(h'.push fo).get? b=some o:=λb o e=>bD _ (hk b o e);have hok:HOk X.prog X.w (upd H h'.objs.size (hV h'.objs.size fo)) (h'.push fo):=I.hok.laid kp hsz (oW (bO _ rfl));refine⟨.ref h'.objs.size,upd H h'.objs.size (hV h'.objs.size fo),?_,rfl,h h'.objs.size ctv hfn⟩;exact I.step (g':=s.gens) (d':=s.drawn) (t':=tk) (ch:=[]) (λ_ z=>nomatch z) (λb o _ _ _ e n=>kp b o e) (λb o _ _ _ e n=>⟨o.slots,kp b o e⟩) (λb o _ e n=>by rw[eW (bE (bC (aZ e) hsz))];exact n) (λb o _ e=>⟨o,kp b o e⟩) (λb xs e=>by rw[eW (gT e hfn)];exact e) (λb o u e=>by rw[eW (gT e hfn)];exact e) (λb qs e=>⟨#[],by rw[eW (gT e hfn),e];simp⟩) (λm hm=>(hm.keeps hk).push _) hok I.bare
end
end L2
namespace L2
open PySem PySem.Spec PyProof.Rows PySem.W
section
variable{X:Cx}
theorem SA{pins:List (Addr×Obj)}{σ:St}{H:Hp}{s:Shared}{Q:VK}{us:List Value}{vs:List V}{k:Nat}{f:Addr}{fd:FuncData}{ps:List Str}{sp:Sp}{i:Nat}{y:Str}{v0:V}(F:gz X.prog X.w X.K X.mg X.base i7 k f fd ps sp)(hr:Room k X.A)(hb:Binds X.K fd ps [])
  (I:Inv X pins σ H s) (r:Vals vs us) (hi:X.N[i]? =some y) (hv:σ[i]? =some (some v0)) (hky:X.env.kindOf y=some .cell) (hcy:X.env.cells.lookup y=some (jz X y)) (hfn:X.fn y=true)
  (h:H (jz X y)=none->∀(o0:Obj) (u0:Value),o0.data=.cell (some u0)->RelV v0 u0->sp vs (upd H (jz X y) (hV (jz X y) o0)) (λv H'=>H' (jz X y)=some (hV (jz X y) o0)/\Q v (gX H' (jz X y))) E0):
  wpAny (model X.prog X.w) X.A (call (.ref f) us) (EP X pins σ Q) X.xe s:=by
 obtain⟨m,hn,hl⟩:=I.loc;obtain⟨u0,r0,l⟩:=hl i y v0 hi hv (.inr (.inl hky));rcases l with ⟨z,_⟩ | ⟨_,c,ec,o0,ho,hd⟩
 ·rw[hky] at z;cases z
 rw[hcy] at ec;cases ec;have ha:H (jz X y)=none:=I.freeC y _ hcy;have hge:X.s₀.heap.objs.size<=jz X y:=I.ok.cab y _ hfn hcy;have q:=h ha o0 u0 hd r0;generalize ea:jz X y=a at *;have hok:HOk X.prog X.w (upd H a (hV a o0)) s.heap:=I.hok.track ha (oW ho);have nb:∀b o,X.base.get? b=some o->b≠a:=λb o e=>bE (bC (bC (aZ e) I.ok.bsz) hge);have nf:∀b∈jW X.stack,b≠a:=λb hb z=>by
  subst z;rcases a9.mp (I.stkSub b hb) with e | hb
  ·exact I.cne y _ hcy (ea▸e)
  ·obtain⟨_,o,ho',_⟩:=I.ok.funs.mem hb;exact absurd (bC (aZ ho') hge) (cL _)
 have e0:Env0 X.prog X.w X.K X.mg X.base X.A X.stack s (upd H a (hV a o0)):=⟨I.ok.frames,I.ok.mod,λb o e=>⟨(I.bs b o e).1,by rw[eW (nb b o e)];exact (I.bs b o e).2⟩,bV I.ok.bsz I.sz,I.stack,λb hb=>by rw[eW (nf b hb)];exact I.stkFree b hb,hok,I.bare⟩;have hlen:(us++[]).length=ps.length:=by rw[cU,←r.length];exact F.len _ _ _ _ q
 have bt:=hb s us I.kIn hlen;rw[cU] at bt;refine wpAny_call (codeAny_mono (F.run X.A X.stack s _ ⟨us,[]⟩ us vs _ E0 hr e0 bt r q) λr s' hq=>?_);cases r with
 |error e=>exact False.elim hq
 |ok fl=>
  cases fl with
  |next=>exact False.elim hq
  |brk=>exact False.elim hq
  |cont=>exact False.elim hq
  |ret u=>
   obtain⟨v,H',os,bare,un,hok',rz,hca,q⟩:=hq;have ca:=pJ hok' hca;refine I.after ⟨v,gX H' a,os,bare,⟨λb o e n hb hx=>?_,λb o e n hb hx=>?_,λb o e n hx=>?_,λb o e hx=>un.there b o e hx,λb xs e=>?_,λb o u e=>?_,λb qs e=>?_⟩,hok'.era_ (λz e=>by rw[hca] at e;cases e) (λxs e=>by rw[hca] at e;cases e),rz,q⟩
   ·by_cases z:b=a
    ·subst z;rw[ho] at e;cases e;exact ca
    ·exact un.keep b o e (by rw[eW z];exact n) hb hx
   ·exact un.slot b o e (by rw[eW (nf b hb)];exact n) hb hx
   ·by_cases z:b=a
    ·rw[z];exact m5
    ·rw[ji z];exact un.free b o e (by rw[eW z];exact n) hx
   ·have z:b≠a:=gT e ha;rw[ji z];exact un.tups b xs (by rw[eW z];exact e)
   ·have z:b≠a:=gT e ha;rw[ji z];exact un.frzs b o u (by rw[eW z];exact e)
   ·have z:b≠a:=gT e ha;obtain⟨more,e'⟩:=un.tbls b qs (by rw[eW z];exact e);exact⟨more,by rw[ji z];exact e'⟩
def EG(i:Nat)(a:Addr)(sp:Sp)(t:TA):TE:=λσ H Q=>t σ H λvs H1=>∃v0,σ[i]? =some (some v0)/\(H1 a=none->∀(o0:Obj) (u0:Value),o0.data=.cell (some u0)->RelV v0 u0->sp vs (upd H1 a (hV a o0)) (λv H'=>H' a=some (hV a o0)/\Q v (gX H' a)) E0)
theorem ZP{x:Str}{k k':Nat}{ps:List Str}{sp:Sp}{e:Expr}{es:List Expr}{t:TA}{p pos:Pos}(y:Str)(i:Nat)(D:Df X.prog X.w X.K X.mg X.base x k ps sp)(hr:Room k' X.A)(ha:As X (e::es) t)(hk:k<=k':=by decide)(hi:X.N[i]? =some y:=by rfl)(hky:X.env.kindOf y=some .cell:=by rfl)(hcy:X.env.cells.lookup y=some (jz X y):=by rfl)(hfn:X.fn y=true:=by rfl)(hg:Gl X x:=by rfl)
  (hdb:(x==("__debug__":Str))=false:=by decide) (he:starEach (e::es) X.env=(false,eval e X.env)::starEach es X.env:=by rfl) (hpl:(backTo pos (starEach es X.env)).any (·.1)=false:=by rfl):
  E X (.Call (.Name x p) (e::es) [] pos) (EG i (jz X y) sp t):=by
 obtain⟨f,fd,F,hb,hm,kp⟩:=D.ex;refine⟨λpins s σ H Q I h=>?_⟩;refine dW (mS I hg hm ?_ hdb);refine callWith_K (h₀:=X.base) I.ok.mod.kin kp (eX (ha.h pos pins s σ H _ I h) λus s1 ⟨vs,H1,I1,r,v0,hv,q⟩=>⟨I1.kIn,?_⟩) he hpl;exact SA F (hr.mono hk) hb I1 r hi hv hky hcy hfn q
def Calls(P:Program)(w:World)(K:Frag)(mg:Str->Option Value)(base:Heap)(k:Nat)(f:Addr)(vs:List V)(H:Hp)(Q:VK):Prop:=
 ∀(A:Around) (outer:List Env) (s:Shared) (us:List Value),Room k A->Env0 P w K mg base A outer s H->Vals vs us->codeAny (model P w) A (.call (.ref f) ⟨us,[]⟩) (CR i7 outer P w H s Q E0) s
def FnHO(H:Hp)(f:Addr):Prop:=∃(oc:Value) (od:Option Addr) (fd:FuncData) (sl:Array (Option Value)),H f=some (hV f ⟨oc,od,.func fd,sl⟩)
def Tb(P:Program)(w:World)(K:Frag)(mg:Str->Option Value)(base:Heap)(k:Nat)(tv:TE)(t:TA):TE:=λσ H Q=>tv σ H λv H1=>∃f,v=.ref f/\FnHO H1 f/\t σ H1 λvs H2=>FnHO H2 f/\Calls P w K mg base k f vs H2 Q
theorem FnHO.at_{P:Program}{w:World}{H:Hp}{h:Heap}{f:Addr}(x:HOk P w H h)(e:FnHO H f):FnAt f h:=by
 obtain⟨oc,od,fd,sl,e⟩:=e;exact⟨oc,od,fd,sl,pJ x e⟩
theorem aIK{y:Str}{e:Expr}{es:List Expr}{t:TA}{tv:TE}{k k':Nat}{p pos:Pos}(hr:Room k' X.A)(hv:E X (.Name y p) tv)(ha:As X (e::es) t)(hk:k<=k':=by decide)
  (he:starEach (e::es) X.env=(false,eval e X.env)::starEach es X.env:=by rfl) (hpl:(backTo pos (starEach es X.env)).any (·.1)=false:=by rfl):E X (.Call (.Name y p) (e::es) [] pos) (Tb X.prog X.w X.K X.mg X.base k tv t):=by
 refine⟨λpins s σ H Q I h=>?_⟩;refine dW (eX (hv.h pins s σ H _ I h) λv s1 ⟨x,H1,I1,r1,f,ex,hf1,q⟩=>?_);subst ex;cases r1;refine callWith_F (hf1.at_ I1.hok) (eX (ha.h pos pins s1 σ H1 _ I1 q) λus s2 ⟨vs,H2,I2,r,hf2,hc⟩=>⟨hf2.at_ I2.hok,?_⟩) he hpl;refine wpAny_call (codeAny_mono (hc X.A X.stack s2 us (hr.mono hk) I2.env0 r) λr s' hq=>?_);cases r with
 |error e=>exact False.elim hq
 |ok fl=>
  cases fl with
  |ret u=>exact I2.after hq
  |next=>exact False.elim hq
  |brk=>exact False.elim hq
  |cont=>exact False.elim hq
end
end L2
namespace L2
open PySem PySem.Spec PyProof.Rows PySem.W
def qY(tabs:List Addr)(bm:Addr)(H:Hp):Prop:=(∀b∈tabs,H b=some (.tbl #[]))/\(∀b,b∉tabs->H b=none∨∃o u,H b=some (.frz o u))/\og H bm
theorem aA3{P:Program}{w:World}{K:Frag}{mg mb:Str->Option Value}{k:Nat}{fa a:Addr}{fd:FuncData}{x:Str}{sp:Sp}{s₁:Shared}{vs:List Value}{ns:List Int}{tabs:List Addr}{bm:Addr}{ob:Obj}
  (KX:K.In s₁.heap) (hns:s₁.heap.Ns mainGlobals mg) (hb:s₁.heap.Ns builtinsNs mb) (hbb:∀x:Str,x≠"__name__"->mb x=bootBuiltins x) (hlim:s₁.heap.NoLimit) (hg:s₁.gens= #[])
  (hT:∀b∈tabs,isCodeTable s₁.heap b/\s₁.heap.get? b=some (tabObj #[])) (hTK:∀b∈tabs,K.lookup b=none)
  (hB:s₁.heap.get? bm=some ob) (hBK:K.lookup bm=none) (b4:ob.cls=.type "module") (b5:ob.dict=some builtinsNs) (b6:ob.data=.plain)
  (ha:s₁.heap.get? a=some {cls:=.type "list",data:=.seq vs.toArray}) (hi:IntsAre vs ns) (hl:ns.length<=sizeLine) (hr:Room k callerA)
  (F:∀base:Heap,K.In base->base.Ns mainGlobals mg->gz P w K mg base i7 k fa fd [x] sp) (hbind:∀(s:Shared) (u:Value),BindsTo s fd ⟨[u],[]⟩ [(x,u)])
  (hsp:∀H:Hp,qY tabs bm H->SqL K H a (ns.map V.int)->sp [.ref a] H (λv _=>v=.bl true) λ_ _ _=>False):
  codeAny (model P w) callerA (.call (.ref fa) ⟨[.ref a],[]⟩) (λr s'=>r=.ok (.ret (.bool true))/\OldK s₁.heap s'.heap/\s'.os=s₁.os/\AllBare s'.gens) s₁:=by
 have rv:=JC hi;have lenV:=hi.length;have aT:a∉tabs:=λh=>by
  have:=(hT a h).2;rw[ha] at this;cases this
 have bT:bm∉tabs:=λh=>by
  have:=(hT bm h).2;rw[hB] at this;cases this;cases b6
 have ba:bm≠a:=λh=>by
  rw[h,ha] at hB;cases hB;cases b6
 have core:∀H:Hp,qY tabs bm H->SqL K H a (ns.map V.int)->HOk P w H s₁.heap->(∀b,b∉tabs->H b≠none->b=a∨b=bm)->(H a≠none->K.lookup a=none)->
   codeAny (model P w) callerA (.call (.ref fa) ⟨[.ref a],[]⟩) (λr s'=>r=.ok (.ret (.bool true))/\OldK s₁.heap s'.heap/\s'.os=s₁.os/\AllBare s'.gens) s₁:=by
  intro H hO hS hok hA hK;have base_of:∀{b:Addr} {o:Obj},s₁.heap.get? b=some o->H b=none->(lW s₁.heap H).get? b=some o:=λe n=>SS e n;have cases_:∀b,H b=none∨b∈tabs∨b=a∨b=bm:=λb=>by
   by_cases h:b∈tabs
   ·exact .inr (.inl h)
   ·cases q:H b with
    |none=>exact .inl rfl
    |some u=>exact .inr (.inr (hA b h (by rw[q];simp)))
  have noA:∀{b:Addr} {o:Obj} {es:Array DictEntry} {ep:Nat},s₁.heap.get? b=some o->o.data=.dict es ep->H b=none:=λ{b o es ep} e d=>by
   rcases cases_ b with h | h | h | h
   ·exact h
   ·rw[(hT b h).2] at e;cases e;cases d
   ·rw[h,ha] at e;cases e;have d':Data.seq vs.toArray _=Data.dict es ep:=d;cases d'
   ·rw[h,hB] at e;cases e;rw[b6] at d;cases d
  have nsK:∀{b:Addr} {m:Str->Option Value},s₁.heap.Ns b m->(lW s₁.heap H).Ns b m:=λ{b m} ⟨o,es,ep,e,d,r⟩=>⟨o,es,ep,base_of e (noA e d),d,r⟩;have hKb:K.In (lW s₁.heap H):=λb o e=>base_of (KX b o e) (by
   rcases cases_ b with h | h | h | h
   ·exact h
   ·rw[hTK b h] at e;cases e
   ·cases q:H b with
    |none=>rfl
    |some u=>
     subst h;rw[hK (by rw[q];simp)] at e;cases e
   ·rw[h,hBK] at e;cases e)
  have hM:Mod K mg (lW s₁.heap H):=⟨hKb,nsK hns,⟨mb,nsK hb,hbb⟩,let ⟨mc,h1,h2⟩:=hlim;⟨mc,nsK h1,h2⟩⟩;have e0:Env0 P w K mg (lW s₁.heap H) callerA [] s₁ H:=⟨rfl,hM,λb o e=>aFR e,Nat.le_of_eq (az7 _ _),trivial,λb hb=>absurd (show b∈([]:List Addr) from hb) (by simp),hok,.of_eq hg⟩;refine codeAny_mono ((F _ hKb (nsK hns)).run callerA [] s₁ H ⟨[.ref a],[]⟩ [.ref a] [.ref a] _ _ hr e0 (hbind s₁ (.ref a)) (.cons rfl .nil) (hsp H hO hS)) λr s' h=>?_
  cases r with
  |error e=>exact False.elim h
  |ok fl=>
   cases fl with
   |next=>exact False.elim h
   |brk=>exact False.elim h
   |cont=>exact False.elim h
   |ret u=>
    obtain⟨v,H',os,bare,un,hok',r',q⟩:=h;have q':v=.bl true:=q;subst q';obtain rfl:u=Value.bool true:=r';have kept:∀b o,b∉tabs->s₁.heap.get? b=some o->s'.heap.get? b=some o:=λb o nb e=>by
     cases q:H b with
     |none=>exact un.keep b o e q (by intro z;exact absurd (show b∈([]:List Addr) from z) (by simp)) (by simp)
     |some u=>
      rcases hO.2.1 b nb with z | ⟨ob',xs,z⟩
      ·rw[q] at z;cases z
      ·have z2:=un.frzs b ob' _ z;obtain⟨e1,_⟩:=hok b _ z;obtain⟨e2,_⟩:=hok' b _ z2;rw[e] at e1;cases e1;exact e2
    have grown:∀b,b∈tabs->∃ps,s'.heap.get? b=some (tabObj ps):=λb hb=>by
     obtain⟨more,z⟩:=un.tbls b #[] (hO.1 b hb);exact⟨_,hok' b _ z⟩
    refine⟨rfl,⟨λb o e=>?_,λb o e=>?_⟩,os,bare⟩
    ·by_cases hb:b∈tabs
     ·obtain⟨ps,hp⟩:=grown b hb;rw[(hT b hb).2] at e;cases e;exact .inr (.inl ⟨(hT b hb).1,rfl,#[],ps,rfl,by rw[Array.empty_append];exact hp⟩)
     ·exact .inl (kept b o hb e)
    ·by_cases hb:b∈tabs
     ·obtain⟨ps,hp⟩:=grown b hb;exact⟨_,hp⟩
     ·exact⟨o,kept b o hb e⟩
 have tOk:∀(H:Hp) (b:Addr),b∈tabs->ObjOk P w H s₁.heap b (.tbl #[]):=λH b hb=>(hT b hb).2
 let G:Hp->Hp:=λH0 b=>if b∈tabs then some (.tbl #[]) else if b=bm then some (.frz ob (hV bm ob)) else H0 b
 have Gt:∀{H0:Hp} {b:Addr},b∈tabs->G H0 b=some (.tbl #[]):=λhb=>if_pos hb;have Gb:∀{H0:Hp},G H0 bm=some (.frz ob (hV bm ob)):=(if_neg bT).trans (if_pos rfl);have Go:∀{H0:Hp} {b:Addr},b∉tabs->b≠bm->G H0 b=H0 b:=λh1 h2=>(if_neg h1).trans (if_neg h2);have only:∀H0:Hp,(∀b,H0 b=none∨∃o u,H0 b=some (.frz o u))->qY tabs bm (G H0):=λH0 h=>⟨λb hb=>Gt hb,λb hb=>by
  by_cases e:b=bm
  ·subst e;exact .inr ⟨_,_,Gb⟩
  ·rw[Go hb e];exact h b,ob,_,Gb,b4,b5,b6⟩
 have oks:∀H0:Hp,(∀b u,b∉tabs->b≠bm->H0 b=some u->ObjOk P w (G H0) s₁.heap b u)->HOk P w (G H0) s₁.heap:=λH0 h b u z=>by
  by_cases hb:b∈tabs
  ·rw[Gt hb] at z;cases z;exact tOk _ b hb
  ·by_cases e:b=bm
   ·subst e;rw[Gb] at z;cases z;exact⟨hB,oW hB⟩
   ·rw[Go hb e] at z;exact h b u hb e z
 cases hk:K.lookup a with
 |some o=>
  have e:=KX a o hk;rw[ha] at e;cases e;refine core (G λ_=>none) (only _ λb=>.inl rfl) (.inr ⟨_,vs.toArray,_,hk,rfl,rfl,rfl,by rw[bJ,lenV];exact hl,by simpa using rv⟩) (oks _ λb u _ _ z=>by cases z) (λb hb z=>?_) λz=>absurd (Go (H0:=λ_=>none) aT ba.symm) z;by_cases e:b=bm
  ·exact .inr e
  ·exact absurd (Go (H0:=λ_=>none) hb e) z
 |none=>
  refine core (G λb=>if b=a then some (.frz {cls:=.type "list",data:=.seq vs.toArray} (.lst (ns.map V.int))) else none) (only _ λb=>?_) (.inl (.inr ⟨{cls:=.type "list",data:=.seq vs.toArray},(Go (H0:=λb=>if b=a then some (.frz {cls:=.type "list",data:=.seq vs.toArray} (.lst (ns.map V.int))) else none) aT ba.symm).trans (if_pos rfl)⟩)) (oks _ λb u hb nb z=>?_) (λb hb z=>?_) λ_=>hk
  ·by_cases e:b=a
   ·exact .inr ⟨_,_,if_pos e⟩
   ·exact .inl (if_neg e)
  ·by_cases e:b=a
   ·have z:=(if_pos e).symm.trans z;cases z;subst e;exact⟨ha,by rw[aY];exact hl,vs,_,rv,ha⟩
   ·have z:=(if_neg e).symm.trans z;cases z
  ·by_cases e:b=bm
   ·exact .inr e
   ·by_cases e2:b=a
    ·exact .inl e2
    ·exact absurd ((Go (H0:=λb=>if b=a then some (.frz {cls:=.type "list",data:=.seq vs.toArray} (.lst (ns.map V.int))) else none) hb e).trans (if_neg e2)) z
theorem walk_ofT{l:OpenLaw}{n k:Nat}{q:Program}{loose:List Str}{XP:(Str->Option Value)->Heap->Prop}{YP:World->Heap->Prop}{d:DefRec}{K:Params->Frag}{sp:World->Sp}{x:Str}{tabs:World->List Addr}{bm:Addr}
  (hn:l.most=some n) (hn2:n<=sizeLine) (hdf:d.params.defaults=[]) (hr:Room k callerA)
  (hY:∀(w:World) (h:Heap),YP w h->(K w.params).In h)
  (hTb:∀(w:World) (h:Heap) (mean:ExcName->Option Value) (mg mb:Str->Option Value),(K w.params).In h->Top q (looseW q loose) mean mg mb h->∀b∈tabs w,(isCodeTable h b/\h.get? b=some (tabObj #[]))/\(K w.params).lookup b=none)
  (hBm:∀(w:World) (h:Heap) (mg:Str->Option Value),(K w.params).In h->h.Ns mainGlobals mg->mg "__builtins__"=some (.ref bm)/\(K w.params).lookup bm=none)
  (F:∀(w:World) (mg:Str->Option Value) (fa:Addr) (h:Heap),(K w.params).In h->h.Ns mainGlobals mg->mg d.name=some (.ref fa)->
   ∃fd:FuncData,(∀(s:Shared) (u:Value),BindsTo s fd ⟨[u],[]⟩ [(x,u)])/\
    ∀base:Heap,(K w.params).In base->base.Ns mainGlobals mg->gz l.prog w (K w.params) mg base i7 k fa fd [x] (sp w))
  (hsp:∀(w:World) (H:Hp) (a:Addr) (ns:List Int),ns.length<=n->qY (tabs w) bm H->SqL (K w.params) H a (ns.map V.int)->sp w [.ref a] H (λv _=>v=.bl true) λ_ _ _=>False):
  WalkO q loose XP YP l.row.toRowW d [] (λf vs=>PySem.call f vs):=by
 refine Att.attach_call hn hdf λw s₀ s₁ mg mb fa o pm cd doc a vs ns G Y ho hd hcd hmg hobj hints hlen hg=>?_;have KX:=hY w _ Y;obtain⟨fd,hb,hF⟩:=F w mg fa _ KX G.T.g hmg;have hT:=hTb w _ _ _ _ KX G.T;obtain⟨bm',ob,a1,a2,a3,a4,a5,a6⟩:=G.T.bmain;obtain⟨c1,c2⟩:=hBm w _ _ KX G.T.g;rw[c1] at a1;cases a1;exact aA3 KX G.T.g G.T.b G.T.builtins G.T.nolimit hg (λb hb=>(hT b hb).1) (λb hb=>(hT b hb).2) a3 c2 a4 a5 a6 hobj hints (bV hlen hn2) hr hF hb λH hO hS=>hsp w H a ns hlen hO hS
theorem Pn{K:Frag}{mg:Str->Option Value}{h:Heap}{c Pt bm:Addr}{od:Option Addr}{sl:Array (Option Value)}{v0 v1 v2 v3 v4 v5 v6 v8 v12 v13 v14 v15 v16 v17:Value}{fl tx:Int}{tg tt tf:Tok}{inF:Bool}{file:Str}(X:K.In h)(G:h.Ns mainGlobals mg)
  (l:K.lookup c=some ⟨.type "code",od,.fields #[v0,v1,v2,v3,v4,v5,v6,.int fl tg,v8,.bool inF,.int tx tt,.ref Pt,v12,v13,v14,v15,v16,v17,.str file tf],sl⟩) (ne:c≠Pt)
  (b1:nsIn K mainGlobals "__builtins__"=some (some (.ref bm))) (b2:bm≠builtinsNs):m6 K mg c Pt bm:=
 ⟨λh' X'=>⟨_,_,file,tf,fl,tg,inF,tx,tt,X' _ _ l,rfl,rfl,rfl,rfl,rfl,rfl,rfl,rfl,ne⟩,mg_of X G b1,b2⟩
section
variable{X:Cx}{k:Nat}{o i value:Expr}{td ty tv:TE}{pos pos':Pos}
theorem yR(hr:Room k X.A)(hi:E X i ty)(ho:E X o td)(hm:behindInMarks .NotIn o=false:=by rfl):T X (.Compare i [.NotIn] [o] pos) (L2.tB (JP ty td)):=⟨N8 (aAD (wZ hr) hi.h ho.h) hm⟩
theorem vZ(hr:Room k X.A)(ho:E X o td)(hi:E X i ty)(hv:E X value tv)(hs:swapsWith value (some (.Subscript o i pos')) pos.line X.env=pure false:=by rfl):S X (.Assign [.Subscript o i pos'] value pos) (Ic td ty tv):=⟨Qs (wZ hr) ho.h hi.h hv.h hs⟩
end
end L2
namespace L2
open PySem PySem.Spec PyProof.Rows PySem.SeqAt
section
variable{X:Cx}
theorem wu(hu:X.A.units+64<cLine):gF X (compareOp .Eq) (λx y H Q=>∃(a b:Addr) (vs:List V),x=.ref a/\y=.ref b/\SqL X.K H a vs/\SqL X.K H b []/\Q (.bl (decide (vs=[]))) H):=by
 refine⟨λpins s σ H x y v u Q I rx ry h=>?_⟩;obtain⟨a,b,vs,rfl,rfl,ha,hb,q⟩:=h;cases rx;cases ry;obtain⟨its,rv,pl,_⟩:=I.list ha;obtain⟨its',rv',pl',_⟩:=I.list hb;cases rv';have e:=rv.length;cases vs with
 |nil=>
  cases rv;refine SeqAt.RcAt.lists (e:=λ_=>true) pl.isList pl'.isList rfl ⋯ (λi h1 h2=>SeqAt.EqAt.same _) _ _ _ _ ?_;exact⟨.bl true,H,I,by show Value.bool _=Value.bool true;congr 1,q⟩
 |cons v0 vs=>
  refine SeqAt.RcAt.lists_lengths pl.isList pl'.isList (by rw[bJ,←e];rfl) ⋯ _ _ _ _ ?_;exact⟨.bl false,H,I,rfl,q⟩
end
end L2
namespace L2
open PySem PySem.Spec PyProof.Rows PySem.SeqAt
theorem eG{X:Cx}{st:Stmt}{rest:List Stmt}{t u:TS}(h1:S X st t)(h2:Ss X rest u):Ss X (st::rest) (let r:=u;rP t r):=Vg h1 h2
theorem hU{X:Cx}{st:Stmt}{rest:List Stmt}{t u:TS}(h1:S X st t)(h2:Ss X rest u):Ss X (st::rest) (let r:=u;Hh t r):=Qt h1 h2
theorem GL{J:It}{js:List Nat}{σ:St}{tt:TT}{te:TE}{Q:VK}{H1:Hp}(h:mr J js σ tt te Q H1):qZ J 1 js (iV 0) σ tt te Q H1:=by
 intro D hD;obtain⟨W,h0,hs⟩:=h D hD;refine⟨W,h0,λi m H2 w=>?_⟩;rcases hs i m H2 w with z | ⟨hg,z⟩
 ·exact .inl z
 ·refine .inr ⟨hg,λv H3 y τ hτ=>?_⟩;obtain⟨u,rfl⟩:∃u,τ=[u]:=List.length_eq_one_iff.mp hτ;exact⟨⟨[some v],rfl,rfl⟩,z v H3 y⟩
section
variable{X:Cx}{elt iter:Expr}{x y:Str}{px py pos spos:Pos}{ifs:List Expr}{scope:Scope}{N':List Str}{js:List Nat}{tt:TT}{te:TE}{wi:TI}
theorem Hs{cl:List (Str×Addr)}{C:Addr}{ex:List Addr}{pins:List (Addr×Obj)}{s:Shared}{H:Hp}(hx:scope.names.lookup x=some .local)(hnd:(x::N').Nodup):Gt (g8 X ([x]++N') scope cl C ex pins s H) (.Name x px) (iV 0):=by
 have hl:(relabel scope X.env).names.lookup x=some .local:=by rw[zP,hx];rfl
 exact⟨FS hnd rfl (.inl hl) (.inr hl)⟩
theorem jw(N':List Str)(js:List Nat)(hi:Il X (.Name x px) iter wi)
  (ht:∀(cl:List (Str×Addr)) (C:Addr) (ex:List Addr) (pins:List (Addr×Obj)) (s:Shared) (H:Hp),Fs (g8 X (x::N') scope cl C ex pins s H) ifs tt)
  (he:∀(cl:List (Str×Addr)) (C:Addr) (ex:List Addr) (pins:List (Addr×Obj)) (s:Shared) (H:Hp),E (g8 X (x::N') scope cl C ex pins s H) elt te)
  (hcl:∃cl,jh X scope cl:=by exact qD rfl rfl rfl rfl) (hx:scope.names.lookup x=some .local:=by rfl) (hnd:(x::N').Nodup:=by decide +kernel) (hN:js.map (λj=>X.N[j]?)=N'.map some:=by rfl)
  (hk:N'.all (λy=>(X.env.kindOf y==some .cell)||(X.env.kindOf y==some .free))=true:=by rfl) (hf:N'.all (λy=>scope.names.lookup y==some .free)=true:=by rfl) (hc:X.calm=true:=by rfl)
  (hs:∀x,foldedSetIterable iter X.env x=pure x:=by intro _;rfl):E X (.ListComp elt [⟨.Name x px,iter,ifs,0⟩] scope pos) (I8 wi js tt te):=by
 obtain⟨cl,hcl⟩:=hcl;refine⟨λpins s σ H Q I h=>?_⟩;rw[eval_ListComp];refine dI (use:=none) rfl hs hcl.is hcl.kind hcl.names (eX (hi.h pins s σ H _ I h) λxv s₁ h₁=>eX h₁ λitv s₂ h₂=>?_);obtain⟨it,fp,tn,J,H2,rfl,I2,T,st,hfp,q⟩:=h₂;refine qo (xs:=[x]) (g:=iV 0) (RR:=λacc C=>compPost (model X.prog X.w) X.A X.xe none (EP X pins σ Q) acc C) hcl hnd hN hk hf hc (λ_ _ _ _ _=>(Hs hx hnd).h) (λC ex pins s H=>(ht cl C ex pins s H).h) (λC ex pins s H=>(he cl C ex pins s H).h) I2 T st hfp (GL q) ?_
 intro D C s' H' m I' hC0 hCL hCs hCc hCp hn hq;refine⟨m,hn,λh' sb=>⟨.ref D,H',?_,rfl,hq⟩⟩;exact I'.turned (t':=s'.toks) (λb o hb e=>(sb.2 b hb).trans e) hC0 hCL (.inr hCs) hCc hCp
theorem pC(i:Nat)(N':List Str)(js:List Nat)(hi:Il X (.Name x px) iter wi)
  (ht:∀(cl:List (Str×Addr)) (C:Addr) (ex:List Addr) (pins:List (Addr×Obj)) (s:Shared) (H:Hp),Fs (g8 X (x::N') scope cl C ex pins s H) ifs tt)
  (he:∀(cl:List (Str×Addr)) (C:Addr) (ex:List Addr) (pins:List (Addr×Obj)) (s:Shared) (H:Hp),E (g8 X (x::N') scope cl C ex pins s H) elt te)
  (hXN:X.N.Nodup) (hsw:swapsWith (.ListComp elt [⟨.Name x px,iter,ifs,0⟩] scope pos) (some (.Name y py)) spos.line X.env=pure true:=by rfl)
  (hiN:X.N[i]? =some y:=by rfl) (hy:X.env.scope.names.lookup y=some .local:=by rfl)
  (hcl:∃cl,jh X scope cl:=by exact qD rfl rfl rfl rfl) (hx:scope.names.lookup x=some .local:=by rfl) (hnd:(x::N').Nodup:=by decide +kernel) (hN:js.map (λj=>X.N[j]?)=N'.map some:=by rfl)
  (hk:N'.all (λy=>(X.env.kindOf y==some .cell)||(X.env.kindOf y==some .free))=true:=by rfl) (hf:N'.all (λy=>scope.names.lookup y==some .free)=true:=by rfl) (hc:X.calm=true:=by rfl)
  (hs:∀x,foldedSetIterable iter X.env x=pure x:=by intro _;rfl):S X (.Assign [.Name y py] (.ListComp elt [⟨.Name x px,iter,ifs,0⟩] scope pos) spos) (mN (I8 wi js tt te) (iV i)):=by
 obtain⟨cl,hcl⟩:=hcl;refine⟨λpins s σ H D I h=>?_⟩;rw[exec_Assign_Name_used _ _ _ _ hsw];refine dJ (wpAny_standAt (dJ ?_));show wpAny _ X.A (do let _ ←comprehension (.ListComp elt [⟨.Name x px,iter,ifs,0⟩] scope pos) scope X.env _ (newList []) false (eval iter X.env) (some (assign (.Name y py) X.env))) _ _ s
 refine dJ (dM (dI (use:=some (assign (.Name y py) X.env)) (Q:=λ_ s'=>SP X pins D .next s') rfl hs hcl.is hcl.kind hcl.names ?_) (λ_ s' hq=>dX (dX hq)) λ_ _ z=>z);refine eX (hi.h pins s σ H _ I h) λxv s₁ h₁=>eX h₁ λitv s₂ h₂=>?_;obtain⟨it,fp,tn,J,H2,rfl,I2,T,st,hfp,q⟩:=h₂;refine qo (xs:=[x]) (g:=iV 0) (Q:=λv H'=>D.nx (σ.set i (some v)) H') (RR:=λacc C=>compPost (model X.prog X.w) X.A X.xe (some (assign (.Name y py) X.env)) (λ_ s'=>SP X pins D .next s') acc C) hcl hnd hN hk hf hc (λ_ _ _ _ _=>(Hs hx hnd).h) (λC ex pins s H=>(ht cl C ex pins s H).h) (λC ex pins s H=>(he cl C ex pins s H).h) I2 T st hfp (GL q) ?_
 intro D' C s' H' m I' hC0 hCL hCs hCc hCp hn hq;show wpAny _ _ (assign (.Name y py) X.env (.ref D')) _ _ s';refine wpAny_assign_Name (tO I' hXN hiN (.inl hy) (v:=.ref D') rfl (λs3 I3 sb3=>?_) (.inr hy));obtain⟨a3,sb3,e3⟩:=sb3;have hCa:C≠a3:=by
  rcases e3 with e3 | e3
  ·rw[e3];exact hCL
  ·exact λz=>hCc y a3 e3 z.symm
 refine⟨m,hn.sameBut sb3 hCa,λh' sb=>⟨σ.set i (some (.ref D')),H',?_,hq⟩⟩;exact I3.turned (t':=s3.toks) (λb o hb e=>(sb.2 b hb).trans e) hC0 hCL (.inr hCs) hCc hCp
variable{e e1 e2 e3:Expr}{t t1 t2 t3:TE}
theorem A1(h:E X e t)(he':starEach (e::[]) X.env=(false,eval e X.env)::starEach [] X.env:=by rfl):As X [e] (jc t iP):=aC h aN he'
theorem A2(h1:E X e1 t1)(h2:E X e2 t2)(he1':starEach (e1::[e2]) X.env=(false,eval e1 X.env)::starEach [e2] X.env:=by rfl)(he2':starEach (e2::[]) X.env=(false,eval e2 X.env)::starEach [] X.env:=by rfl):As X [e1,e2] (jc t1 (jc t2 iP)):=aC h1 (aC h2 aN he2') he1'
theorem A3(h1:E X e1 t1)(h2:E X e2 t2)(h3:E X e3 t3)(he1':starEach (e1::[e2,e3]) X.env=(false,eval e1 X.env)::starEach [e2,e3] X.env:=by rfl)(he2':starEach (e2::[e3]) X.env=(false,eval e2 X.env)::starEach [e3] X.env:=by rfl)(he3':starEach (e3::[]) X.env=(false,eval e3 X.env)::starEach [] X.env:=by rfl):As X [e1,e2,e3] (jc t1 (jc t2 (jc t3 iP))):=aC h1 (aC h2 (aC h3 aN he3') he2') he1'
end
noncomputable def Y0{X x pos}:=@v_ X x pos 0
noncomputable def Y1{X x pos}:=@v_ X x pos 1
noncomputable def Y2{X x pos}:=@v_ X x pos 2
noncomputable def Y3{X x pos}:=@v_ X x pos 3
noncomputable def Y4{X x pos}:=@v_ X x pos 4
noncomputable def Y5{X x pos}:=@v_ X x pos 5
noncomputable def Y6{X x pos}:=@v_ X x pos 6
noncomputable def Y7{X x pos}:=@v_ X x pos 7
noncomputable def Y8{X x pos}:=@v_ X x pos 8
noncomputable def Y9{X x pos}:=@v_ X x pos 9
abbrev Dm(P:Program)(w:World)(mg:Str->Option Value)(base:Heap){K:FG}{C:Addr}{m qual:Str}{st:Stmt}{ps:List Str}(_:FnM K C m qual st ps)(k:Nat)(sp:Sp):Prop:=fV P w K mg base C m k ps sp
end L2
namespace L2
noncomputable def iv(σ:St)(i:Nat):Int:=match σ[i]? with
 |some (some (.int n))=>n
 |_=>0
end L2
namespace L2
open PySem PySem.Spec PyProof.Rows
abbrev Dx(P:Program)(w:World)(base:Heap){K:PySem.W.Frag}{mg:Str->Option Value}{x:Str}{st:Stmt}{ps:List Str}(_:Fn K mg x st ps)(k:Nat)(sp:Sp):Prop:=Df P w K mg base x k ps sp
end L2
namespace K63
open PySem PySem.Spec PyProof.Rows L2 KM
noncomputable def top(i:Nat):Stmt:=PySem.Challenge.pw_fivefields_k63_on_days.main.body.getD i (.Pass ⟨0,0,0,0⟩)
noncomputable abbrev FN:Stmt:=gu (top 71) 0
noncomputable abbrev Gk:Stmt:=gu (top 72) 0
noncomputable abbrev GZ:Stmt:=gu (top 72) 1
noncomputable abbrev nS:Stmt:=gu (top 73) 0
noncomputable abbrev Ir:Stmt:=gu (top 73) 1
noncomputable abbrev HQ:Stmt:=gu (top 74) 0
noncomputable abbrev Hx:Stmt:=gu (top 74) 1
noncomputable abbrev GU:Stmt:=gu (top 75) 0
noncomputable abbrev EI:Stmt:=gu (top 76) 0
noncomputable abbrev IK:Stmt:=gu (top 76) 1
noncomputable abbrev K2:Stmt:=gu (top 77) 0
noncomputable abbrev HW:Stmt:=gu (top 77) 1
noncomputable abbrev G9:Stmt:=gu (top 78) 0
noncomputable abbrev Gx:Stmt:=gu (top 78) 1
noncomputable abbrev KE:Stmt:=gu (top 97) 0
noncomputable abbrev Fw:Stmt:=gu (top 97) 5
noncomputable abbrev Ik:Stmt:=gu (top 97) 4
noncomputable abbrev Ki:Stmt:=gu (top 97) 8
noncomputable abbrev GQ:Stmt:=gu (top 97) 7
noncomputable abbrev HU:Stmt:=gu (top 97) 6
noncomputable abbrev Hk:Stmt:=gu (top 109) 1
noncomputable abbrev F5:Stmt:=gu (top 109) 1
noncomputable abbrev GX:Stmt:=gu (top 113) 2
noncomputable abbrev Ip:Stmt:=gu (top 114) 2
noncomputable abbrev Ee:Stmt:=gu (top 115) 2
noncomputable abbrev FK:Stmt:=gu (top 116) 2
noncomputable abbrev JO:Stmt:=gu (top 109) 2
noncomputable abbrev II:Stmt:=gu (top 109) 2
noncomputable abbrev Kv:Stmt:=gu (top 113) 3
noncomputable abbrev Gf:Stmt:=gu (top 114) 3
noncomputable abbrev EY:Stmt:=gu (top 115) 3
noncomputable abbrev Jr:Stmt:=gu (top 116) 3
noncomputable abbrev Eo:Stmt:=gu (top 112) 0
noncomputable abbrev FL:Stmt:=gu (top 113) 0
noncomputable abbrev Hj:Stmt:=gu (top 114) 0
noncomputable abbrev IW:Stmt:=gu (top 115) 0
noncomputable abbrev KO:Stmt:=gu (top 116) 0
noncomputable abbrev JY:Stmt:=gu (top 109) 3
noncomputable abbrev GR:Stmt:=gu (top 112) 2
noncomputable abbrev J2:Stmt:=gu (top 113) 4
noncomputable abbrev GF:Stmt:=gu (top 114) 4
noncomputable abbrev Ig:Stmt:=gu (top 115) 4
noncomputable abbrev Gi:Stmt:=gu (top 116) 4
noncomputable abbrev Ej:Stmt:=gu (top 109) 0
noncomputable abbrev E9:Stmt:=gu (top 112) 1
noncomputable abbrev Kq:Stmt:=gu (top 113) 1
noncomputable abbrev Kh:Stmt:=gu (top 114) 1
noncomputable abbrev Ks:Stmt:=gu (top 115) 1
noncomputable abbrev Fm:Stmt:=gu (top 116) 1
noncomputable def iR(y:Int):Bool:=decide (y%4=0)&&(!decide (y%100=0)||decide (y%400=0))
noncomputable def mb(y s:Int):Int:=(y+s-1) / s
noncomputable def db(y:Int):Int:=365*y+(mb y 4-mb y 100+mb y 400)
noncomputable def lasts:List Int:=[31,28,31,30,31,30,31,31,30,31,30,31]
noncomputable def jq(y:Int):Int:=if iR y=true then 1 else 0
noncomputable def fH(y m:Int):Int:=if m=2 then 28+jq y else lasts.getD (m-1).toNat 0
theorem Es(y:Int):iR y=true↔(y%4=0/\(y%100≠0∨y%400=0)):=by
 unfold iR;simp
theorem Jn{y:Int}(h:y%4=0/\(y%100≠0∨y%400=0)):iR y=true:=(Es y).mpr h
theorem Kr{y:Int}(h:¬(y%4=0/\(y%100≠0∨y%400=0))):iR y=false:=by
 cases e:iR y
 ·rfl
 ·exact absurd ((Es y).mp e) h
theorem KN(y:Int):0<=jq y/\jq y<=1:=by
 unfold jq;split<;>omega
theorem p7(y:Int):db y=365*y+((y+3) / 4-(y+99) / 100+(y+399) / 400):=by
 have e1:y+4-1=y+3:=⋯;have e2:y+100-1=y+99:=⋯;have e3:y+400-1=y+399:=⋯;unfold db mb;rw[e1,e2,e3]
theorem G6(y q:Int):db (y+400*q)=db y+146097*q:=by rw[p7,p7];omega
theorem O7(y q:Int):jq (y+400*q)=jq y:=by
 have e:iR (y+400*q)=iR y:=by
  unfold iR;rw[show (y+400*q)%4=y%4 by omega,show (y+400*q)%100=y%100 by omega,show (y+400*q)%400=y%400 by omega]
 unfold jq;rw[e]
theorem BR:∀r:Nat,r<400->db ((r:Int)+1)-db (r:Int)=365+jq (r:Int):=by decide +kernel
theorem qQ(y:Int):db (y+1)-db y=365+jq y:=by
 have z:=BR (y%400).toNat ⋯;obtain⟨q,e⟩:∃q,y=((y%400).toNat:Int)+400*q:=⟨y / 400,⋯⟩;generalize ((y%400).toNat:Int)=r at z e;rw[e,show r+400*q+1=r+1+400*q by omega,G6,G6,O7];omega
theorem GH{m:Int}(h1:1<=m)(h2:m<=12):ie (lasts.map V.int) (m-1)=some (V.int (lasts.getD (m-1).toNat 0)):=by
 have hk:(m-1).toNat<12:=⋯;have e:m-1=(((m-1).toNat:Nat):Int):=⋯;rw[e];refine kT ?_;rw[bS];generalize (m-1).toNat=j at hk
 match j,hk with
 |0,_ | 1,_ | 2,_ | 3,_ | 4,_ | 5,_ | 6,_ | 7,_ | 8,_ | 9,_ | 10,_ | 11,_=>rfl
 |n+12,h=>exact absurd h ⋯
noncomputable def kL(y:Int):Nat->Int
 |0=>0
 |n+1=>kL y n+fH y ((n:Int)+1)
noncomputable def ahead(y m:Int):Int:=kL y (m-1).toNat
theorem rB{y m:Int}(h:1<=m):ahead y (m+1)=ahead y m+fH y m:=by
 have e:(m+1-1).toNat=(m-1).toNat+1:=⋯;have e2:(((m-1).toNat:Nat):Int)+1=m:=⋯;unfold ahead;rw[e];show kL y (m-1).toNat+fH y (((m-1).toNat:Int)+1)=_;rw[e2]
theorem ue(y:Int):ahead y 13=365+jq y:=by
 show 0+fH y 1+fH y 2+fH y 3+fH y 4+fH y 5+fH y 6+fH y 7+fH y 8+fH y 9+fH y 10+fH y 11+fH y 12=_;have e2:fH y 2=28+jq y:=rfl;rw[e2];show 0+31+(28+jq y)+31+30+31+30+31+31+30+31+30+31=_;omega
theorem K8{y m:Int}(h1:1<=m)(h2:m<=12):28<=fH y m:=by
 have hl:=KN y;unfold fH;split
 ·omega
 ·have hk:(m-1).toNat<12:=⋯;generalize (m-1).toNat=j at hk
  match j,hk with
  |0,_ | 1,_ | 2,_ | 3,_ | 4,_ | 5,_ | 6,_ | 7,_ | 8,_ | 9,_ | 10,_ | 11,_=>decide
  |n+12,h=>exact absurd h ⋯
theorem F6(y:Int):∀n:Nat,((List.range n).map λi:Nat=>fH y (1+(i:Int))).sum=kL y n
 |0=>rfl
 |n+1=>by
  rw[E1,List.sum_append,F6 y n];show kL y n+(fH y (1+(n:Int))+0)=kL y n+fH y ((n:Int)+1);rw[Int.add_comm 1 (n:Int),Int.add_zero]
noncomputable def nv(k:Int):List Int:=if k / 7=12 then [2,29,k%7] else [k / 7+1,fH 1 (k / 7+1),k%7]
noncomputable def ki(k:Int):Int:=if k / 7=12 then 2 else k / 7+1
noncomputable def gI(k:Int):Int:=if k / 7=12 then 29 else fH 1 (k / 7+1)
theorem mY(k:Int):nv k=[ki k,gI k,k%7]:=by
 unfold nv ki gI;split<;>rfl
theorem V1:∀n:Nat,n<91->(1<=ki n/\ki n<=12)/\(28<=gI n/\gI n<=31):=by decide +kernel
theorem kM{k:Int}(h0:0<=k)(h1:k<=90):(1<=ki k/\ki k<=12)/\Lf (gI k) (k%7):=by
 have z:=V1 k.toNat ⋯;rw[b7 h0] at z;exact⟨z.1,z.2,⋯,⋯⟩
def DVn(c:Cs)(D:Addr)(H:Hp)(v:V)(ko:Ko):Prop:=DV c H v ko/\∀p,v=.ref p->p≠D
theorem DVn.upd{c:Cs}{D:Addr}{H:Hp}{l':List V}{v:V}:∀{ko:Ko},DVn c D H v ko->(∃l,H D=some (.lst l))->DVn c D (upd H D (.lst l')) v ko
 |none,h,_=>h
 |some ks,⟨⟨p,qs,e,h1,h2,h3⟩,hn⟩,⟨l,hl⟩=>⟨⟨p,qs,e,by rw[eW (hn p e)];exact h1,h2.keepM (rD hl),h3⟩,hn⟩
def RR(c:Cs)(m0 m1 m3:Int)(kd kw:Ko)(D:Addr)(i:Nat)(l:List V)(H:Hp):Prop:=match i with
 |0=>l=[]
 |1=>l=[.int m0]
 |2=>l=[.int m0,.int m1]
 |3=>∃dv,l=[.int m0,.int m1,dv]/\DVn c D H dv kd
 |4=>∃dv,l=[.int m0,.int m1,dv,.int m3]/\DVn c D H dv kd
 |_=>∃dv wv,l=[.int m0,.int m1,dv,.int m3,wv]/\DVn c D H dv kd/\DVn c D H wv kw
theorem RR.upd{c:Cs}{m0 m1 m3:Int}{kd kw:Ko}{D:Addr}{l l':List V}{H:Hp}(hl:∃l,H D=some (.lst l)):∀{i:Nat},RR c m0 m1 m3 kd kw D i l H->RR c m0 m1 m3 kd kw D i l (upd H D (.lst l'))
 |0,h=>h
 |1,h=>h
 |2,h=>h
 |3,⟨dv,e,h⟩=>⟨dv,e,h.upd hl⟩
 |4,⟨dv,e,h⟩=>⟨dv,e,h.upd hl⟩
 |_+5,⟨dv,wv,e,h,h'⟩=>⟨dv,wv,e,h.upd hl,h'.upd hl⟩
theorem VY{ws:List (List Nat)}(h:∀w∈ws,w≠[]):qH (.str (Tx [])) (ws.map λq=>V.str (Tx q))=false:=by
 unfold qH;rw[List.any_map,c5];intro w hw hc;have e:Tx w=Tx []:=beq_iff_eq.mp (show (Tx w==Tx [])=true from hc);exact h w hw (by have:=congrArg (λz=>z.cps.toList) e;simpa [Tx] using this)
noncomputable def gQ(m0 m1:Int)(dv:V)(m3:Int)(wv:V)(tm:Int):List (Str×V):=fJ "time_mask" (.int tm) (fJ "weekday_marks" wv (fJ "month_mask" (.int m3) (fJ "day_marks" dv (fJ "hour_mask" (.int m1) (fJ "minute_mask" (.int m0) [])))))
theorem JJ(m0 m1:Int)(dv:V)(m3:Int)(wv:V)(tm:Int):(gQ m0 m1 dv m3 wv tm).lookup ("minute_mask":Str)=some (.int m0):=by
 unfold gQ;rw[fO,if_neg (by decide +kernel),fO,if_neg (by decide +kernel),fO,if_neg (by decide +kernel),fO,if_neg (by decide +kernel),fO,if_neg (by decide +kernel),fO,if_pos rfl]
theorem Kw(m0 m1:Int)(dv:V)(m3:Int)(wv:V)(tm:Int):(gQ m0 m1 dv m3 wv tm).lookup ("hour_mask":Str)=some (.int m1):=by
 unfold gQ;rw[fO,if_neg (by decide +kernel),fO,if_neg (by decide +kernel),fO,if_neg (by decide +kernel),fO,if_neg (by decide +kernel),fO,if_pos rfl]
theorem anE(m0 m1:Int)(dv:V)(m3:Int)(wv:V)(tm:Int):(gQ m0 m1 dv m3 wv tm).lookup ("day_marks":Str)=some (dv):=by
 unfold gQ;rw[fO,if_neg (by decide +kernel),fO,if_neg (by decide +kernel),fO,if_neg (by decide +kernel),fO,if_pos rfl]
theorem FD(m0 m1:Int)(dv:V)(m3:Int)(wv:V)(tm:Int):(gQ m0 m1 dv m3 wv tm).lookup ("month_mask":Str)=some (.int m3):=by
 unfold gQ;rw[fO,if_neg (by decide +kernel),fO,if_neg (by decide +kernel),fO,if_pos rfl]
theorem YU(m0 m1:Int)(dv:V)(m3:Int)(wv:V)(tm:Int):(gQ m0 m1 dv m3 wv tm).lookup ("weekday_marks":Str)=some (wv):=by
 unfold gQ;rw[fO,if_neg (by decide +kernel),fO,if_pos rfl]
theorem Fo(m0 m1:Int)(dv:V)(m3:Int)(wv:V)(tm:Int):(gQ m0 m1 dv m3 wv tm).lookup ("time_mask":Str)=some (.int tm):=by
 unfold gQ;rw[fO,if_pos rfl]
theorem q9(m0 m1:Int)(dv:V)(m3:Int)(wv:V)(tm:Int):(gQ m0 m1 dv m3 wv tm).lookup ("days_in":Str)=none:=by
 unfold gQ;rw[fO,if_neg (by decide +kernel),fO,if_neg (by decide +kernel),fO,if_neg (by decide +kernel),fO,if_neg (by decide +kernel),fO,if_neg (by decide +kernel),fO,if_neg (by decide +kernel)];rfl
theorem GM(m0 m1:Int)(dv:V)(m3:Int)(wv:V)(tm:Int):(gQ m0 m1 dv m3 wv tm).lookup ("shut_by":Str)=none:=by
 unfold gQ;rw[fO,if_neg (by decide +kernel),fO,if_neg (by decide +kernel),fO,if_neg (by decide +kernel),fO,if_neg (by decide +kernel),fO,if_neg (by decide +kernel),fO,if_neg (by decide +kernel)];rfl
theorem Eb(m0 m1:Int)(dv:V)(m3:Int)(wv:V)(tm:Int):(gQ m0 m1 dv m3 wv tm).lookup ("on_days":Str)=none:=by
 unfold gQ;rw[fO,if_neg (by decide +kernel),fO,if_neg (by decide +kernel),fO,if_neg (by decide +kernel),fO,if_neg (by decide +kernel),fO,if_neg (by decide +kernel),fO,if_neg (by decide +kernel)];rfl
theorem Ox(m0 m1:Int)(dv:V)(m3:Int)(wv:V)(tm:Int):(gQ m0 m1 dv m3 wv tm).lookup ("holds":Str)=none:=by
 unfold gQ;rw[fO,if_neg (by decide +kernel),fO,if_neg (by decide +kernel),fO,if_neg (by decide +kernel),fO,if_neg (by decide +kernel),fO,if_neg (by decide +kernel),fO,if_neg (by decide +kernel)];rfl
theorem zH(m0 m1:Int)(dv:V)(m3:Int)(wv:V)(tm:Int):(gQ m0 m1 dv m3 wv tm).lookup ("times":Str)=none:=by
 unfold gQ;rw[fO,if_neg (by decide +kernel),fO,if_neg (by decide +kernel),fO,if_neg (by decide +kernel),fO,if_neg (by decide +kernel),fO,if_neg (by decide +kernel),fO,if_neg (by decide +kernel)];rfl
theorem oG{lo hi:Int}:∀{ws:List (List Nat)} {nss:List (List Int)},Paired (kq lo hi) ws nss->(∀w∈ws,Cl w)/\(∀n∈nss.flatten,lo<=n/\n<=hi)/\nss.flatten.length<=64*ws.length
 |_,_,.nil=>⟨λw hw=>(nomatch hw),λn hn=>(nomatch hn),aX _⟩
 |w::ws,ns::nss,.cons r t=>by
  obtain⟨h1,h2,h3⟩:=oG t;refine⟨λv hv=>?_,λn hn=>?_,?_⟩
  ·rcases a9.mp hv with z | z
   ·subst z;exact r.2.1
   ·exact h1 v z
  ·rw[c8] at hn;exact (b8.mp hn).elim (r.2.2.1 n) (h2 n)
  ·rw[c8,a8,bQ];have:=r.2.2.2.2;omega
theorem mZ{α β:Type}{F:α->β->Prop}:∀{l:List α} {r:List β} {a:α} {b:β},Paired F l r->F a b->Paired F (l++[a]) (r++[b])
 |_,_,_,_,.nil,h=>.cons h .nil
 |_,_,_,_,.cons x t,h=>.cons x (mZ t h)
theorem qt{b:Bool}{ko:Ko}{a l f:Int}(h:Lf l f)(o:∀ks,ko=some ks->∀k∈ks,k.ok)(ha:0<=a):0<=jO ko a l f:=by
 cases ko with
 |none=>exact ha
 |some ks=>exact kg ha (Mn h (o ks rfl))
theorem tM{m:Int}(h:0<=m)(k:Nat):Builtin.bitAnd (m / 2^k) 1=0↔tb m k=false:=by
 have hb:=mv h k;have h0:(0:Int)<=m / 2^k:=cX h (bZ (i9 k));have e:Builtin.bitAnd (m / 2^k) 1=0∨Builtin.bitAnd (m / 2^k) 1=1:=by
  have n1:=kU h0 (show (0:Int)<=1 by decide);by_cases c:tb m k=true
  ·exact .inr (hb.mpr c)
  ·left;refine jf n1 (bB 0) λi=>?_;rw[kE h0 (by decide),i6];cases i with
   |zero=>
    have:tb (m / 2^k) 0=tb m k:=by
     have:=mX (m:=m) (k:=k) h 0;simpa using this
    rw[this,show tb m k=false by simpa using c];rfl
   |succ i=>
    have:tb 1 (i+1)=false:=nC (n:=1) (by decide) ⋯;rw[this,Bool.and_false]
 constructor
 ·intro z;cases c:tb m k
  ·rfl
  ·rw[hb.mpr c] at z;cases z
 ·intro z;rcases e with e | e
  ·exact e
  ·rw[hb.mp e] at z;cases z
theorem Zi{a m:Int}{k:Nat}(ha:0<=a)(hk:a<2^k)(hm:0<=m):Builtin.bitOr a (m*2^k)=a+m*2^k:=by
 obtain⟨x,rfl⟩:=bY ha;obtain⟨y,rfl⟩:=bY hm;have e:((y:Int)*2^k)=((y*2^k:Nat):Int):=by rw[Int.natCast_mul,jF]
 have hx:x<2^k:=by have:=jF k;omega
 rw[e,pM,Nat.or_comm,←Nat.shiftLeft_eq,←Nat.shiftLeft_add_eq_or_of_lt hx,Nat.shiftLeft_eq];omega
noncomputable def gP(h m:Int):Int:=gM ((mj h).map λz=>m*2^(60*z).toNat)
theorem Gz{h m:Int}(hm:0<=m)(hm2:m<2^60):∀n:Nat,gM ((flt (tb h) 0 n).map λz=>m*2^(60*z).toNat)=((flt (tb h) 0 n).map λz=>m*2^(60*z).toNat).sum/\0<=((flt (tb h) 0 n).map λz=>m*2^(60*z).toNat).sum/\((flt (tb h) 0 n).map λz=>m*2^(60*z).toNat).sum<2^(60*n)
 |0=>by rw[zk];exact⟨rfl,bB 0,(by decide:(0:Int)<2^0)⟩
 |n+1=>by
  obtain⟨h1,h2,h3⟩:=Gz hm hm2 n;have p60:(2:Int)^(60*(n+1))=2^(60*n)*2^60:=by rw[show 60*(n+1)=60*n+60 by omega,Int.pow_add]
  have p0:=i9 (60*n);cases c:tb h n
  ·rw[qJ c,p60];refine⟨h1,h2,Int.lt_of_lt_of_le h3 ?_⟩;have:(2:Int)^(60*n)*1<=2^(60*n)*2^60:=Int.mul_le_mul_of_nonneg_left (by decide) (bZ p0);omega
  ·have ez:(60*(0+(n:Int))).toNat=60*n:=⋯;have hb:(m+1)*2^(60*n)<=2^60*2^(60*n):=Int.mul_le_mul_of_nonneg_right ⋯ (bZ p0);have hn2:0<=m*2^(60*n):=Int.mul_nonneg hm (bZ p0);rw[vT c,bA,List.map_singleton,pA,List.sum_append,h1,ez,Zi h2 h3 hm,p60];rw[Int.add_mul,Int.mul_comm (2^60)] at hb;refine⟨by simp,?_,?_⟩
   ·show 0<=_+(m*2^(60*n)+0);omega
   ·show _+(m*2^(60*n)+0)<_;omega
theorem JW{a b:Int}(h:a+1<=b):db (a+1)<=db b:=by rw[p7,p7];omega
theorem MR{q z:Int}(h:0<=z):db (q*400+z)<=146097*q+366*z:=by rw[p7];omega
def jK(y m k:Int):Prop:=(1<=m/\m<=12)/\1<=k/\k<=fH y m
noncomputable def iA(y m k:Int):Int:=db y+ahead y m+k-1
theorem G0(y:Int):∀(n d:Nat),n+d<=12->kL y n<=kL y (n+d)
 |_,0,_=>bB _
 |n,d+1,h=>by
  have h1:=G0 y n d ⋯;have h2:28<=fH y (((n+d:Nat):Int)+1):=K8 ⋯ ⋯;show kL y n<=kL y (n+d)+fH y (((n+d:Nat):Int)+1);omega
theorem qE{y m n:Int}(h1:1<=m)(h2:m<=n)(h3:n<=13):ahead y m<=ahead y n:=by
 have e:(n-1).toNat=(m-1).toNat+(n-m).toNat:=⋯;unfold ahead;rw[e];exact G0 y _ _ ⋯
theorem Hb{y m k:Int}(h:jK y m k):db y<=iA y m k/\iA y m k<db (y+1)/\iA y m k<db y+ahead y (m+1):=by
 obtain⟨⟨h1,h2⟩,h3,h4⟩:=h;have a1:=rB (y:=y) h1;have a2:ahead y (m+1)<=ahead y 13:=qE ⋯ ⋯ ⋯;have a3:=ue y;have a4:=qQ y;have a5:ahead y 1<=ahead y m:=qE ⋯ h1 ⋯;have a6:ahead y 1=0:=rfl;unfold iA;omega
theorem En{y m k y' m' k':Int}(h:jK y m k)(h':jK y' m' k')(e:iA y m k=iA y' m' k'):y=y'/\m=m'/\k=k':=by
 have b:=Hb h;have b':=Hb h';have ey:y=y':=by
  rcases Int.lt_trichotomy y y' with z | z | z
  ·have:=JW (a:=y) (b:=y') ⋯;omega
  ·exact z
  ·have:=JW (a:=y') (b:=y) ⋯;omega
 subst ey;have em:m=m':=by
  rcases Int.lt_trichotomy m m' with z | z | z
  ·have:=qE (y:=y) (m:=m+1) (n:=m') (by have:=h.1.1;omega) ⋯ (by have:=h'.1.2;omega);have q1:=h'.2.1;have q2:iA y m' k'=db y+ahead y m'+k'-1:=rfl;omega
  ·exact z
  ·have:=qE (y:=y) (m:=m'+1) (n:=m) (by have:=h'.1.1;omega) ⋯ (by have:=h.1.2;omega);have q1:=h.2.1;have q2:iA y m k=db y+ahead y m+k-1:=rfl;omega
 subst em;unfold iA at e;exact⟨rfl,rfl,⋯⟩
noncomputable def jI(y m:Int):Int:=if m=2/\iR y=true then 12 else m-1
noncomputable def kindOf(y m:Int):Int:=7*jI y m+(db y+ahead y m+6)%7
theorem Jb{y m:Int}(h1:1<=m)(h2:m<=12):0<=jI y m/\jI y m<=12:=by
 unfold jI;split<;>omega
theorem oP{y m:Int}(h1:1<=m)(h2:m<=12):0<=kindOf y m/\kindOf y m<=90:=by
 have:=Jb (y:=y) h1 h2;unfold kindOf;omega
theorem FU{y m:Int}(h:¬m=2):fH y m=lasts.getD (m-1).toNat 0:=by unfold fH;rw[if_neg h]
theorem aCJ{y m:Int}(h1:1<=m)(h2:m<=12):nv (kindOf y m)=[m,fH y m,kindOf y m%7]:=by
 have hp:=Jb (y:=y) h1 h2;have e:kindOf y m / 7=jI y m:=by unfold kindOf;omega
 unfold nv;rw[e];by_cases c:m=2/\iR y=true
 ·have ep:jI y m=12:=by unfold jI;rw[if_pos c]
  have el:fH y m=29:=by unfold fH jq;rw[if_pos c.1,if_pos c.2];rfl
  rw[ep,if_pos rfl,el,c.1]
 ·have ep:jI y m=m-1:=by unfold jI;rw[if_neg c]
  rw[ep,if_neg ⋯];have e1:m-1+1=m:=⋯;rw[e1];have el:fH 1 m=fH y m:=by
   by_cases c2:m=2
   ·have hl:¬iR y=true:=λz=>c ⟨c2,z⟩;unfold fH jq;rw[if_pos c2,if_pos c2,if_neg hl];rfl
   ·rw[FU c2,FU c2]
  rw[el]
theorem m9{y m:Int}(h1:1<=m)(h2:m<=12):ki (kindOf y m)=m/\gI (kindOf y m)=fH y m:=by
 have e:=aCJ (y:=y) h1 h2;rw[mY] at e;injection e with e1 e;injection e with e2 e;exact⟨e1,e2⟩
theorem Ek{y m:Int}(h1:1<=m)(h2:m<=12):28<=fH y m/\fH y m<=31:=by
 have e:=m9 (y:=y) h1 h2;have k:=oP (y:=y) h1 h2;rw[←e.2];exact (kM k.1 k.2).2.1
noncomputable def jC(m0 m1 m3:Int)(kd kw:Ko)(d r y m k:Int):V:=
 if tb m3 m.toNat=false then .str (Tx [109,111,110,116,104]) else if tb (iB kd kw (fH y m) ((d-k+1+6)%7)) k.toNat=false then .str (Tx [100,97,121])
 else if tb m1 (r / 60).toNat=false then .str (Tx [104,111,117,114]) else if tb m0 (r%60).toNat=false then .str (Tx [109,105,110,117,116,101]) else .non
section
variable{m0 m1 m3:Int}{kd kw:Ko}{d r y m k:Int}
theorem AY(h:tb m3 m.toNat=false):jC m0 m1 m3 kd kw d r y m k=.str (Tx [109,111,110,116,104]):=if_pos h
theorem AG(h1:tb m3 m.toNat=true)(h:tb (iB kd kw (fH y m) ((d-k+1+6)%7)) k.toNat=false):jC m0 m1 m3 kd kw d r y m k=.str (Tx [100,97,121]):=by
 unfold jC;rw[if_neg (by rw[h1];decide),if_pos h]
theorem A9(h1:tb m3 m.toNat=true)(h2:tb (iB kd kw (fH y m) ((d-k+1+6)%7)) k.toNat=true)(h:tb m1 (r / 60).toNat=false):jC m0 m1 m3 kd kw d r y m k=.str (Tx [104,111,117,114]):=by
 unfold jC;rw[if_neg (by rw[h1];decide),if_neg (by rw[h2];decide),if_pos h]
theorem ye(h1:tb m3 m.toNat=true)(h2:tb (iB kd kw (fH y m) ((d-k+1+6)%7)) k.toNat=true)(h3:tb m1 (r / 60).toNat=true)(h:tb m0 (r%60).toNat=false):jC m0 m1 m3 kd kw d r y m k=.str (Tx [109,105,110,117,116,101]):=by
 unfold jC;rw[if_neg (by rw[h1];decide),if_neg (by rw[h2];decide),if_neg (by rw[h3];decide),if_pos h]
theorem vj(h1:tb m3 m.toNat=true)(h2:tb (iB kd kw (fH y m) ((d-k+1+6)%7)) k.toNat=true)(h3:tb m1 (r / 60).toNat=true)(h:tb m0 (r%60).toNat=true):jC m0 m1 m3 kd kw d r y m k=.non:=by
 unfold jC;rw[if_neg (by rw[h1];decide),if_neg (by rw[h2];decide),if_neg (by rw[h3];decide),if_neg (by rw[h];decide)]
theorem rE(hk:jK y m k)(e:iA y m k=d):kindOf y m%7=(d-k+1+6)%7:=by
 unfold kindOf;unfold iA at e;omega
theorem G1(hk:jK y m k):Lf (fH y m) ((d-k+1+6)%7):=⟨Ek hk.1.1 hk.1.2,⋯,⋯⟩
end
theorem mn{b:Bool}(h:¬b=false):b=true:=by simpa using h
theorem JK{kd kw:Ko}{l f:Int}(h:Lf l f)(od:∀ks,kd=some ks->∀k∈ks,k.ok)(ow:∀ks,kw=some ks->∀k∈ks,k.ok):0<=iB kd kw l f:=by
 unfold iB;split
 ·have:=i9 l.toNat;have:(2:Int)^l.toNat ≥ 1:=⋯;omega
 ·exact qt (b:=true) h ow (qt (b:=false) h od (bB 0))
theorem qF{c:Cs}{H:Hp}{v:V}:∀{ko:Ko},DV c H v ko->∀ks,ko=some ks->∀k∈ks,k.ok
 |some _,⟨_,_,_,_,_,h⟩,_,rfl=>h
theorem CJ{zs:List Int}{i:Int}(h0:0<=i)(h1:i<zs.length):∃z,ie (zs.map V.int) i=some (V.int z):=by
 have hk:i.toNat<zs.length:=⋯;have e:i=((i.toNat:Nat):Int):=⋯;rw[e];exact⟨zs[i.toNat],kT (by rw[bI,cD hk];rfl)⟩
noncomputable def ky(M:Int):Int:=db (M / 12)+ahead (M / 12) (M%12+1)
noncomputable def mE(M:Int):Int:=fH (M / 12) (M%12+1)
noncomputable def md(M:Int):Int:=kindOf (M / 12) (M%12+1)
theorem oY(M:Int):ky (M+1)=ky M+mE M:=by
 unfold ky mE;by_cases c:M%12=11
 ·rw[show (M+1) / 12=M / 12+1 by omega,show (M+1)%12=0 by omega,c];have a1:=rB (y:=M / 12) (m:=12) (by decide);have a2:=ue (M / 12);have a3:=qQ (M / 12);have a4:ahead (M / 12+1) (0+1)=0:=rfl;have e:(12:Int)+1=13:=rfl;have e':(11:Int)+1=12:=rfl;rw[e] at a1;rw[a4,e'];omega
 ·rw[show (M+1) / 12=M / 12 by omega,show (M+1)%12=M%12+1 by omega,rB ⋯];omega
def gH(t:Int):Prop:=0<=t/\t<2^1440
noncomputable def lV(g:Nat->Int):Nat->Int
 |0=>0
 |n+1=>Builtin.bitOr (lV g n) (g n*2^(1440*n))
theorem vt{g:Nat->Int}:∀{n:Nat},(∀j,j<n->gH (g j))->0<=lV g n
 |0,_=>bB 0
 |n+1,h=>kg (vt λj hj=>h j ⋯) (Int.mul_nonneg (h n ⋯).1 (bZ (i9 _)))
theorem EX{g:Nat->Int}(i:Nat):∀{n:Nat},(∀j,j<n->gH (g j))->tb (lV g n) i=(decide (i / 1440<n)&&tb (g (i / 1440)) (i%1440))
 |0,_=>by
  show tb 0 i=_;rw[i6,dU (Nat.not_lt_zero _),Bool.false_and]
 |n+1,h=>by
  have h0:∀j,j<n->gH (g j):=λj hj=>h j ⋯;have hn:=h n ⋯;show tb (Builtin.bitOr (lV g n) (g n*2^(1440*n))) i=_;rw[lD (vt h0) (Int.mul_nonneg hn.1 (bZ (i9 _))),EX i h0,ql hn.1];rcases Nat.lt_trichotomy (i / 1440) n with c | c | c
  ·rw[dQ c,dQ (show i / 1440<n+1 by omega),dU (show ¬1440*n<=i by omega),Bool.false_and,Bool.or_false]
  ·rw[dU (show ¬i / 1440<n by omega),dQ (show i / 1440<n+1 by omega),dQ (show 1440*n<=i by omega),c,show i-1440*n=i%1440 by omega];rfl
  ·rw[dU (show ¬i / 1440<n by omega),dU (show ¬i / 1440<n+1 by omega),nC hn.2 (show 1440<=i-1440*n by omega),Bool.and_false];rfl
structure Cal(S W:Int->Int):Prop where
 up:∀M,S M<S (M+1)
 nn:∀M,0<=W M
 bit:∀M i,tb (W M) i=true->(i:Int)<S (M+1)-S M
def Ev(S W:Int->Int)(t:Int):Prop:=∃M:Int,S M<=t/\t<S (M+1)/\tb (W M) (t-S M).toNat=true
variable{S W:Int->Int}
theorem Cal.le(h:Cal S W)(M:Int):∀n:Nat,S M<=S (M+n)
 |0=>by simp
 |n+1=>by
  have:=h.le M n;have:=h.up (M+n);rw[show M+((n+1:Nat):Int)=M+n+1 by omega];omega
theorem Cal.mono(h:Cal S W){M N:Int}(hl:M<=N):S M<=S N:=by
 have:=h.le M (N-M).toNat;rw[b7 ⋯,show M+(N-M)=N by omega] at this;exact this
theorem Cal.uniq(h:Cal S W){M N t:Int}(h1:S M<=t)(h2:t<S (M+1))(h3:S N<=t)(h4:t<S (N+1)):M=N:=by
 rcases Int.lt_trichotomy M N with c | c | c
 ·have:=h.mono (show M+1<=N by omega);omega
 ·exact c
 ·have:=h.mono (show N+1<=M by omega);omega
theorem YY(h:Cal S W){M mo:Int}{l:Nat}(none:∀t,mo<=t->t<S M->¬Ev S W t)(hl:tb (W M / 2^(max (mo-S M) 0).toNat) l=true)(hj:∀j,j<l->tb (W M / 2^(max (mo-S M) 0).toNat) j=false):
  Ev S W (S M+max (mo-S M) 0+l)/\mo<=S M+max (mo-S M) 0+l/\∀t,mo<=t->t<S M+max (mo-S M) 0+l->¬Ev S W t:=by
 generalize e:max (mo-S M) 0=p at hl hj ⊢;have hp:0<=p/\mo-S M<=p/\(p=0∨p=mo-S M):=⋯;rw[mX (h.nn M)] at hl;have hb:=h.bit M _ hl;refine⟨⟨M,⋯,⋯,?_⟩,⋯,?_⟩
 ·rw[show (S M+p+(l:Int)-S M).toNat=p.toNat+l by omega];exact hl
 ·intro t h1 h2 hE;rcases Int.lt_or_le t (S M) with c | c
  ·exact none t h1 c hE
  ·obtain⟨N,a1,a2,a3⟩:=hE;obtain rfl:=h.uniq c ⋯ a1 a2;have:=hj (t-S M-p).toNat ⋯;rw[mX (h.nn M),show p.toNat+(t-S M-p).toNat=(t-S M).toNat by omega,a3] at this;cases this
theorem NT(h:Cal S W){M mo:Int}(none:∀t,mo<=t->t<S M->¬Ev S W t)(hz:W M / 2^(max (mo-S M) 0).toNat=0):∀t,mo<=t->t<S (M+1)->¬Ev S W t:=by
 intro t h1 h2 hE;rcases Int.lt_or_le t (S M) with c | c
 ·exact none t h1 c hE
 ·obtain⟨N,a1,a2,a3⟩:=hE;obtain rfl:=h.uniq c h2 a1 a2;generalize e:max (mo-S M) 0=p at hz;have hp:0<=p/\mo-S M<=p/\(p=0∨p=mo-S M):=⋯;have z:=mX (h.nn M) p.toNat (t-S M-p).toNat;rw[hz,i6,show p.toNat+(t-S M-p).toNat=(t-S M).toNat by omega,a3] at z;cases z
theorem Q3{c d m:Int}(hc:0<=c)(hd:0<=d)(hm:0<=m)(h0:∀i,(tb c i&&tb d i)=false)(h1:∀i,(tb c i||tb d i)=tb m i):c+d=m:=by
 have ea:Builtin.bitAnd c d=0:=jf (kU hc hd) (bB 0) λi=>by rw[kE hc hd,h0,i6]
 have eo:Builtin.bitOr c d=m:=jf (kg hc hd) hm λi=>by rw[lD hc hd,h1]
 rw[←eo,bitOr_and,ea];omega
theorem GK{m:Int}(h:0<m):∃k,tb m k=true/\∀j,j<k->tb m j=false:=by
 have hex:∃i,tb m i=true:=by
  cases Classical.em (∃i,tb m i=true) with
  |inl z=>exact z
  |inr z=>
   have:m=0:=jf ⋯ (bB 0) λi=>by
    rw[i6];cases e:tb m i with
    |false=>rfl
    |true=>exact absurd ⟨i,e⟩ z
   omega
 obtain⟨i,hi⟩:=hex;have key:∀n i,i<=n->tb m i=true->∃k,tb m k=true/\∀j,j<k->tb m j=false:=by
  intro n;induction n with
  |zero=>
   intro i hi h;obtain rfl:i=0:=⋯;exact⟨0,h,λj hj=>absurd hj (Nat.not_lt_zero _)⟩
  |succ n ih=>
   intro i hi h;cases Classical.em (∃j,j<i/\tb m j=true) with
   |inl z=>
    obtain⟨j,hj,hb⟩:=z;exact ih j ⋯ hb
   |inr z=>
    exact⟨i,h,λj hj=>by
     cases e:tb m j with
     |false=>rfl
     |true=>exact absurd ⟨j,hj,e⟩ z⟩
 exact key i i (aX _) hi
theorem O3{m:Int}(h:0<m){k:Nat}(hk:tb m k=true)(hj:∀j,j<k->tb m j=false):Builtin.bitAnd m (-m)=2^k:=by
 have hm1:0<=m-1:=⋯;have e:Builtin.bitAnd m (-m)=m-Builtin.bitAnd m (m-1):=by
  rw[bitAnd_pn ⋯ ⋯,bitAnd_pp ⋯ hm1];have:Builtin.bitNot (-m)=m-1:=by unfold Builtin.bitNot;omega
  rw[this]
 obtain⟨n,rfl⟩:=bY (bZ h);have hkn:n.testBit k=true:=hk;have hjn:∀j,j<k->n.testBit j=false:=hj;have em:n%2^k=0:=Nat.eq_of_testBit_eq λi=>by
  rw[Nat.testBit_mod_two_pow,Nat.zero_testBit];by_cases c:i<k
  ·rw[dQ c,hjn i c];rfl
  ·rw[dU c];rfl
 have hd:n=2^k*(n / 2^k):=by
  have:=Nat.div_add_mod n (2^k);omega
 have ho:(n / 2^k).testBit 0=true:=by rw[Nat.testBit_div_two_pow,Nat.zero_add];exact hkn
 have ho:n / 2^k%2=1:=by
  rw[Nat.testBit_zero] at ho;exact dP ho
 obtain⟨q,hq⟩:∃q,n / 2^k=2*q+1:=⟨n / 2^k / 2,⋯⟩;have hp:=Nat.two_pow_pos k;have e1:n=2^(k+1)*q+2^k:=by rw[hd,hq,Nat.mul_add,Nat.mul_one,←Nat.mul_assoc,Nat.pow_succ]
 have e2:n-1=2^(k+1)*q+(2^k-1):=⋯;have hl:2^k-1<2^(k+1):=by rw[Nat.pow_succ];omega
 have hl2:2^k<2^(k+1):=by rw[Nat.pow_succ];omega
 have tb1:∀i,tb ((n:Int)-1) i=(if i<k+1 then (2^k-1).testBit i else q.testBit (i-(k+1))):=λi=>by
  unfold tb;have:((n:Int)-1).toNat=n-1:=⋯;rw[this,e2,Nat.testBit_two_pow_mul_add _ hl]
 have tbn:∀i,tb (n:Int) i=(if i<k+1 then (2^k).testBit i else q.testBit (i-(k+1))):=λi=>by
  unfold tb;rw[bS,e1,Nat.testBit_two_pow_mul_add _ hl2]
 have hz:∀i,(tb (2^k) i&&tb (Builtin.bitAnd (n:Int) ((n:Int)-1)) i)=false:=λi=>by
  rw[Ah,kE ⋯ hm1,tb1];by_cases c:k=i
  ·subst c;rw[if_pos ⋯,Nat.testBit_two_pow_sub_one];simp
  ·rw[dU c];rfl
 have hs:=Q3 (c:=2^k) (d:=Builtin.bitAnd (n:Int) ((n:Int)-1)) (m:=(n:Int)) (bZ (i9 k)) (kU ⋯ hm1) ⋯ hz (λi=>by
  rw[Ah,kE ⋯ hm1,tb1,tbn];by_cases c:i<k+1
  ·rw[if_pos c,if_pos c,Nat.testBit_two_pow_sub_one,Nat.testBit_two_pow];by_cases d:k=i
   ·subst d;simp
   ·rw[dU d];simp
  ·rw[if_neg c,if_neg c,dU ⋯];cases q.testBit (i-(k+1))<;>rfl)
 omega
theorem TQ(k:Nat):Builtin.Int.intBits (2^k)=k+1:=by
 unfold Builtin.Int.intBits;have h0:((2:Int)^k==0)=false:=beq_eq_false_iff_ne.mpr (Int.ne_of_gt (i9 k));rw[h0];have:((2:Int)^k).natAbs=2^k:=by rw[←jF,Int.natAbs_natCast]
 rw[this,Nat.log2_two_pow];rfl
noncomputable abbrev jQ:=Int×Int×List Nat
def oy(H:Hp)(v:V)(z:jQ):Prop:=∃t:Addr,v=.ref t/\H t=some (.tup [.int z.1,.int z.2.1,.str (Tx z.2.2)])
noncomputable def lJ(sts:List jQ)(a b:Int)(tm:List Nat):List jQ:=match sts.getLast? with
 |some s=>if s.2.2=tm then sts.dropLast++[(s.1,b,tm)] else sts++[(a,b,tm)]
 |none=>[(a,b,tm)]
theorem yi{H H':Hp}(h:∀b xs,H b=some (.tup xs)->H' b=some (.tup xs)){v:V}{s:jQ}(z:oy H v s):oy H' v s:=by
 obtain⟨t,e,ht⟩:=z;exact⟨t,e,h _ _ ht⟩
theorem KB(sts:List jQ)(s:jQ)(a b:Int)(tm:List Nat):lJ (sts++[s]) a b tm=if s.2.2=tm then sts++[(s.1,b,tm)] else sts++[s]++[(a,b,tm)]:=by
 unfold lJ;simp
theorem Jv{α β:Type}{F:α->β->Prop}:∀{l:List α} {v:α} {r:List β},Paired F (l++[v]) r->∃r0 s,r=r0++[s]/\Paired F l r0/\F v s
 |[],v,_,.cons h .nil=>⟨[],(),.nil,h⟩
 |x::l,v,_,.cons h t=>by
  obtain⟨r0,s,rfl,h1,h2⟩:=Jv t;exact⟨_::r0,s,rfl,.cons h h1,h2⟩
theorem Mu{α:Type}{l:List α}(h:l≠[]):∃l0 v,l=l0++[v]:=⟨l.dropLast,l.getLast h,(List.dropLast_concat_getLast h).symm⟩
theorem EA{l:List V}{v:V}:ie (l++[v]) (-1)=some v:=V4 l v
theorem Rk{l:List V}{v:V}:j1 (l++[v]).length (-1)=some l.length:=by
 unfold j1;simp;omega
theorem aCC{l:List V}{v u:V}:(l++[v]).set l.length u=l++[u]:=by simp
noncomputable def jH(m3:Int)(kd kw:Ko)(k:Int):Int:=if tb m3 (ki k).toNat=true then iB kd kw (gI k) (k%7) else 0
noncomputable def iG(tm m3:Int)(kd kw:Ko)(k:Int)(j:Nat):Int:=if tb (jH m3 kd kw k) (j+1)=true then tm else 0
noncomputable def fX(f:Int->Nat->Int)(k:Int):List Int:=(List.range (gI k).toNat).map (f k)
theorem Hy{c:Cs}{H:Hp}{v:V}{ko:Ko}(h:DV c H v ko):∀ks,ko=some ks->∀k∈ks,k.ok:=λks e=>by
 subst e;obtain⟨_,_,_,_,_,z⟩:=h;exact z
theorem Ez{c:Cs}{H:Hp}{dv wv:V}{m3 k:Int}{kd kw:Ko}(hd:DV c H dv kd)(hw:DV c H wv kw)(h0:0<=k)(h1:k<=90):0<=jH m3 kd kw k:=by
 have ml:=(kM h0 h1).2;unfold jH;split
 ·unfold iB;split
  ·have:(0:Int)<2^(gI k).toNat:=i9 _;omega
  ·exact qt (b:=false) ml (Hy hw) (qt (b:=false) ml (Hy hd) (bB 0))
 ·exact bB 0
theorem Ho{h m:Int}(h0:0<=h)(h1:h<2^24)(hm:0<=m){r:Nat}(a:tb h (r / 60)=true)(b:tb m (r%60)=true):tb (gP h m) r=true:=by
 unfold gP;rw[l3 (λz hz=>by
  obtain⟨y,_,rfl⟩:=bH.mp hz;exact Int.mul_nonneg hm (bZ (i9 _))),List.any_eq_true]
 have hlt:r / 60<24:=by
  rcases Nat.lt_or_ge (r / 60) 24 with c | c
  ·exact c
  ·rw[nC h1 c] at a;cases a
 refine⟨_,bH.mpr ⟨((r / 60:Nat):Int),?_,rfl⟩,?_⟩
 ·rw[qi h0 h1,flt_mem];exact⟨r / 60,hlt,a,⋯⟩
 ·rw[show (60*((r / 60:Nat):Int)).toNat=60*(r / 60) by omega,ql hm,dQ (show 60*(r / 60)<=r by omega),show r-60*(r / 60)=r%60 by omega,b];rfl
theorem R6{h m:Int}(h0:0<=h)(h1:h<2^24)(hm:0<=m)(hm2:m<2^60):gH (gP h m):=by
 unfold gP;rw[qi h0 h1];obtain⟨e,a,b⟩:=Gz (h:=h) hm hm2 24;rw[e];exact⟨a,b⟩
theorem iw(g:Int->Nat->Int)(k:Int):(fX g k).length=(gI k).toNat:=by unfold fX;rw[aY,List.length_range]
theorem Iz{g:Int->Nat->Int}{k:Int}{j:Nat}(h:j<(gI k).toNat):(fX g k).getD j 0=g k j:=by
 unfold fX;rw[List.getD_eq_getElem?_getD,bI,List.getElem?_range h];rfl
noncomputable def wK(g:Int->Nat->Int)(k:Int):Int:=lV (λj=>(fX g k).getD j 0) (fX g k).length
noncomputable def SM(M:Int):Int:=1440*ky M
noncomputable def WM(g:Int->Nat->Int)(M:Int):Int:=wK g (md M)
def gy(g:Int->Nat->Int):Prop:=∀k j,gH (g k j)
theorem aM9{g:Int->Nat->Int}(hg:gy g){k:Int}:∀t∈fX g k,gH t:=λt ht=>by
 obtain⟨j,_,rfl⟩:=bH.mp ht;exact hg k j
theorem Fx{g:Int->Nat->Int}(hg:gy g){k:Int}(j:Nat)(hj:j<(fX g k).length):gH ((fX g k).getD j 0):=by
 rw[Iz (by rw[iw] at hj;exact hj)];exact hg k j
theorem Xu(M:Int):0<=md M/\md M<=90:=oP ⋯ ⋯
theorem Wm(M:Int):gI (md M)=mE M:=(m9 (y:=M / 12) (m:=M%12+1) ⋯ ⋯).2
theorem tF(M:Int):28<=mE M/\mE M<=31:=Ek ⋯ ⋯
theorem IM{g:Int->Nat->Int}(hg:gy g)(k:Int)(i:Nat):tb (wK g k) i=(decide (i / 1440<(gI k).toNat)&&tb (g k (i / 1440)) (i%1440)):=by
 unfold wK;rw[EX i (λj hj=>Fx hg j hj),iw];by_cases c:i / 1440<(gI k).toNat
 ·show (_&&tb ((fX g k).getD (i / 1440) 0) _)=_;rw[Iz c]
 ·rw[dU c];rfl
theorem XM{g:Int->Nat->Int}(hg:gy g):Cal SM (WM g) where
 up M:=by
  unfold SM;have:=oY M;have:=tF M;omega
 nn M:=vt λj hj=>Fx hg j hj
 bit M i h:=by
  unfold WM at h;rw[IM hg,bX,dR,Wm] at h;unfold SM;have:=oY M;omega
abbrev pP(g:Int->Nat->Int)(t:Int):Prop:=Ev SM (WM g) t
theorem aCD{t y m k:Int}(ok:jK y m k)(e:iA y m k=t / 1440):SM (12*y+m-1)<=t/\t<SM (12*y+m-1+1)/\(t-SM (12*y+m-1)).toNat=1440*(k-1).toNat+(t%1440).toNat/\md (12*y+m-1)=kindOf y m/\(k-1).toNat<(fH y m).toNat/\(k-1).toNat+1=k.toNat:=by
 have hm:=ok.1;have hk:=ok.2;have e1:(12*y+m-1) / 12=y:=⋯;have e2:(12*y+m-1)%12+1=m:=⋯;have ek:md (12*y+m-1)=kindOf y m:=by unfold md;rw[e1,e2]
 have ed:ky (12*y+m-1)=db y+ahead y m:=by unfold ky;rw[e1,e2]
 have el:mE (12*y+m-1)=fH y m:=by unfold mE;rw[e1,e2]
 have up:=oY (12*y+m-1);have e':db y+ahead y m+k-1=t / 1440:=e;rw[ed,el] at up;clear e e1 e2 hm ok;unfold SM;rw[ed,up];clear ed el up;generalize db y+ahead y m=A at *;generalize fH y m=L at *;refine⟨⋯,⋯,⋯,ek,⋯,⋯⟩
theorem ID(t:Int)(n:Nat):(1440*n+(t%1440).toNat) / 1440=n/\(1440*n+(t%1440).toNat)%1440=(t%1440).toNat/\(t%1440).toNat / 60=(t%1440 / 60).toNat/\(t%1440).toNat%60=(t%1440%60).toNat:=⟨⋯,⋯,⋯,⋯⟩
theorem Ln{m0 m1 m3 t y m k:Int}{kd kw:Ko}(hn:0<=m0/\0<=m1/\0<=m3)(hb:m1<2^24/\m0<2^60)(hg:gy (iG (gP m1 m0) m3 kd kw))(ok:jK y m k)(e:iA y m k=t / 1440)(h:jC m0 m1 m3 kd kw (t / 1440) (t%1440) y m k=.non):pP (iG (gP m1 m0) m3 kd kw) t:=by
 unfold jC at h;split at h
 ·cases h
 split at h
 ·cases h
 split at h
 ·cases h
 split at h
 ·cases h
 rename_i c1 c2 c3 c4;have f7:=rE ok e;have mk:=m9 (y:=y) ok.1.1 ok.1.2;obtain⟨a1,a2,ei,ek,a5,a6⟩:=aCD ok e;obtain⟨u1,u2,u3,u4⟩:=ID t (k-1).toNat;refine⟨12*y+m-1,a1,a2,?_⟩;unfold WM;rw[IM hg,ei,u1,u2,ek,mk.2,dQ a5];have eg:iG (gP m1 m0) m3 kd kw (kindOf y m) (k-1).toNat=gP m1 m0:=by
  unfold iG jH;rw[mk.1,mk.2,if_pos (mn c1),f7,a6,if_pos (mn c2)]
 rw[eg,Ho hn.2.1 hb.1 hn.1 (by rw[u3];exact mn c3) (by rw[u4];exact mn c4)];rfl
theorem Mc{h m m3:Int}{kd kw:Ko}(h0:0<=h)(h1:h<2^24)(hm:0<=m)(hm2:m<2^60):gy (iG (gP h m) m3 kd kw):=λk j=>by
 unfold iG;split
 ·exact R6 h0 h1 hm hm2
 ·exact⟨bB 0,i9 _⟩
theorem JB(M:Int):∀n:Nat,SM (M+n)<=SM M+44640*n
 |0=>by simp
 |n+1=>by
  have:=JB M n;have:=oY (M+n);have:=tF (M+n);rw[show M+((n+1:Nat):Int)=M+n+1 by omega];unfold SM at *;omega
noncomputable def jY(sts:List jQ):Int:=match sts.getLast? with
 |some s=>if s.2.2=[109,105,110,117,116,101] then 1 else 0
 |none=>0
theorem IX(sts:List jQ):0<=jY sts/\jY sts<=1:=by
 unfold jY;split
 ·split<;>decide
 ·decide
theorem aFF(sts:List jQ)(a b:Int)(tm:List Nat):jY (lJ sts a b tm)=if tm=[109,105,110,117,116,101] then 1 else 0:=by
 unfold lJ;split
 ·split
  ·unfold jY;rw[List.getLast?_concat]
  ·unfold jY;rw[List.getLast?_concat]
 ·rfl
theorem Ml(sts:List jQ)(a b:Int)(tm:List Nat):(lJ sts a b tm).length<=sts.length+1/\(tm=[109,105,110,117,116,101]->jY sts=1->(lJ sts a b tm).length=sts.length):=by
 rcases List.eq_nil_or_concat sts with rfl | ⟨l,s,rfl⟩
 ·exact⟨aX _,λ_ h=>by cases h⟩
 ·rw[List.concat_eq_append,KB];split
  ·refine⟨by simp,λ_ _=>by simp⟩
  ·rename_i c;refine⟨by simp,λe h=>?_⟩;exfalso;unfold jY at h;rw[List.getLast?_concat] at h;by_cases z:s.2.2=[109,105,110,117,116,101]
   ·exact c (z.trans e.symm)
   ·have h:(if s.2.2=[109,105,110,117,116,101] then (1:Int) else 0)=1:=h;rw[if_neg z] at h;cases h
theorem Sd{sts:List jQ}{a b mo la be:Int}{tm:List Nat}(h:(sts.length:Int)<=2*(mo / 60-be / 60)+jY sts)(h1:mo<=la)(h2:tm≠[109,105,110,117,116,101]->(la+1)%60=0):((lJ sts a b tm).length:Int)<=2*((la+1) / 60-be / 60)+jY (lJ sts a b tm):=by
 have l1:=IX sts;obtain⟨n1,n2⟩:=Ml sts a b tm;rw[aFF];by_cases c:tm=[109,105,110,117,116,101]
 ·rw[if_pos c];rcases (show jY sts=0∨jY sts=1 by omega) with z | z
  ·omega
  ·have:=n2 c z;omega
 ·rw[if_neg c];have:=h2 c;omega
theorem Ep{α β:Type}{F:α->β->Prop}:∀{l:List α} {r:List β},Paired F l r->l.length=r.length
 |_,_,.nil=>rfl
 |_,_,.cons _ t=>congrArg (·+1) (Ep t)
theorem NJ{m0 m1 m3 d r y m k:Int}{kd kw:Ko}(h:jC m0 m1 m3 kd kw d r y m k≠ .non):∃tw,jC m0 m1 m3 kd kw d r y m k=.str (Tx tw)/\(tw≠[109,105,110,117,116,101]->tw≠[104,111,117,114]->tb m3 m.toNat=true->tb (iB kd kw (fH y m) ((d-k+1+6)%7)) k.toNat=false):=by
 by_cases c1:tb m3 m.toNat=false
 ·exact⟨_,AY c1,λ_ _ z=>by rw[c1] at z;cases z⟩
 have c1:=mn c1;by_cases c2:tb (iB kd kw (fH y m) ((d-k+1+6)%7)) k.toNat=false
 ·exact⟨_,AG c1 c2,λ_ _ _=>c2⟩
 have c2:=mn c2;by_cases c3:tb m1 (r / 60).toNat=false
 ·exact⟨_,A9 c1 c2 c3,λ_ z=>absurd rfl z⟩
 have c3:=mn c3;by_cases c4:tb m0 (r%60).toNat=false
 ·exact⟨_,ye c1 c2 c3 c4,λz=>absurd rfl z⟩
 exact absurd (vj c1 c2 c3 (mn c4)) h
def SameN(H H':Hp):Prop:=∀b o,(∀ps,o≠ .tbl ps)->H b=some o->H' b=some o
theorem jm{H H':Hp}(s:Same H H'):SameN H H':=λb o _ h=>s b o h
theorem SameN.trans{H H1 H2:Hp}(a:SameN H H1)(b:SameN H1 H2):SameN H H2:=λc o n h=>b c o n (a c o n h)
theorem Gw{c:Cs}{H H':Hp}(s:SameN H H'){v:V}:∀{ko:Ko},DV c H v ko->DV c H' v ko
 |none,h=>h
 |some _,⟨p,qs,e,h1,h2,h3⟩=>⟨p,qs,e,s _ _ (λ_ z=>by cases z) h1,Paired.imp' (λx k z=>by cases k<;>(obtain⟨dx,z⟩:=z;exact⟨dx,s _ _ (λ_ z=>by cases z) z⟩)) h2,h3⟩
def RowR(c:Cs)(CR:Addr)(H:Hp)(p:Addr)(m0 m1 m3:Int)(kd kw:Ko):Prop:=∃(dx:Addr) (dv wv:V),H p=some (.ins CR dx (gQ m0 m1 dv m3 wv (gP m1 m0)))/\(0<=m0/\0<=m1/\0<=m3)/\(m1<2^24/\m0<2^60)/\DV c H dv kd/\DV c H wv kw
theorem RowR.keepN{c:Cs}{CR:Addr}{H H':Hp}{p:Addr}{m0 m1 m3:Int}{kd kw:Ko}(s:SameN H H')(h:RowR c CR H p m0 m1 m3 kd kw):RowR c CR H' p m0 m1 m3 kd kw:=by
 obtain⟨dx,dv,wv,hp,hn,hb,hd,hw⟩:=h;exact⟨dx,dv,wv,s _ _ (λ_ z=>by cases z) hp,hn,hb,Gw s hd,Gw s hw⟩
theorem RowR.ok{c:Cs}{CR:Addr}{H:Hp}{p:Addr}{m0 m1 m3:Int}{kd kw:Ko}(h:RowR c CR H p m0 m1 m3 kd kw):gy (iG (gP m1 m0) m3 kd kw):=by
 obtain⟨dx,dv,wv,hp,hn,hb,hd,hw⟩:=h;exact Mc hn.2.1 hb.1 hn.1 hb.2
def wQ(P:Program)(w:World)(K:FG)(mg:Str->Option Value)(base:Heap)(n:Nat)(H:Hp)(f:Addr)(g:Int->Nat->Int):Prop:=
 FnHO H f/\∀(H1:Hp) (kd:Int) (Q:VK),Same H H1->0<=kd->kd<=90->(∀D H2,Same H1 H2->H2 D=some (.lst ((fX g kd).map V.int))->Q (.ref D) H2)->Calls P w K mg base n f [.int kd] H1 Q
theorem Xl{H H1:Hp}{f:Addr}(s:Same H H1)(h:FnHO H f):FnHO H1 f:=by
 obtain⟨oc,od,fd,sl,e⟩:=h;exact⟨oc,od,fd,sl,s _ _ e⟩
def oE(g:Int->Nat->Int)(kvs:List (fG×V)):Prop:=∀(k:Int) (v:V),hX kvs (.inl k)=some v->v=.int (wK g k)
theorem aJY{g:Int->Nat->Int}{kvs:List (fG×V)}(h:oE g kvs)(k:Int):oE g (iW kvs (.inl k) (.int (wK g k))):=λj v e=>by
 rw[Iv] at e;by_cases c:(Sum.inl j:fG)=.inl k
 ·rw[if_pos c] at e;cases c;exact (bG e).symm
 ·rw[if_neg c] at e;exact h j v e
theorem Yv(x:Int):(if 0>x then 0 else x)=max x 0:=by split<;>omega
theorem aNY(g:Int->Nat->Int){k:Int}(h0:0<=k)(h1:k<=90):(fX g k).length<=31:=by
 rw[iw];have:=(kM h0 h1).2.1;omega
noncomputable def ym(x:Str):Str:=x++".<locals>."++"<lambda>"
def oJ(H:Hp)(Pt:Addr)(lp:Pos)(q:Str):Prop:=H Pt=some (.tbl #[])∨∃c0,H Pt=some (.tbl #[rawInt lp.line,rawInt lp.col,.ref c0])/\H c0=some (lY c0 q)
theorem Nc(lp:Pos)(c0:Addr):codeAmong lp [rawInt lp.line,rawInt lp.col,.ref c0]=some (.ref c0):=by simp[codeAmong,rawInt]
theorem Fu{H H':Hp}{Pt:Addr}{lp:Pos}{q:Str}(s:Same H H')(h:oJ H Pt lp q):oJ H' Pt lp q:=by
 rcases h with h | ⟨c0,h,hc⟩
 ·exact .inl (s _ _ h)
 ·exact .inr ⟨c0,s _ _ h,s _ _ hc⟩
theorem uA{HL H':Hp}{a:Addr}{x:HO}(ha:HL a=none)(s':Same (upd HL a x) H'):Same HL (gX H' a):=λb o hb=>by
 have nb:b≠a:=λz=>by rw[z,ha] at hb;cases hb
 rw[ji nb];exact s' _ _ (by rw[eW nb];exact hb)
def NH(H HL:Hp)(f:Addr)(qual:Str)(params:Arguments)(body:Expr)(scope:Scope)(a:Addr)(pm:Value)(tN:Addr)(pN:Pos)(qN:Str):Prop:=
 H f=none/\SameN H HL/\(∃c' ctv,HL f=some (hV f (nJ qual params body scope "row" a pm c' ctv))/\HL c'=some (lY c' qual))/\oJ HL tN pN qN
theorem Ih{H H':Hp}{bm:Addr}(s:SameN H H')(h:og H bm):og H' bm:=by
 obtain⟨ob,u,e,r⟩:=h;exact⟨ob,u,s _ _ (λ_ z=>by cases z) e,r⟩
theorem Ng{H:Hp}{qual:Str}{params:Arguments}{body:Expr}{scope:Scope}{a tN bm:Addr}{pm:Value}{pN:Pos}{Q:VK}(h1:oJ H tN pN qual)(hbm:og H bm)(h:∀f HL,NH H HL f qual params body scope a pm tN pN qual->Q (.ref f) HL){σ:L2.St}:Kg tN bm pN qual params body scope "row" a pm σ H Q:=by
 have oth:∀{b:Addr} {o:HO},H b=some o->(∀ps,o≠ .tbl ps)->b≠tN:=λhb n z=>by
  rcases h1 with e | ⟨c0,e,_⟩<;>(rw[z,e] at hb;exact n _ (bG hb).symm)
 rcases h1 with e | ⟨c0,e,hc⟩
 ·refine⟨hbm,#[],e,True.intro,.inl ⟨rfl,λf c' ctv hf hc' hcf=>h f _ ⟨hf,λb o n hb=>?_,⟨c',ctv,eF,?_⟩,?_⟩⟩⟩
  ·rw[eW (λz=>by rw[z,hf] at hb;cases hb),eW (λz=>by rw[z,hc'] at hb;cases hb),eW (oth hb n)];exact hb
  ·rw[eW hcf,eF]
  ·refine .inr ⟨c',?_,by rw[eW hcf,eF]⟩;rw[eW (λz=>by rw[z,hf] at e;cases e),eW (λz=>by rw[z,hc'] at e;cases e),eF];rfl
 ·refine⟨hbm,_,e,(by simp[TriplesOk,rawInt]),.inr ⟨c0,Nc pN c0,hc,λf ctv hf=>h f _ ⟨hf,jm (eJ hf _),⟨c0,ctv,eF,eJ hf _ _ _ hc⟩,Fu (eJ hf _) (.inr ⟨c0,e,hc⟩)⟩⟩⟩
def lU(H:Hp)(tN bm:Addr):Prop:=oJ H tN ⟨610,21,610,51⟩ (ym "next_from")/\og H bm
theorem nI{H H':Hp}{tN bm:Addr}(s:Same H H')(h:lU H tN bm):lU H' tN bm:=⟨Fu s h.1,Ih (jm s) h.2⟩
noncomputable abbrev DF:=Int->Nat->Int
noncomputable abbrev Fl:=List (Str×V)
noncomputable def allT:Int:=1*2^(1440:Int).toNat-1
noncomputable def zF:DF:=λ_ _=>0
noncomputable def iO(fs:List DF)(k:Int)(j:Nat):Int:=fs.foldl (λa g=>Builtin.bitOr a (g k j)) 0
noncomputable def iM(fs:List DF)(k:Int)(j:Nat):Int:=fs.foldl (λa g=>Builtin.bitAnd a (g k j)) allT
noncomputable def qT(f g:DF):DF:=λk j=>Builtin.bitAnd (f k j) (Builtin.bitNot (g k j))
noncomputable def qx(f:DF):DF:=λk j=>Builtin.bitXor allT (f k j)
noncomputable def mz:List DF->DF
 |[a,b]=>qT a b
 |_=>zF
noncomputable def lE:List DF->DF
 |[a]=>qx a
 |_=>zF
def Kp(A:Addr->Prop)(H H':Hp):Prop:=∀b o,H b=some o->(∀ps,o≠ .tbl ps)->(A b∨∀xs,o≠ .lst xs)->H' b=some o
section
variable{A A':Addr->Prop}{H H':Hp}{D p:Addr}{l l':List V}{c:Cs}{CR:Addr}{m0 m1 m3:Int}{kd kw:Ko}{v:V}
theorem ia(s:Same H H'):Kp A H H':=λb o h _ _=>s b o h
theorem qg(s:SameN H H'):Kp A H H':=λb o h n _=>s b o n h
theorem pb(hD:H D=some (.lst l))(na:∀p,A p->p≠D):Kp A H (upd H D (.lst l')):=λb o h _ z=>by
 rw[eW (λe=>by subst e;rcases z with z | z;(· exact na _ z rfl);(· rw[hD] at h;exact z _ (bG h).symm))]
 exact h
def RowA(A:Addr->Prop)(c:Cs)(CR:Addr)(H:Hp)(p:Addr)(m0 m1 m3:Int)(kd kw:Ko):Prop:=∃(dx:Addr) (dv wv:V),H p=some (.ins CR dx (gQ m0 m1 dv m3 wv (gP m1 m0)))/\(0<=m0/\0<=m1/\0<=m3)/\(m1<2^24/\m0<2^60)/\DV c H dv kd/\DV c H wv kw/\(∀p,dv=.ref p->A p)/\∀p,wv=.ref p->A p
theorem RowA.rr(h:RowA A c CR H p m0 m1 m3 kd kw):RowR c CR H p m0 m1 m3 kd kw:=by
 obtain⟨dx,dv,wv,h1,h2,h3,h4,h5,_⟩:=h;exact⟨dx,dv,wv,h1,h2,h3,h4,h5⟩
theorem Jz(k:Kp A H H'){v:V}(a:∀p,v=.ref p->A p):∀{ko:Ko},DV c H v ko->DV c H' v ko
 |none,h=>h
 |some _,⟨p,qs,e,h1,h2,h3⟩=>⟨p,qs,e,k _ _ h1 (λ_ z=>by cases z) (.inl (a p e)),Paired.imp' (λx m z=>by cases m<;>(obtain⟨dx,z⟩:=z;exact⟨dx,k _ _ z (λ_ y=>by cases y) (.inr λ_ y=>by cases y)⟩)) h2,h3⟩
theorem RowA.go(m:∀p,A p->A' p)(k:Kp A H H')(h:RowA A c CR H p m0 m1 m3 kd kw):RowA A' c CR H' p m0 m1 m3 kd kw:=by
 obtain⟨dx,dv,wv,h1,h2,h3,h4,h5,a1,a2⟩:=h;exact⟨dx,dv,wv,k _ _ h1 (λ_ z=>by cases z) (.inr λ_ z=>by cases z),h2,h3,Jz k a1 h4,Jz k a2 h5,λp e=>m p (a1 p e),λp e=>m p (a2 p e)⟩
theorem Et{v:V}{ko:Ko}(h:DV c H v ko)(e:v=.ref p):H p≠none:=λz=>by
 subst e;cases ko with
 |none=>cases h
 |some ks=>
  obtain⟨p',qs,e',h1,_⟩:=h;cases e';rw[z] at h1;cases h1
theorem RowA.inn(h:RowA A c CR H p m0 m1 m3 kd kw):RowA (λp=>A p/\H p≠none) c CR H p m0 m1 m3 kd kw:=by
 obtain⟨dx,dv,wv,h1,h2,h3,h4,h5,a1,a2⟩:=h;exact⟨dx,dv,wv,h1,h2,h3,h4,h5,λp e=>⟨a1 p e,Et h4 e⟩,λp e=>⟨a2 p e,Et h5 e⟩⟩
end
inductive Kc
 |B | O | J | M | L | T
structure Bc where
 m:Cs
 R:Addr
 k:Kc->Addr
noncomputable def eQ(B O J M L T:Addr):Kc->Addr
 |.B=>B
 |.O=>O
 |.J=>J
 |.M=>M
 |.L=>L
 |.T=>T
noncomputable abbrev Bt:=Int×Int×DF
noncomputable def g9(g:List DF->DF)(bs:List Bt):Bt:=(1+(bs.map (·.1)).sum,1+(bs.map (·.2.1)).foldl max 0,g (bs.map (·.2.2)))
def RwP(A:Addr->Prop)(c:Bc)(H:Hp)(v:V)(tm:Int)(f:DF):Prop:=∃(x:Addr) (m0 m1 m3:Int) (kd kw:Ko),v=.ref x/\RowA A c.m c.R H x m0 m1 m3 kd kw/\tm=gP m1 m0/\f=iG tm m3 kd kw
def Sh(A:Addr->Prop)(c:Bc)(H:Hp):Kc->Fl->List V->(List DF->DF)->Prop
 |.B,fs,vs,g=>fs=[]/\vs=[]/\g=λ_=>zF
 |.O,fs,vs,g=>∃r tm f,fs=([("row",r)]:Fl)/\vs=[]/\RwP A c H r tm f/\g=λ_=>f
 |.J,fs,vs,g=>∃t,fs=([("books",.ref t)]:Fl)/\H t=some (.tup vs)/\0<vs.length/\g=iO
 |.M,fs,vs,g=>∃t,fs=([("books",.ref t)]:Fl)/\H t=some (.tup vs)/\0<vs.length/\g=iM
 |.L,fs,vs,g=>∃u w,fs=([("one",u),("other",w)]:Fl)/\vs=[u,w]/\g=mz
 |.T,fs,vs,g=>∃u,fs=([("one",u)]:Fl)/\vs=[u]/\g=lE
def BkC(A:Addr->Prop)(c:Bc)(P:V->Bt->Prop)(H:Hp)(i:Kc)(x:Addr)(b:Bt):Prop:=∃dx fs vs bs g,H x=some (.ins (c.k i) dx fs)/\Sh A c H i fs vs g/\Paired P vs bs/\vs.length<=8/\b=g9 g bs
def Bk(A:Addr->Prop)(c:Bc):Nat->Hp->V->Bt->Prop
 |0,_,_,_=>False
 |n+1,H,v,b=>∃i x,v=.ref x/\BkC A c (Bk A c n H) H i x b
section
variable{A A':Addr->Prop}{c:Bc}{H H':Hp}{v:V}{tm:Int}{f:DF}{b:Bt}
theorem RwP.go(m:∀p,A p->A' p)(k:Kp A H H')(h:RwP A c H v tm f):RwP A' c H' v tm f:=by
 obtain⟨x,m0,m1,m3,kd,kw,e,h,z⟩:=h;exact⟨x,m0,m1,m3,kd,kw,e,h.go m k,z⟩
theorem RwP.inn(h:RwP A c H v tm f):RwP (λp=>A p/\H p≠none) c H v tm f:=by
 obtain⟨x,m0,m1,m3,kd,kw,e,h,z⟩:=h;exact⟨x,m0,m1,m3,kd,kw,e,h.inn,z⟩
theorem Sh.go(m:∀p,A p->A' p)(k:Kp A H H'):∀{i:Kc} {fs:Fl} {vs:List V} {g:List DF->DF},Sh A c H i fs vs g->Sh A' c H' i fs vs g
 |.B,_,_,_,h=>h
 |.O,_,_,_,⟨r,tm,f,e,e2,h,z⟩=>⟨r,tm,f,e,e2,h.go m k,z⟩
 |.J,_,_,_,⟨t,e,h,z⟩=>⟨t,e,k _ _ h (λ_ z=>by cases z) (.inr λ_ z=>by cases z),z⟩
 |.M,_,_,_,⟨t,e,h,z⟩=>⟨t,e,k _ _ h (λ_ z=>by cases z) (.inr λ_ z=>by cases z),z⟩
 |.L,_,_,_,h=>h
 |.T,_,_,_,h=>h
theorem BkC.go{P P':V->Bt->Prop}(m:∀p,A p->A' p)(k:Kp A H H')(hp:∀v b,P v b->P' v b){i:Kc}{x:Addr}(h:BkC A c P H i x b):BkC A' c P' H' i x b:=by
 obtain⟨dx,fs,vs,bs,g,hx,hs,hq,z⟩:=h;exact⟨dx,fs,vs,bs,g,k _ _ hx (λ_ z=>by cases z) (.inr λ_ z=>by cases z),hs.go m k,Paired.mapP hq hp,z⟩
theorem Bk.go(m:∀p,A p->A' p)(k:Kp A H H'):∀(n:Nat) {v:V} {b:Bt},Bk A c n H v b->Bk A' c n H' v b
 |0,_,_,h=>h
 |n+1,_,_,⟨i,x,e,h⟩=>⟨i,x,e,h.go m k λ_ _ z=>Bk.go m k n z⟩
theorem Bk.same(s:Same H H'){n:Nat}(h:Bk A c n H v b):Bk A c n H' v b:=h.go (λ_ z=>z) (ia s) n
theorem Bk.up:∀(n:Nat) {v:V} {b:Bt},Bk A c n H v b->Bk A c (n+1) H v b
 |0,_,_,h=>h.elim
 |n+1,_,_,⟨i,x,e,h⟩=>⟨i,x,e,h.go (λ_ z=>z) (ia (Same.refl _)) λ_ _ z=>Bk.up n z⟩
theorem Sh.lk{nm:Str}(h1:(nm=="row")=false)(h2:(nm=="books")=false)(h3:(nm=="one")=false)(h4:(nm=="other")=false):∀{i:Kc} {fs:Fl} {vs:List V} {g:List DF->DF},Sh A c H i fs vs g->fs.lookup nm=none
 |.B,_,_,_,h=>by rw[h.1];rfl
 |.O,_,_,_,⟨_,_,_,e,_⟩=>by rw[e];simp[List.lookup,h1]
 |.J,_,_,_,⟨_,e,_⟩=>by rw[e];simp[List.lookup,h2]
 |.M,_,_,_,⟨_,e,_⟩=>by rw[e];simp[List.lookup,h2]
 |.L,_,_,_,⟨_,_,e,_⟩=>by rw[e];simp[List.lookup,h3,h4]
 |.T,_,_,_,⟨_,e,_⟩=>by rw[e];simp[List.lookup,h3]
end
def fI(c:Bc)(PR:Bt->List V->Hp->VK->Prop):Nat->Kc->Sp
 |0,_=>λ_ _ _ _=>False
 |n+1,i=>λvs H Q _=>∃(A:Addr->Prop) (x:Addr) (as:List V) (b:Bt),vs=.ref x::as/\BkC A c (Bk A c n H) H i x b/\PR b as H Q
def Mo(P:Program)(w:World)(K:FG)(mg:Str->Option Value)(base:Heap)(c:Bc)(nm:Str)(ps:List Str)(k:Nat)(S:Kc->Sp):Prop:=∀i:Kc,Cls K (c.k i)/\fV P w K mg base (c.k i) nm k ps (S i)
def rS(ta:TE):Prop:=∀σ H R,ta σ H R->∃v H1,R v H1/\∀R',R' v H1->ta σ H R'
theorem kh{i:Nat}:rS (mP i):=λ_ H _ ⟨v,e,r⟩=>⟨v,H,r,λ_ r'=>⟨v,e,r'⟩⟩
theorem ou{K:FG}{ta:TE}{f:Str}(d:rS ta):rS (p9 K ta f):=λσ H R h=>by
 obtain⟨v,H1,⟨a,C,dx,fs,u,e,h1,h2,h3,h4,r⟩,back⟩:=d σ H _ h;exact⟨u,H1,r,λR' r'=>back _ ⟨a,C,dx,fs,u,e,h1,h2,h3,h4,r'⟩⟩
theorem tI{X:Cx}{e:Expr}{ι:Type}{t:ι->TE}(h:∀i,E X e (t i)):E X e (λσ H Q=>∃i,t i σ H Q):=⟨λpins s σ H Q I z=>by
 obtain⟨i,z⟩:=z;exact (h i).h pins s σ H Q I z⟩
theorem kr{X:Cx}{o e:Expr}{ta:TE}{j:Nat}{pos apos:Pos}{c:Bc}{nm:Str}{ps:List Str}{k k' n:Nat}{PR:Bt->List V->Hp->VK->Prop}{pl:Sem Bool}(M:Mo X.prog X.w X.K X.mg X.base c nm ps k (fI c PR n))(hr:Room k' X.A)(ho:E X o ta)(dt:rS ta)(he:E X e (mP j))(hk:k<=k':=by first | decide | omega)
  (h1:(nm=="row")=false:=by decide +kernel) (h2:(nm=="books")=false:=by decide +kernel) (h3:(nm=="one")=false:=by decide +kernel) (h4:(nm=="other")=false:=by decide +kernel)
  (hst:starEach [e] X.env=[(false,eval e X.env)]:=by rfl) (hpl:(backTo pos (starEach [] X.env)).any (·.1)=false:=by rfl)
  (ht:eval (.Call (.Attribute o nm apos) [e] [] pos) X.env=(do
   let ov ←eval o X.env
   standAt apos.atName
   let (f,first) ←holding [ov] (getMethod ov nm pl)
   callWith pos f first (backTo pos (starEach [e] X.env)) (backToKw pos (keywordEach [] X.env))):=by rfl):
  E X (.Call (.Attribute o nm apos) [e] [] pos) (λσ H Q=>ta σ H λv H1=>∃A a b,σ[j]? =some (some a)/\Bk A c n H1 v b/\PR b [a] H1 Q):=by
 refine (tI λi=>ip (M i).1 (M i).2 hr ho (aC he aN hst) hk hst hpl ht).as λσ H Q h=>?_;obtain⟨v,H1,⟨A,a,b,ea,hb,q⟩,back⟩:=dt σ H _ h;cases n with
 |zero=>exact hb.elim
 |succ n=>
  obtain⟨i,x,rfl,hb⟩:=hb;obtain⟨dx,fs,vs,bs,g,hx,hs,_⟩:=id hb;exact⟨i,back _ ⟨x,dx,fs,rfl,hx,hs.lk h1 h2 h3 h4,_,ea,A,x,[a],b,rfl,hb,q⟩⟩
theorem rd{X:Cx}{o:Expr}{j:Nat}{pos apos:Pos}{c:Bc}{nm:Str}{ps:List Str}{k k' n:Nat}{PR:Bt->List V->Hp->VK->Prop}{pl:Sem Bool}(M:Mo X.prog X.w X.K X.mg X.base c nm ps k (fI c PR n))(hr:Room k' X.A)(ho:E X o (mP j))(hk:k<=k':=by first | decide | omega)
  (h1:(nm=="row")=false:=by decide +kernel) (h2:(nm=="books")=false:=by decide +kernel) (h3:(nm=="one")=false:=by decide +kernel) (h4:(nm=="other")=false:=by decide +kernel)
  (ht:eval (.Call (.Attribute o nm apos) [] [] pos) X.env=(do
   let ov ←eval o X.env
   standAt apos.atName
   let (f,first) ←holding [ov] (getMethod ov nm pl)
   callWith pos f first (backTo pos (starEach [] X.env)) (backToKw pos (keywordEach [] X.env))):=by rfl):
  E X (.Call (.Attribute o nm apos) [] [] pos) (λσ H Q=>∃A v b,σ[j]? =some (some v)/\Bk A c n H v b/\PR b [] H Q):=by
 refine (tI λi=>Be (M i).1 (M i).2 hr ho hk ht).as λσ H Q h=>?_;obtain⟨A,v,b,ev,hb,q⟩:=h;cases n with
 |zero=>exact hb.elim
 |succ n=>
  obtain⟨i,x,rfl,hb⟩:=hb;obtain⟨dx,fs,vs,bs,g,hx,hs,_⟩:=id hb;exact⟨i,_,ev,x,dx,fs,rfl,hx,hs.lk h1 h2 h3 h4,A,x,[],b,rfl,hb,q⟩
def jL(b:Bt)(as:List V)(H:Hp)(Q:VK):Prop:=as=[]/\∀H',Same H H'->Q (.int b.1) H'
def jT(b:Bt)(as:List V)(H:Hp)(Q:VK):Prop:=as=[]/\∀H',Same H H'->Q (.int b.2.1) H'
def iF(b:Bt)(as:List V)(H:Hp)(Q:VK):Prop:=∃k:Int,as=[.int k]/\(0<=k/\k<=90)/\∀D H',H D=none->Same H H'->H' D=some (.lst ((fX b.2.2 k).map V.int))->Q (.ref D) H'
noncomputable def ir(f:DF)(mo y m k:Int):Bool:=tb (f (kindOf y m) (k-1).toNat) (mo%1440).toNat
def jn(b:Bt)(as:List V)(H:Hp)(Q:VK):Prop:=∃mo y m k:Int,as=[.int mo]/\jK y m k/\iA y m k=mo / 1440/\∀H',Same H H'->Q (.bl (ir b.2.2 mo y m k)) H'
section
variable{K:FG}{c:Bc}
def nM(K:FG)(c:Bc)(n:Nat):Sp:=λvs H Q _=>∃(A:Addr->Prop) (a:Addr) (us:List V) (bs:List Bt),vs=[.ref a]/\(SqL K H a us∨SqT K H a us)/\Paired (Bk A c n H) us bs/\us.length<=8/\∀H',Same H H'->Q (.int (1+(bs.map (·.1)).sum)) H'
def nQ(K:FG)(c:Bc)(n:Nat):Sp:=λvs H Q _=>∃(A:Addr->Prop) (a:Addr) (us:List V) (bs:List Bt),vs=[.ref a]/\(SqL K H a us∨SqT K H a us)/\Paired (Bk A c n H) us bs/\us.length<=8/\0<us.length/\∀H',Same H H'->Q (.int (1+(bs.map (·.2.1)).foldl max 0)) H'
theorem nU:∀(l:List Int) (a:Int),a<=l.foldl max a/\(∀m∈l,m<=l.foldl max a)/\(l.foldl max a=a∨l.foldl max a∈l)
 |[],a=>⟨bB _,(λ_ h=>nomatch h),.inl rfl⟩
 |x::l,a=>by
  obtain⟨h1,h2,h3⟩:=nU l (max a x);show a<=l.foldl max (max a x)/\_/\_;refine⟨⋯,λm hm=>?_,?_⟩
  ·rcases a9.mp hm with rfl | hm
   ·show m<=l.foldl max (max a m);omega
   ·exact h2 m hm
  ·show l.foldl max (max a x)=a∨l.foldl max (max a x)∈x::l;rcases h3 with h3 | h3
   ·rw[h3];by_cases z:x<=a
    ·exact .inl ⋯
    ·exact .inr (a9.mpr (.inl ⋯))
   ·exact .inr (bP _ h3)
theorem aFO{l:List Int}{M:Int}(h1:M∈l)(h2:∀m∈l,m<=M)(h0:0<=M):M=l.foldl max 0:=by
 obtain⟨a,b,c⟩:=nU l 0;have:=b M h1;rcases c with c | c
 ·omega
 ·have:=h2 _ c;omega
theorem Bk.pos{A:Addr->Prop}{H:Hp}{n:Nat}{v:V}{b:Bt}(h:Bk A c n H v b):1<=b.2.1:=by
 cases n with
 |zero=>exact h.elim
 |succ n=>
  obtain⟨i,x,e,dx,fs,vs,bs,g,hx,hs,hq,hl,rfl⟩:=h;have:=(nU (bs.map (·.2.1)) 0).1;show 1<=1+(bs.map (·.2.1)).foldl max 0;omega
end
def nX(bs:List Bt):Prop:=1+(bs.map (·.1)).sum<=24/\1+(bs.map (·.2.1)).foldl max 0<=5
def Some4(A:Addr->Prop)(c:Bc)(H:Hp)(us:List V)(bs:List Bt):Prop:=Paired (Bk A c 4 H) us bs/\us.length<=8/\0<us.length/\nX bs
inductive JU (K:FG) (c:Bc) (vs:List V) (H:Hp) (Q:VK) (E:XK):Prop
 |mk (A:Addr->Prop) (a:Addr) (us:List V) (bs:List Bt) (_:vs=[.ref a]) (_:SqL K H a us) (_:Some4 A c H us bs) (_:∀t H',Same H H'->H' t=some (.tup us)->Q (.ref t) H')
inductive FR (c:Bc) (vs:List V) (H:Hp) (Q:VK) (E:XK):Prop
 |mk (p dx x dr:Addr) (fr:Fl) (_:vs=[.ref p,.ref x]) (_:H p=some (.ins (c.k .O) dx [])) (_:H x=some (.ins c.R dr fr)) (_:Q .non (upd H p (.ins (c.k .O) dx [("row",.ref x)])))
inductive wM (K:FG) (c:Bc) (i:Kc) (vs:List V) (H:Hp) (Q:VK) (E:XK):Prop
 |mk (p dx a:Addr) (A:Addr->Prop) (us:List V) (bs:List Bt) (_:vs=[.ref p,.ref a]) (_:H p=some (.ins (c.k i) dx [])) (_:SqL K H a us) (_:Some4 A c H us bs) (_:∀t H',H' p=some (.ins (c.k i) dx [("books",.ref t)])->H' t=some (.tup us)->(∀b o,H b=some o->b≠p->H' b=some o)->Q .non H')
inductive Gr (c:Bc) (vs:List V) (H:Hp) (Q:VK) (E:XK):Prop
 |mk (p dx:Addr) (A:Addr->Prop) (u w:V) (bs:List Bt) (_:vs=[.ref p,u,w]) (_:H p=some (.ins (c.k .L) dx [])) (_:Some4 A c H [u,w] bs) (_:∀H',H' p=some (.ins (c.k .L) dx [("one",u),("other",w)])->(∀b o,H b=some o->b≠p->H' b=some o)->Q .non H')
inductive Fb (c:Bc) (vs:List V) (H:Hp) (Q:VK) (E:XK):Prop
 |mk (p dx:Addr) (A:Addr->Prop) (u:V) (bs:List Bt) (_:vs=[.ref p,u]) (_:H p=some (.ins (c.k .T) dx [])) (_:Some4 A c H [u] bs) (_:∀H',H' p=some (.ins (c.k .T) dx [("one",u)])->(∀b o,H b=some o->b≠p->H' b=some o)->Q .non H')
section
variable{K:FG}{c:Bc}{A:Addr->Prop}{H H':Hp}{v u w:V}{n:Nat}{b:Bt}{us:List V}{bs:List Bt}{x dx a:Addr}{E:XK}{R:Hp->Prop}
theorem Bk.upn(h:Bk A c n H v b):∀{m:Nat},n<=m->Bk A c m H v b
 |m,hm=>by
  obtain⟨d,rfl⟩:∃d,m=n+d:=⟨m-n,⋯⟩;clear hm;induction d with
  |zero=>exact h
  |succ d ih=>exact ih.up _
theorem Some4.of(h:Paired (Bk A c n H) us bs)(hn:n<=4)(hl:us.length<=8)(h0:0<us.length)(ok:nX bs):Some4 A c H us bs:=⟨Paired.mapP h λ_ _ z=>z.upn hn,hl,h0,ok⟩
theorem Some4.same(s:Same H H')(h:Some4 A c H us bs):Some4 A c H' us bs:=⟨Paired.mapP h.1 λ_ _ z=>z.same s,h.2⟩
theorem Bk.isB(f:∀i,BF K (c.k .B) (c.k i) true)(h:Bk A c n H v b):BS K (c.k .B) H v true:=by
 cases n with
 |zero=>exact h.elim
 |succ n=>
  obtain⟨i,x,rfl,dx,fs,vs,bs,g,hx,_⟩:=h;exact (f i).is hx
theorem uZ(q:∀H',Same H H'->Bk A c 1 H' (.ref x) (1,1,zF)->R H')(nx:H x=none)(nd:H dx=none):R (upd (upd H dx (.own x)) x (.ins (c.k .B) dx [])):=q _ (kY nx nd) ⟨.B,x,rfl,dx,[],[],[],λ_=>zF,eF,⟨rfl,rfl,rfl⟩,.nil,bK _,rfl⟩
theorem CV{tm:Int}{f:DF}{r:Addr}(h:RwP A c H (.ref r) tm f)(q:∀H',Same H H'->Bk A c 1 H' (.ref x) (1,1,f)->R H')(nx:H x=none)(nd:H dx=none):FR c (.ref x::([.ref r]++[])) (upd (upd H dx (.own x)) x (.ins (c.k .O) dx [])) (λv H2=>v=.non/\R H2) E:=by
 have s:=kY (a:=.own x) (b:=.ins (c.k .O) dx []) nx nd;have s':=kA (o:=.ins (c.k .O) dx [("row",.ref r)]) nx s;obtain⟨r',m0,m1,m3,kd,kw,e,⟨dr,dv,wv,hr,_⟩,_⟩:=id h;cases e;exact⟨x,dx,r,dr,(),eF,s _ _ hr,rfl,q _ s' ⟨.O,x,rfl,dx,_,[],[],λ_=>f,eF,⟨_,tm,f,rfl,rfl,h.go (λ_ z=>z) (ia s'),rfl⟩,.nil,bK _,rfl⟩⟩
theorem qX{i:Kc}{g:List DF->DF}(hi:i=.J/\g=iO∨i=.M/\g=iM)(hS:SqL K H a us)(hp:Paired (Bk A c n H) us bs)(hn:n<=4)(hl:us.length<=8)(h0:0<us.length)(ok:nX bs)(q:∀H',Same H H'->BkC A c (Bk A c n H') H' i x (g9 g bs)->R H')(nx:H x=none)(nd:H dx=none):wM K c i (.ref x::([.ref a]++[])) (upd (upd H dx (.own x)) x (.ins (c.k i) dx [])) (λv H2=>v=.non/\R H2) E:=by
 have s:=kY (a:=.own x) (b:=.ins (c.k i) dx []) nx nd;refine⟨x,dx,a,A,us,bs,rfl,eF,s.seq hS,(Some4.of hp hn hl h0 ok).same s,λt H' hx ht hs=>⟨rfl,?_⟩⟩;have s':=BQ nx nd hs;refine q H' s' ⟨dx,_,us,bs,g,hx,?_,Paired.mapP hp λ_ _ z=>z.same s',hl,rfl⟩;rcases hi with ⟨rfl,rfl⟩ | ⟨rfl,rfl⟩
 ·exact⟨t,rfl,ht,h0,rfl⟩
 ·exact⟨t,rfl,ht,h0,rfl⟩
theorem uL(hp:Paired (Bk A c n H) [u,w] bs)(hn:n<=4)(ok:nX bs)(q:∀H',Same H H'->Bk A c (n+1) H' (.ref x) (g9 mz bs)->R H')(nx:H x=none)(nd:H dx=none):Gr c (.ref x::([u,w]++[])) (upd (upd H dx (.own x)) x (.ins (c.k .L) dx [])) (λv H2=>v=.non/\R H2) E:=by
 have s:=kY (a:=.own x) (b:=.ins (c.k .L) dx []) nx nd;refine⟨x,dx,A,u,w,bs,rfl,eF,(Some4.of hp hn (by show 2<=8;decide) (by show 0<2;decide) ok).same s,λH' hx hs=>⟨rfl,?_⟩⟩;have s':=BQ nx nd hs;exact q H' s' ⟨.L,x,rfl,dx,_,_,bs,mz,hx,⟨u,w,rfl,rfl,rfl⟩,Paired.mapP hp λ_ _ z=>z.same s',(by show 2<=8;decide),rfl⟩
theorem B5(hp:Paired (Bk A c n H) [u] bs)(hn:n<=4)(ok:nX bs)(q:∀H',Same H H'->Bk A c (n+1) H' (.ref x) (g9 lE bs)->R H')(nx:H x=none)(nd:H dx=none):Fb c (.ref x::([u]++[])) (upd (upd H dx (.own x)) x (.ins (c.k .T) dx [])) (λv H2=>v=.non/\R H2) E:=by
 have s:=kY (a:=.own x) (b:=.ins (c.k .T) dx []) nx nd;refine⟨x,dx,A,u,bs,rfl,eF,(Some4.of hp hn (by show 1<=8;decide) (by show 0<1;decide) ok).same s,λH' hx hs=>⟨rfl,?_⟩⟩;have s':=BQ nx nd hs;exact q H' s' ⟨.T,x,rfl,dx,_,_,bs,lE,hx,⟨u,rfl,rfl,rfl⟩,Paired.mapP hp λ_ _ z=>z.same s',(by show 1<=8;decide),rfl⟩
end
theorem lL{f:DF}{k:Int}{i:Nat}{x:V}(h:((fX f k).map V.int)[i]? =some x):x=.int (f k i)/\i<(gI k).toNat:=by
 have hi:i<(gI k).toNat:=by
  have:=(cT.mp h).1
  rwa [aY,iw] at this
 refine⟨?_,hi⟩;unfold fX at h;rw[cG,bI,List.getElem?_range hi] at h;exact (bG h).symm
theorem Cy{i k:Int}:(List.replicate (gI k).toNat [V.int i]).flatten=(fX (λ_ _=>i) k).map V.int:=by
 unfold fX;generalize (gI k).toNat=n;induction n with
 |zero=>rfl
 |succ n ih=>rw[List.replicate_succ',List.flatten_append,ih,cC,bA,bA];rfl
theorem HJ{op:Int->Int->Int}{z:Int}{fs:List DF}{i:Nat}{g:DF}{k:Int}{j:Nat}(h:fs[i]? =some g):(fs.take (i+1)).foldl (λa g=>op a (g k j)) z=op ((fs.take i).foldl (λa g=>op a (g k j)) z) (g k j):=by
 rw[bL,h,List.foldl_append];rfl
theorem oH{k:Int}(h0:0<=k)(h1:k<=90):(gI k).toNat<=31:=by have:=(kM h0 h1).2.1;omega
theorem Ru{h m:Int}(h0:0<=h)(h1:h<2^24)(hm:0<=m)(hm2:m<2^60){r:Nat}(e:tb (gP h m) r=true):tb h (r / 60)=true/\tb m (r%60)=true:=by
 unfold gP at e;rw[l3 (λz hz=>by
  obtain⟨y,_,rfl⟩:=bH.mp hz;exact Int.mul_nonneg hm (bZ (i9 _))),List.any_eq_true] at e
 obtain⟨_,hz,e⟩:=e;obtain⟨y,hy,rfl⟩:=bH.mp hz;rw[qi h0 h1,flt_mem] at hy;obtain⟨i,hi,hb,rfl⟩:=hy;rw[show (60*(0+(i:Int))).toNat=60*i by omega,ql hm,bX,dR] at e;have hlt:r-60*i<60:=by
  rcases Nat.lt_or_ge (r-60*i) 60 with c | c
  ·exact c
  ·rw[nC hm2 c] at e;cases e.2
 rw[show r / 60=i by omega,show r%60=r-60*i by omega];exact⟨hb,e.2⟩
theorem J1:gH 0:=⟨bB 0,by decide +kernel⟩
theorem GC:allT=2^1440-1:=by
 unfold allT;rw[show ((1440:Int).toNat)=1440 from rfl,Int.one_mul]
theorem oj(i:Nat):tb allT i=decide (i<1440):=by rw[GC];exact Ca 1440 i
theorem jv:gH allT:=by
 rw[GC];have:=i9 1440;exact⟨⋯,⋯⟩
theorem ng{t:Int}(h:gH t){i:Nat}(e:tb t i=true):i<1440:=by
 rcases Nat.lt_or_ge i 1440 with z | z
 ·exact z
 ·rw[nC h.2 z] at e;cases e
theorem Ct{t:Int}(h0:0<=t)(h:∀i,tb t i=true->i<1440):gH t:=⟨h0,Wu h0 h⟩
theorem Kl{a b:Int}(ha:0<=a)(hb:0<=b):0<=Builtin.bitAnd a (Builtin.bitNot b):=by
 have h1:¬0<=Builtin.bitNot b:=by unfold Builtin.bitNot;omega
 unfold Builtin.bitAnd;rw[dQ ha,dU h1];show 0<=a-((a.toNat&&& (Builtin.bitNot (Builtin.bitNot b)).toNat:Nat):Int);have:=Nat.and_le_left (n:=a.toNat) (m:=(Builtin.bitNot (Builtin.bitNot b)).toNat);omega
theorem av7(x y i:Nat):(x-(x&&& y)).testBit i=(x.testBit i&& !y.testBit i):=by
 have e:x-(x&&& y)=x^^^(x&&& y):=by
  have h:(x^^^(x&&& y))+(x&&& y)=x:=by
   have h1:(x^^^(x&&& y))&&& (x&&& y)=0:=by
    apply Nat.eq_of_testBit_eq;intro j;rw[Nat.testBit_and,Nat.testBit_xor,Nat.testBit_and,Nat.zero_testBit];cases x.testBit j<;>cases y.testBit j<;>rfl
   have h2:(x^^^(x&&& y))||| (x&&& y)=x:=by
    apply Nat.eq_of_testBit_eq;intro j;rw[Nat.testBit_or,Nat.testBit_xor,Nat.testBit_and];cases x.testBit j<;>cases y.testBit j<;>rfl
   have h3:=nat_or_add_and (x^^^(x&&& y)) (x&&& y);rw[h1,h2] at h3;omega
  omega
 rw[e,Nat.testBit_xor,Nat.testBit_and];cases x.testBit i<;>cases y.testBit i<;>rfl
theorem sg{a b:Int}(ha:0<=a)(hb:0<=b)(i:Nat):tb (Builtin.bitAnd a (Builtin.bitNot b)) i=(tb a i&& !tb b i):=by
 have h1:¬0<=Builtin.bitNot b:=by unfold Builtin.bitNot;omega
 have e:Builtin.bitAnd a (Builtin.bitNot b)=a-((a.toNat&&& b.toNat:Nat):Int):=by
  unfold Builtin.bitAnd;rw[dQ ha,dU h1];show a-((a.toNat&&& (Builtin.bitNot (Builtin.bitNot b)).toNat:Nat):Int)=_;rw[show Builtin.bitNot (Builtin.bitNot b)=b by unfold Builtin.bitNot;omega]
 rw[e];obtain⟨x,rfl⟩:=bY ha;obtain⟨y,rfl⟩:=bY hb;unfold tb;rw[bS,bS,←av7];congr 1;have:=Nat.and_le_left (n:=x) (m:=y);omega
theorem RQ{a b:Int}(ha:0<=a)(hb:0<=b):0<=Builtin.bitXor a b:=by
 obtain⟨x,rfl⟩:=bY ha;obtain⟨y,rfl⟩:=bY hb;unfold Builtin.bitXor;rw[pM,Ax];have h1:=Nat.and_le_left (n:=x) (m:=y);have h2:=Nat.left_le_or (n:=x) (m:=y);omega
theorem Cu{a:Int}(ha:gH a)(i:Nat):tb (Builtin.bitXor allT a) i=(decide (i<1440)&& !tb a i):=by
 have e:Builtin.bitXor allT a=Builtin.bitAnd allT (Builtin.bitNot a):=by
  have ha0:=ha.1;have h1:¬0<=Builtin.bitNot a:=by unfold Builtin.bitNot;omega
  unfold Builtin.bitXor;have eo:Builtin.bitOr allT a=allT:=jf (kg jv.1 ha.1) jv.1 λj=>by
   rw[lD jv.1 ha.1,oj];cases c:tb a j
   ·rw[Bool.or_false]
   ·rw[dQ (ng ha c)];rfl
  rw[eo]
  conv=>rhs;unfold Builtin.bitAnd
  rw[dQ jv.1,dU h1];show allT-Builtin.bitAnd allT a=allT-((allT.toNat&&& (Builtin.bitNot (Builtin.bitNot a)).toNat:Nat):Int);rw[show Builtin.bitNot (Builtin.bitNot a)=a by unfold Builtin.bitNot;omega,bitAnd_pp jv.1 ha.1]
 rw[e,sg jv.1 ha.1,oj]
theorem J3{a:Int}(ha:gH a):allT-a=Builtin.bitXor allT a:=by
 have eo:Builtin.bitOr allT a=allT:=jf (kg jv.1 ha.1) jv.1 λj=>by
  rw[lD jv.1 ha.1,oj];cases c:tb a j
  ·rw[Bool.or_false]
  ·rw[dQ (ng ha c)];rfl
 have ea:Builtin.bitAnd allT a=a:=jf (kU jv.1 ha.1) ha.1 λj=>by
  rw[kE jv.1 ha.1,oj];cases c:tb a j
  ·rw[Bool.and_false]
  ·rw[dQ (ng ha c)];rfl
 unfold Builtin.bitXor;rw[eo,ea]
theorem wo{a:Int}(ha:gH a):gH (Builtin.bitXor allT a):=Ct (RQ jv.1 ha.1) λi e=>by
 rw[Cu ha] at e;exact dP (Bool.and_eq_true_iff.mp e).1
theorem HB{a b:Int}(ha:gH a)(hb:gH b):gH (Builtin.bitOr a b):=⟨kg ha.1 hb.1,aN2 ha.1 hb.1 ha.2 hb.2⟩
theorem Jx{a b:Int}(ha:gH a)(hb:0<=b):gH (Builtin.bitAnd a b):=Ct (kU ha.1 hb) λi e=>by
 rw[kE ha.1 hb] at e;exact ng ha (Bool.and_eq_true_iff.mp e).1
theorem K4{a b:Int}(ha:gH a)(hb:gH b):gH (Builtin.bitAnd a (Builtin.bitNot b)):=Ct (Kl ha.1 hb.1) λi e=>by
 rw[sg ha.1 hb.1] at e;exact ng ha (Bool.and_eq_true_iff.mp e).1
theorem aGG{a b:Int}(ha:gH a)(hb:gH b):Builtin.bitAnd a (allT-b)=Builtin.bitAnd a (Builtin.bitNot b):=by
 rw[J3 hb];refine jf (kU ha.1 (wo hb).1) (Kl ha.1 hb.1) λi=>?_;rw[kE ha.1 (wo hb).1,Cu hb,sg ha.1 hb.1];cases c:tb a i
 ·rfl
 ·rw[dQ (ng ha c),Bool.true_and]
theorem L9{a:Int}(ha:gH a):Builtin.bitAnd allT a=a:=jf (kU jv.1 ha.1) ha.1 λj=>by
 rw[kE jv.1 ha.1,oj];cases c:tb a j
 ·rw[Bool.and_false]
 ·rw[dQ (ng ha c)];rfl
theorem u9{a:Int}(ha:0<=a):Builtin.bitOr 0 a=a:=jf (kg (bB 0) ha) ha λj=>by rw[lD (bB 0) ha,i6,Bool.false_or]
theorem qO{g:Int->Int->Int}(hg:∀{a b:Int},gH a->gH b->gH (g a b))(k:Int)(j:Nat):∀(fs:List DF) (a:Int),gH a->(∀f∈fs,gy f)->gH (fs.foldl (λa f=>g a (f k j)) a)
 |[],_,h,_=>h
 |f::r,a,h,hf=>qO hg k j r _ (hg h (hf f (bW ..) k j)) λz hz=>hf z (bP _ hz)
theorem Ia{fs:List DF}(h:∀f∈fs,gy f):gy (iO fs):=λk j=>qO HB k j fs 0 J1 h
theorem ED{fs:List DF}(h:∀f∈fs,gy f):gy (iM fs):=λk j=>qO (λha hb=>Jx ha hb.1) k j fs allT jv h
theorem sd:gy (λ_ _=>0):=λ_ _=>J1
theorem NI{f g:DF}(hf:gy f)(hg:gy g):gy (λk j=>Builtin.bitAnd (f k j) (Builtin.bitNot (g k j))):=λk j=>K4 (hf k j) (hg k j)
theorem MW{f:DF}(hf:gy f):gy (λk j=>Builtin.bitXor allT (f k j)):=λk j=>wo (hf k j)
theorem Nb{h m:Int}(h0:0<=h)(h1:h<2^24)(hm:0<=m)(hm2:m<2^60)(r:Nat):tb (gP h m) r=(tb h (r / 60)&&tb m (r%60)):=by
 rw[cS,bX];exact⟨Ru h0 h1 hm hm2,λz=>Ho h0 h1 hm z.1 z.2⟩
theorem aK0{m0 m1 m3 t y m k:Int}{kd kw:Ko}(hn:0<=m0/\0<=m1/\0<=m3)(hb:m1<2^24/\m0<2^60)(ok:jK y m k)(e:iA y m k=t / 1440):decide (jC m0 m1 m3 kd kw (t / 1440) (t%1440) y m k=.non)=ir (iG (gP m1 m0) m3 kd kw) t y m k:=by
 have f7:=rE ok e;have mk:=m9 (y:=y) ok.1.1 ok.1.2;have a6:(k-1).toNat+1=k.toNat:=by have:=ok.2;omega
 obtain⟨_,_,u3,u4⟩:=ID t 0;unfold ir iG jH;rw[mk.1,mk.2,f7,a6];by_cases c1:tb m3 m.toNat=true
 ·rw[if_pos c1];by_cases c2:tb (iB kd kw (fH y m) ((t / 1440-k+1+6)%7)) k.toNat=true
  ·rw[if_pos c2,Nb hn.2.1 hb.1 hn.1 hb.2,u3,u4];cases c3:tb m1 (t%1440 / 60).toNat
   ·rw[A9 c1 c2 c3];rfl
   ·cases c4:tb m0 (t%1440%60).toNat
    ·rw[ye c1 c2 c3 c4];rfl
    ·rw[vj c1 c2 c3 c4];rfl
  ·rw[if_neg c2,AG c1 (by simpa using c2),i6];rfl
 ·rw[if_neg c1,i6,AY (by simpa using c1)];show _=tb (if false=true then _ else _) _;rw[if_neg (by decide),i6];rfl
theorem Br{fs:List DF}{i:Nat}{g:DF}{k:Int}{j:Nat}(h:fs[i]? =some g):iO (fs.take (i+1)) k j=Builtin.bitOr (iO (fs.take i) k j) (g k j):=HJ h
theorem wJ{fs:List DF}{i:Nat}{g:DF}{k:Int}{j:Nat}(h:fs[i]? =some g):iM (fs.take (i+1)) k j=Builtin.bitAnd (iM (fs.take i) k j) (g k j):=HJ h
theorem K9{k:Int}{j i:Nat}:∀(fs:List DF) (a:Int),0<=a->(∀f∈fs,gy f)->tb (fs.foldl (λa g=>Builtin.bitOr a (g k j)) a) i=(tb a i||fs.any λf=>tb (f k j) i)
 |[],a,_,_=>(Bool.or_false _).symm
 |f::fs,a,h,hf=>by
  have h1:=(hf f (bW ..) k j).1;show tb (fs.foldl _ (Builtin.bitOr a (f k j))) i=(_||(tb (f k j) i||fs.any _))
  rw[K9 fs _ (kg h h1) (λg hg=>hf g (bP _ hg)),lD h h1,Bool.or_assoc]
theorem Jq{k:Int}{j i:Nat}:∀(fs:List DF) (a:Int),0<=a->(∀f∈fs,gy f)->tb (fs.foldl (λa g=>Builtin.bitAnd a (g k j)) a) i=(tb a i&&fs.all λf=>tb (f k j) i)
 |[],a,_,_=>(Bool.and_true _).symm
 |f::fs,a,h,hf=>by
  have h1:=(hf f (bW ..) k j).1;show tb (fs.foldl _ (Builtin.bitAnd a (f k j))) i=(_&&(tb (f k j) i&&fs.all _));rw[Jq fs _ (kU h h1) (λg hg=>hf g (bP _ hg)),kE h h1,Bool.and_assoc]
theorem Hu:∀{gs:List DF},(∀f∈gs,gy f)->gy (mz gs)
 |[a,b],h=>NI (h a (by simp)) (h b (by simp))
 |[],_ | [_],_ | _::_::_::_,_=>sd
theorem KZ:∀{gs:List DF},(∀f∈gs,gy f)->gy (lE gs)
 |[a],h=>MW (h a (by simp))
 |[],_ | _::_::_,_=>sd
section
variable{A:Addr->Prop}{c:Bc}{H:Hp}{v:V}{b:Bt}{mo y m k:Int}
theorem aR5:∀{i:Kc} {fs:Fl} {vs:List V} {g:List DF->DF},Sh A c H i fs vs g->∀{gs:List DF},(∀f∈gs,gy f)->gy (g gs)
 |.B,_,_,_,⟨_,_,e⟩,_,_=>by rw[e];exact sd
 |.O,_,_,_,⟨_,_,_,_,_,⟨x,m0,m1,m3,kd,kw,_,h,e1,e2⟩,e⟩,_,_=>by rw[e,e2,e1];exact h.rr.ok
 |.J,_,_,_,⟨_,_,_,_,e⟩,_,h=>by rw[e];exact Ia h
 |.M,_,_,_,⟨_,_,_,_,e⟩,_,h=>by rw[e];exact ED h
 |.L,_,_,_,⟨_,_,_,_,e⟩,gs,h=>by rw[e];exact Hu h
 |.T,_,_,_,⟨_,_,_,e⟩,gs,h=>by rw[e];exact KZ h
theorem Bk.ok:∀{n:Nat} {v:V} {b:Bt},Bk A c n H v b->gy b.2.2
 |0,_,_,h=>h.elim
 |n+1,_,_,⟨i,x,_,dx,fs,vs,bs,g,_,hs,hp,_,e⟩=>by
  rw[e];refine aR5 hs λf hf=>?_;obtain⟨b,hb,rfl⟩:=bH.mp hf;obtain⟨u,_,hu⟩:=mm hp b hb;exact Bk.ok hu
theorem FA{n:Nat}{vs:List V}{bs:List Bt}(hp:Paired (Bk A c n H) vs bs):∀f∈bs.map (·.2.2),gy f:=λf hf=>by
 obtain⟨b,hb,rfl⟩:=bH.mp hf;obtain⟨u,_,hu⟩:=mm hp b hb;exact hu.ok
theorem HC:(mo%1440).toNat<1440:=⋯
theorem Oo{fs:List DF}(h:∀f∈fs,gy f):ir (iO fs) mo y m k=fs.any λf=>ir f mo y m k:=(K9 fs 0 (bB 0) h).trans (by rw[i6];rfl)
theorem aI0{fs:List DF}(h:∀f∈fs,gy f):ir (iM fs) mo y m k=fs.all λf=>ir f mo y m k:=(Jq fs allT jv.1 h).trans (by rw[oj,dQ HC];rfl)
theorem Nv{f g:DF}(hf:gy f)(hg:gy g):ir (qT f g) mo y m k=(ir f mo y m k&& !ir g mo y m k):=sg (hf _ _).1 (hg _ _).1 _
theorem Xj{f:DF}(hf:gy f):ir (qx f) mo y m k= !ir f mo y m k:=(Cu (hf _ _) _).trans (by rw[dQ HC];rfl)
theorem TR:ir zF mo y m k=false:=i6 _
end
def DVf(c:Cs)(D:Addr)(H0 H:Hp)(v:V)(ko:Ko):Prop:=DV c H v ko/\∀p,v=.ref p->p≠D/\H0 p=none
theorem DVf.keep{c:Cs}{H0:Hp}{D:Addr}{H H':Hp}(s:Same H H'){v:V}{ko:Ko}(h:DVf c D H0 H v ko):DVf c D H0 H' v ko:=⟨h.1.keep s,h.2⟩
theorem DVf.upd{c:Cs}{H0:Hp}{D:Addr}{H:Hp}{l':List V}{v:V}:∀{ko:Ko},DVf c D H0 H v ko->(∃l,H D=some (.lst l))->DVf c D H0 (upd H D (.lst l')) v ko
 |none,h,_=>h
 |some ks,⟨⟨p,qs,e,h1,h2,h3⟩,hn⟩,⟨l,hl⟩=>⟨⟨p,qs,e,by rw[eW (hn p e).1];exact h1,h2.keepM (rD hl),h3⟩,hn⟩
def RRf(c:Cs)(H0:Hp)(m0 m1 m3:Int)(kd kw:Ko)(D:Addr)(i:Nat)(l:List V)(H:Hp):Prop:=match i with
 |0=>l=[]
 |1=>l=[.int m0]
 |2=>l=[.int m0,.int m1]
 |3=>∃dv,l=[.int m0,.int m1,dv]/\DVf c D H0 H dv kd
 |4=>∃dv,l=[.int m0,.int m1,dv,.int m3]/\DVf c D H0 H dv kd
 |_=>∃dv wv,l=[.int m0,.int m1,dv,.int m3,wv]/\DVf c D H0 H dv kd/\DVf c D H0 H wv kw
theorem RRf.keep{c:Cs}{H0:Hp}{m0 m1 m3:Int}{kd kw:Ko}{D:Addr}{l:List V}{H H':Hp}(s:Same H H'):∀{i:Nat},RRf c H0 m0 m1 m3 kd kw D i l H->RRf c H0 m0 m1 m3 kd kw D i l H'
 |0,h=>h
 |1,h=>h
 |2,h=>h
 |3,⟨dv,e,h⟩=>⟨dv,e,h.keep s⟩
 |4,⟨dv,e,h⟩=>⟨dv,e,h.keep s⟩
 |_+5,⟨dv,wv,e,h,h'⟩=>⟨dv,wv,e,h.keep s,h'.keep s⟩
theorem RRf.upd{c:Cs}{H0:Hp}{m0 m1 m3:Int}{kd kw:Ko}{D:Addr}{l l':List V}{H:Hp}(hl:∃l,H D=some (.lst l)):∀{i:Nat},RRf c H0 m0 m1 m3 kd kw D i l H->RRf c H0 m0 m1 m3 kd kw D i l (upd H D (.lst l'))
 |0,h=>h
 |1,h=>h
 |2,h=>h
 |3,⟨dv,e,h⟩=>⟨dv,e,h.upd hl⟩
 |4,⟨dv,e,h⟩=>⟨dv,e,h.upd hl⟩
 |_+5,⟨dv,wv,e,h,h'⟩=>⟨dv,wv,e,h.upd hl,h'.upd hl⟩
theorem gC{ds ss:List Int}{z:Int}(h:Digs ds (z::ss)):∃d r,ds=d::r/\(0<=d/\d<z)/\Digs r ss:=by
 cases h with
 |cons h t=>exact⟨_,(),h,t⟩
theorem pK{ds:List Int}(h:Digs ds []):ds=[]:=by cases h;rfl
theorem Xp{ds:List Int}(h:Digs ds [8,2,12,31,10,8,5,7,12,12,9,7,24,24,9,7,60,60,9]):∃x0 x1 x2 x3 x4 x5 x6 x7 x8 x9 x10 x11 x12 x13 x14 x15 x16 x17 x18:Int,ds=[x0,x1,x2,x3,x4,x5,x6,x7,x8,x9,x10,x11,x12,x13,x14,x15,x16,x17,x18]/\(0<=x0/\x0<8)/\(0<=x1/\x1<2)/\(0<=x2/\x2<12)/\(0<=x3/\x3<31)/\(0<=x4/\x4<10)/\(0<=x5/\x5<8)/\(0<=x6/\x6<5)/\(0<=x7/\x7<7)/\(0<=x8/\x8<12)/\(0<=x9/\x9<12)/\(0<=x10/\x10<9)/\(0<=x11/\x11<7)/\(0<=x12/\x12<24)/\(0<=x13/\x13<24)/\(0<=x14/\x14<9)/\(0<=x15/\x15<7)/\(0<=x16/\x16<60)/\(0<=x17/\x17<60)/\(0<=x18/\x18<9):=by
 obtain⟨x0,r0,rfl,h0,h⟩:=gC h;obtain⟨x1,r1,rfl,h1,h⟩:=gC h;obtain⟨x2,r2,rfl,h2,h⟩:=gC h;obtain⟨x3,r3,rfl,h3,h⟩:=gC h;obtain⟨x4,r4,rfl,h4,h⟩:=gC h;obtain⟨x5,r5,rfl,h5,h⟩:=gC h;obtain⟨x6,r6,rfl,h6,h⟩:=gC h;obtain⟨x7,r7,rfl,h7,h⟩:=gC h;obtain⟨x8,r8,rfl,h8,h⟩:=gC h;obtain⟨x9,r9,rfl,h9,h⟩:=gC h;obtain⟨x10,r10,rfl,h10,h⟩:=gC h;obtain⟨x11,r11,rfl,h11,h⟩:=gC h;obtain⟨x12,r12,rfl,h12,h⟩:=gC h;obtain⟨x13,r13,rfl,h13,h⟩:=gC h
 obtain⟨x14,r14,rfl,h14,h⟩:=gC h;obtain⟨x15,r15,rfl,h15,h⟩:=gC h;obtain⟨x16,r16,rfl,h16,h⟩:=gC h;obtain⟨x17,r17,rfl,h17,h⟩:=gC h;obtain⟨x18,r18,rfl,h18,h⟩:=gC h;obtain rfl:=pK h;exact⟨x0,x1,x2,x3,x4,x5,x6,x7,x8,x9,x10,x11,x12,x13,x14,x15,x16,x17,x18,rfl,h0,h1,h2,h3,h4,h5,h6,h7,h8,h9,h10,h11,h12,h13,h14,h15,h16,h17,h18⟩
theorem zj{lo hi:Int}{ws:List (List Nat)}{nss:List (List Int)}(h:Paired (kq lo hi) ws nss)(hne:ws≠[])(hn:ws.length<=20)(h0:0<=lo)(h1:0<=hi):∃m,FT lo hi (gR 44 ws) m/\m<2^(hi.toNat+1):=
 ⟨_,HE h hne hn,Ec (n:=hi.toNat+1) λn hn=>by have:=(oG h).2.1 n hn;omega⟩
theorem aJH{lo hi a:Int}{t:List Nat}(h:0<=lo/\lo<=a/\a<=hi/\hi<=63)(e:num a.toNat=t):FT lo hi t (iD [a]):=by
 have:=HE (ws:=[num a.toNat]) (nss:=[[a]]) (.cons (i1 h.1 h.2.1 h.2.2.1 h.2.2.2) .nil) (cE _ _) (by show 1<=20;decide);rw[←e];exact this
theorem lZ{b:Bool}{w:List Nat}{k:Mk}(h:Cl w/\oB b w k)(ne:w≠[42])(ho:k.sp=true/\k.wk=b/\k.ok):∃ko,DT b w ko:=
 ⟨_,Jc (ws:=[w]) (.cons h .nil) (cE _ _) (by show 1<=20;decide) (λz hz=>by rw[bU.mp hz];exact ne) λz hz=>by rw[bU.mp hz];exact ho⟩
theorem vF{b:Bool}{x:Nat×Nat}(h1:ik b<=x.1)(h2:x.1<=x.2)(h3:(x.2:Int)<=il b):(nW b x).sp=true/\(nW b x).wk=b/\(nW b x).ok:=by
 have t:=(qV h1 h2 h3).2;cases b with
 |false=>exact⟨rfl,rfl,bZ t.2.2⟩
 |true=>
  obtain⟨_,M,_,hM,e⟩:=t;refine⟨rfl,rfl,?_⟩;show 0<=g7 (jt x.1 x.2 1)/\g7 (jt x.1 x.2 1)<=127;rw[e];exact (Gp hM.1 hM.2).2
theorem Ed{x:Nat×Nat}(h1:x.1<100):rt x≠[42]:=λe=>by
 unfold rt at e;have h:=jJ (c:=42) h1 (by decide);split at e
 ·exact h (by rw[e];exact bU.mpr rfl)
 ·have:42∈num x.1++45::num x.2:=by rw[e];exact bU.mpr rfl
  have l:=congrArg List.length e;rw[a8,bQ] at l;have:=oN x.1;cases hn:num x.1 with
  |nil=>exact this hn
  |cons a r=>rw[hn] at l;(simp at l;try omega)
theorem oz{b:Bool}(x:Nat×Nat)(h1:ik b<=x.1)(h2:x.1<=x.2)(h3:(x.2:Int)<=il b):∃ko,DT b (rt x) ko:=lZ (qV h1 h2 h3) (Ed (by cases b<;>(have:(x.2:Int)<=31:=Int.le_trans h3 (by decide))<;>omega)) (vF h1 h2 h3)
noncomputable def oe(n:Nat):List (List Nat):=[[42],num n,[42],[76],[76,45]++(if n=31 then [51,48] else num n),num n++[87],[76,87],[50,57],[42],[51,49],[49,45,55,44]++num n,[42,47,50]]
noncomputable def pF(d m:Nat):List (List Nat):=[[42],[42],[49,45,53],num d,num d++[35]++num m,num d++[76],num d++[35,53],[53,45,55],[42],[42]]
theorem pU:num 30=[51,48]/\num 29=[50,57]/\num 31=[51,49]/\num 5=[53]/\num 2=[50]:=by decide +kernel
theorem JN{n:Nat}(h1:1<=n)(h2:n<=31):∀t∈oe n,∃ko,DT false t ko:=by
 have one:∃ko,DT false (num n) ko:=by
  have:=oz (b:=false) (n,n) (by show (1:Int)<=n;omega) (aX _) (by show (n:Int)<=31;omega)
  rwa [show rt (n,n)=num n from if_pos rfl] at this
 intro t ht;simp only[oe,a9,cA,or_false] at ht;rcases ht with rfl | rfl | rfl | rfl | rfl | rfl | rfl | rfl | rfl | rfl | rfl | rfl
 ·exact⟨_,lN false⟩
 ·exact one
 ·exact⟨_,lN false⟩
 ·exact lZ ⟨Fy.2,Fy.1⟩ (by decide) ⟨rfl,rfl,by decide,by decide⟩
 ·split
  ·have z:=Fc 30 (by decide) (by decide);rw[pU.1] at z;exact lZ (k:=.lst 30) ⟨z.2,z.1⟩ (by decide) ⟨rfl,rfl,by decide,by decide⟩
  ·have z:=Fc n ⋯ h1;exact lZ (k:=.lst n) ⟨z.2,z.1⟩ (λe=>by cases e) ⟨rfl,rfl,by show (0:Int)<=n;omega,by show (n:Int)<=30;omega⟩
 ·have z:=YB n ⋯ h1;refine lZ (k:=.nea n) ⟨z.2,z.1⟩ (λe=>?_) ⟨rfl,rfl,by show (1:Int)<=n;omega,by show (n:Int)<=31;omega⟩;have l:=congrArg List.length e;rw[a8] at l;have:=oN n;cases hn:num n with
  |nil=>exact this hn
  |cons a r=>rw[hn] at l;(simp at l;try omega)
 ·exact lZ ⟨E5.2,E5.1⟩ (by decide) ⟨rfl,rfl,trivial⟩
 ·have:=oz (b:=false) (29,29) (by decide) (by decide) (by decide)
  rwa [show rt (29,29)=num 29 from if_pos rfl,pU.2.1] at this
 ·exact⟨_,lN false⟩
 ·have:=oz (b:=false) (31,31) (by decide) (by decide) (by decide)
  rwa [show rt (31,31)=num 31 from if_pos rfl,pU.2.2.1] at this
 ·refine⟨_,Jc (ws:=[[49,45,55],num n]) (ks:=[nW false (1,7),nW false (n,n)]) (.cons ?_ (.cons ?_ .nil)) (cE _ _) (by show 2<=20;decide) (λz hz=>?_) λz hz=>?_⟩
  ·have:=qV (b:=false) (x:=(1,7)) (by decide) (by decide) (by decide)
   rwa [show rt (1,7)=[49,45,55] by decide +kernel] at this
  ·have:=qV (b:=false) (x:=(n,n)) (by show (1:Int)<=n;omega) (aX _) (by show (n:Int)<=31;omega)
   rwa [show rt (n,n)=num n from if_pos rfl] at this
  ·rcases a9.mp hz with rfl | hz
   ·decide
   ·rw[bU.mp hz];have:=Ed (x:=(n,n)) (by show n<100;omega)
    rwa [show rt (n,n)=num n from if_pos rfl] at this
  ·rcases a9.mp hz with rfl | hz
   ·exact vF (b:=false) (x:=(1,7)) (by decide) (by decide) (by decide)
   ·rw[bU.mp hz];exact vF (b:=false) (x:=(n,n)) (by show (1:Int)<=n;omega) (aX _) (by show (n:Int)<=31;omega)
 ·exact lZ (k:=.num 2863311530) ⟨by decide,rfl,by decide +kernel,by decide⟩ (by decide) ⟨rfl,rfl,by show (0:Int)<=2863311530;decide⟩
theorem Fz{d m:Nat}(h1:d<=7)(h2:1<=m)(h3:m<=5):∃ko,DT true (num d++[35]++num m) ko:=by
 have z:=aL4 d ⋯ m ⋯ h2;refine lZ (k:=.nth ((d:Int)%7) m) ⟨z.2,z.1⟩ (λe=>?_) ⟨rfl,rfl,⟨⋯,⋯⟩,by show (1:Int)<=m;omega,by show (m:Int)<=5;omega⟩;have l:=congrArg List.length e;rw[a8,a8] at l;have:=oN d;cases hn:num d with
 |nil=>exact this hn
 |cons a r=>rw[hn] at l;(simp at l;try omega)
theorem Fj{d m:Nat}(h1:d<=7)(h2:1<=m)(h3:m<=5):∀t∈pF d m,∃ko,DT true t ko:=by
 intro t ht;simp only[pF,a9,cA,or_false] at ht;rcases ht with rfl | rfl | rfl | rfl | rfl | rfl | rfl | rfl | rfl | rfl
 ·exact⟨_,lN true⟩
 ·exact⟨_,lN true⟩
 ·have:=oz (b:=true) (1,5) (by decide) (by decide) (by decide)
  rwa [show rt (1,5)=[49,45,53] by decide +kernel] at this
 ·have:=oz (b:=true) (d,d) (by show (0:Int)<=d;omega) (aX _) (by show (d:Int)<=7;omega)
  rwa [show rt (d,d)=num d from if_pos rfl] at this
 ·exact Fz h1 h2 h3
 ·have z:=aMU d ⋯;refine lZ (k:=.one ((d:Int)%7)) ⟨z.2,z.1⟩ (λe=>?_) ⟨rfl,rfl,⋯,⋯⟩;have l:=congrArg List.length e;rw[a8] at l;have:=oN d;cases hn:num d with
  |nil=>exact this hn
  |cons a r=>rw[hn] at l;(simp at l;try omega)
 ·have:=Fz (d:=d) (m:=5) h1 (by decide) (by decide)
  rwa [pU.2.2.2.1,List.append_assoc] at this
 ·have:=oz (b:=true) (5,7) (by decide) (by decide) (by decide)
  rwa [show rt (5,7)=[53,45,55] by decide +kernel] at this
 ·exact⟨_,lN true⟩
 ·exact⟨_,lN true⟩
theorem rF{ts:List (List Nat)}{i:Int}(h0:0<=i)(h1:i<ts.length):∃t∈ts,ie (ts.map λt=>V.str (Tx t)) i=some (.str (Tx t)):=by
 have hk:i.toNat<ts.length:=⋯;have e:i=((i.toNat:Nat):Int):=⋯;refine⟨ts[i.toNat],List.getElem_mem hk,?_⟩;have z:ie (ts.map λt=>V.str (Tx t)) ((i.toNat:Nat):Int)=some (.str (Tx ts[i.toNat])):=kT (by rw[bI,cD hk];rfl)
 rwa [←e] at z
noncomputable def lX:Kc->List Nat
 |.B=>[110,111,110,101]
 |.O=>[114,111,119]
 |.J=>[106,111,105,110]
 |.M=>[109,101,101,116]
 |.L=>[108,101,115,115]
 |.T=>[116,117,114,110]
def ShT(A:Addr->Prop)(c:Bc)(H:Hp):Kc->List V->List V->(List DF->DF)->Prop
 |.B,us,vs,g=>us=[]/\vs=[]/\g=λ_=>zF
 |.O,us,vs,g=>∃r tm f,us=[r,.int tm]/\vs=[]/\RwP A c H r tm f/\g=λ_=>f
 |.J,us,vs,g=>vs=us/\(1<=us.length/\us.length<=8)/\g=iO
 |.M,us,vs,g=>vs=us/\(1<=us.length/\us.length<=8)/\g=iM
 |.L,us,vs,g=>vs=us/\us.length=2/\g=mz
 |.T,us,vs,g=>vs=us/\us.length=1/\g=lE
def Tr(A:Addr->Prop)(c:Bc):Nat->Hp->V->Bt->Prop
 |0,_,_,_=>False
 |n+1,H,v,b=>∃i t l us vs bs g,v=.ref t/\H t=some (.tup [.str (Tx (lX i)),.ref l])/\A l/\H l=some (.lst us)/\ShT A c H i us vs g/\Paired (Tr A c n H) vs bs/\b=g9 g bs
section
variable{A A':Addr->Prop}{c:Bc}{H H':Hp}{v:V}{b:Bt}{n:Nat}
theorem ShT.go(m:∀p,A p->A' p)(k:Kp A H H'):∀{i:Kc} {us vs:List V} {g:List DF->DF},ShT A c H i us vs g->ShT A' c H' i us vs g
 |.B,_,_,_,h=>h
 |.O,_,_,_,⟨r,tm,f,e,e2,h,z⟩=>⟨r,tm,f,e,e2,h.go m k,z⟩
 |.J,_,_,_,h=>h
 |.M,_,_,_,h=>h
 |.L,_,_,_,h=>h
 |.T,_,_,_,h=>h
theorem ShT.inn:∀{i:Kc} {us vs:List V} {g:List DF->DF},ShT A c H i us vs g->ShT (λp=>A p/\H p≠none) c H i us vs g
 |.B,_,_,_,h=>h
 |.O,_,_,_,⟨r,tm,f,e,e2,h,z⟩=>⟨r,tm,f,e,e2,h.inn,z⟩
 |.J,_,_,_,h=>h
 |.M,_,_,_,h=>h
 |.L,_,_,_,h=>h
 |.T,_,_,_,h=>h
theorem Tr.go(m:∀p,A p->A' p)(k:Kp A H H'):∀(n:Nat) {v:V} {b:Bt},Tr A c n H v b->Tr A' c n H' v b
 |0,_,_,h=>h
 |n+1,_,_,⟨i,t,l,us,vs,bs,g,e,ht,hA,hl,hs,hp,z⟩=>⟨i,t,l,us,vs,bs,g,e,k _ _ ht (λ_ z=>by cases z) (.inr λ_ z=>by cases z),m _ hA,k _ _ hl (λ_ z=>by cases z) (.inl hA),hs.go m k,Paired.mapP hp λ_ _ z=>Tr.go m k n z,z⟩
theorem Tr.same(s:Same H H')(h:Tr A c n H v b):Tr A c n H' v b:=h.go (λ_ z=>z) (ia s) n
theorem Tr.inn:∀(n:Nat) {v:V} {b:Bt},Tr A c n H v b->Tr (λp=>A p/\H p≠none) c n H v b
 |0,_,_,h=>h
 |n+1,_,_,⟨i,t,l,us,vs,bs,g,e,ht,hA,hl,hs,hp,z⟩=>⟨i,t,l,us,vs,bs,g,e,ht,⟨hA,by rw[hl];exact λz=>nomatch z⟩,hl,hs.inn,Paired.mapP hp λ_ _ z=>Tr.inn n z,z⟩
theorem B6{g:List DF->DF}{bs:List Bt}(h:∀b∈bs,1<=b.1/\1<=b.2.1):(1<=(g9 g bs).1/\1<=(g9 g bs).2.1)/\∀b∈bs,b.1<(g9 g bs).1/\b.2.1<(g9 g bs).2.1:=by
 have key:∀l:List Int,(∀i∈l,1<=i)->0<=l.sum/\∀i∈l,i<=l.sum:=λl=>by
  induction l with
  |nil=>exact λ_=>⟨bB 0,λ_ h=>nomatch h⟩
  |cons a l ih=>
   intro h;obtain⟨h1,h2⟩:=ih λi hi=>h i (bP _ hi);have:=h a (bW ..);rw[List.sum_cons];refine⟨⋯,λi hi=>?_⟩;rcases a9.mp hi with rfl | hi
   ·omega
   ·have:=h2 i hi;omega
 obtain⟨k1,k2⟩:=key (bs.map (·.1)) λi hi=>by
  obtain⟨b,hb,rfl⟩:=bH.mp hi;exact (h b hb).1
 obtain⟨m1,m2,_⟩:=nU (bs.map (·.2.1)) 0;show (1<=1+(bs.map (·.1)).sum/\1<=1+(bs.map (·.2.1)).foldl max 0)/\∀b∈bs,b.1<1+(bs.map (·.1)).sum/\b.2.1<1+(bs.map (·.2.1)).foldl max 0;refine⟨⟨⋯,⋯⟩,λb hb=>⟨?_,?_⟩⟩
 ·have:=k2 _ (bH.mpr ⟨b,hb,rfl⟩);omega
 ·have:=m2 _ (bH.mpr ⟨b,hb,rfl⟩);omega
theorem Tr.pos:∀(n:Nat) {v:V} {b:Bt},Tr A c n H v b->1<=b.1/\1<=b.2.1
 |0,_,_,h=>h.elim
 |n+1,_,_,⟨i,t,l,us,vs,bs,g,e,ht,hA,hl,hs,hp,z⟩=>by
  rw[z];refine (B6 λb hb=>?_).1;obtain⟨u,_,hu⟩:=mm hp b hb;exact Tr.pos n hu
theorem Lh{vs:List V}{bs:List Bt}(hp:Paired (Tr A c n H) vs bs):∀b∈bs,1<=b.1/\1<=b.2.1:=λb hb=>by
 obtain⟨u,_,hu⟩:=mm hp b hb;exact Tr.pos n hu
theorem Lg:∀{i:Kc} {us vs:List V} {g:List DF->DF},ShT A c H i us vs g->∀{gs:List DF},(∀f∈gs,gy f)->gy (g gs)
 |.B,_,_,_,⟨_,_,e⟩,_,_=>by rw[e];exact sd
 |.O,_,_,_,⟨_,_,_,_,_,⟨x,m0,m1,m3,kd,kw,_,h,e1,e2⟩,e⟩,_,_=>by rw[e,e2,e1];exact h.rr.ok
 |.J,_,_,_,⟨_,_,e⟩,_,h=>by rw[e];exact Ia h
 |.M,_,_,_,⟨_,_,e⟩,_,h=>by rw[e];exact ED h
 |.L,_,_,_,⟨_,_,e⟩,gs,h=>by rw[e];exact Hu h
 |.T,_,_,_,⟨_,_,e⟩,gs,h=>by rw[e];exact KZ h
theorem Tr.ok:∀(n:Nat) {v:V} {b:Bt},Tr A c n H v b->gy b.2.2
 |0,_,_,h=>h.elim
 |n+1,_,_,⟨i,t,l,us,vs,bs,g,e,ht,hA,hl,hs,hp,z⟩=>by
  rw[z];refine Lg hs λf hf=>?_;obtain⟨b,hb,rfl⟩:=bH.mp hf;obtain⟨u,_,hu⟩:=mm hp b hb;exact Tr.ok n hu
end
noncomputable def tl:Nat->Int
 |0=>0
 |n+1=>1+3*tl n
theorem WV{B:Int}(hB:0<=B):∀{is:List Int},is.length<=3->(∀i∈is,0<=i/\i<=B)->is.sum<=3*B
 |[],_,_=>by show (0:Int)<=_;omega
 |[a],_,h=>by have:=h a (by simp);show a+0<=_;omega
 |[a,b],_,h=>by have:=h a (by simp);have:=h b (by simp);show a+(b+0)<=_;omega
 |[a,b,c],_,h=>by have:=h a (by simp);have:=h b (by simp);have:=h c (by simp);show a+(b+(c+0))<=_;omega
 |a::b::c::d::r,h,_=>absurd h (by simp)
def pV(n:Nat)(b:Bt):Prop:=1<=b.1/\b.1<=tl n/\1<=b.2.1/\b.2.1<=(n:Int)
theorem Gs:∀n:Nat,0<=tl n
 |0=>bB 0
 |n+1=>by have:=Gs n;show 0<=1+3*tl n;omega
theorem p5{n:Nat}{g:List DF->DF}{bs:List Bt}(hl:bs.length<=3)(h:∀b∈bs,pV n b):pV (n+1) (g9 g bs):=by
 obtain⟨⟨p1,p2⟩,_⟩:=B6 (g:=g) λb hb=>⟨(h b hb).1,(h b hb).2.2.1⟩;have s:=WV (Gs n) (is:=bs.map (·.1)) (by rw[aY];exact hl) λi hi=>by
  obtain⟨b,hb,rfl⟩:=bH.mp hi;have:=h b hb;exact⟨by have:=this.1;omega,this.2.1⟩
 refine⟨p1,by show 1+(bs.map (·.1)).sum<=1+3*tl n;omega,p2,?_⟩;show 1+(bs.map (·.2.1)).foldl max 0<=((n+1:Nat):Int);obtain⟨_,_,m3⟩:=nU (bs.map (·.2.1)) 0;rcases m3 with m3 | m3
 ·rw[m3];omega
 ·obtain⟨b,hb,e⟩:=bH.mp m3;have z:=(h b hb).2.2.2;have e':b.2.1=(bs.map (·.2.1)).foldl max 0:=e;omega
def p6(K:FG)(c:Bc)(lv:Nat):Sp:=λvs H Q _=>∃(a:Addr) (n:Nat) (bm:Bool) (ns:List Int),vs=[.ref a,.int n,.int lv,.bl bm]/\SqL K H a (ns.map V.int)/\(n+2)*3^lv<=450/\∀(t:Addr) (b:Bt) (H':Hp),Same H H'->Tr (λp=>H p=none) c (lv+1) H' (.ref t) b->pV (lv+1) b->Q (.ref t) H'
theorem VX{i:Int}(h0:0<=i)(h1:i<7):∃kc:Kc,ie [.str (Tx [106,111,105,110]),.str (Tx [109,101,101,116]),.str (Tx [108,101,115,115]),.str (Tx [116,117,114,110]),.str (Tx [106,111,105,110]),.str (Tx [108,101,115,115]),.str (Tx [116,117,114,110])] i=some (V.str (Tx (lX kc)))/\kc≠ .B/\kc≠ .O:=by
 obtain⟨n,rfl⟩:∃n:Nat,i=n:=⟨i.toNat,⋯⟩
 match n,h1 with
 |0,_=>exact⟨.J,rfl,(λz=>by cases z),λz=>by cases z⟩
 |1,_=>exact⟨.M,rfl,(λz=>by cases z),λz=>by cases z⟩
 |2,_=>exact⟨.L,rfl,(λz=>by cases z),λz=>by cases z⟩
 |3,_=>exact⟨.T,rfl,(λz=>by cases z),λz=>by cases z⟩
 |4,_=>exact⟨.J,rfl,(λz=>by cases z),λz=>by cases z⟩
 |5,_=>exact⟨.L,rfl,(λz=>by cases z),λz=>by cases z⟩
 |6,_=>exact⟨.T,rfl,(λz=>by cases z),λz=>by cases z⟩
 |n+7,h=>exact absurd h (by have:((n+7:Nat):Int)=(n:Int)+7:=rfl;omega)
noncomputable def gK:Kc->List DF->DF
 |.J=>iO
 |.M=>iM
 |.L=>mz
 |.T=>lE
 |_=>λ_=>zF
noncomputable def vk(z:Int):List (fG×V):=[(.inr (Tx [106,111,105,110]),.int z),(.inr (Tx [109,101,101,116]),.int z),(.inr (Tx [108,101,115,115]),.int 2),(.inr (Tx [116,117,114,110]),.int 1)]
theorem Zs{z:Int}{kc:Kc}(hz:1<=z/\z<=3)(h:kc≠ .B/\kc≠ .O):∃M:Nat,some (V.int M)=hX (mM [] (vk z)) (.inr (Tx (lX kc)))/\M<=3/\∀{A:Addr->Prop} {c:Bc} {H:Hp} {us:List V},us.length=M->ShT A c H kc us us (gK kc):=by
 obtain⟨n,rfl⟩:∃n:Nat,z=n:=⟨z.toNat,⋯⟩;cases kc with
 |B=>exact absurd rfl h.1
 |O=>exact absurd rfl h.2
 |J=>exact⟨n,rfl,⋯,λe=>⟨rfl,⋯,rfl⟩⟩
 |M=>exact⟨n,rfl,⋯,λe=>⟨rfl,⋯,rfl⟩⟩
 |L=>exact⟨2,rfl,by decide,λe=>⟨rfl,e,rfl⟩⟩
 |T=>exact⟨1,rfl,by decide,λe=>⟨rfl,e,rfl⟩⟩
def pv(c:Bc)(n:Nat):Sp:=λvs H Q _=>∃(A:Addr->Prop) (v:V) (b:Bt),vs=[v]/\Tr A c n H v b/\n<=4/\(b.1<=24/\b.2.1<=5)/\∀(u:V) (H':Hp),Same H H'->Bk A c n H' u b->Q u H'
def oK(c:Bc)(n:Nat):Sp:=λvs H Q _=>∃(A:Addr->Prop) (v:V) (k:Int) (b:Bt),vs=[v,.int k]/\Tr A c n H v b/\(0<=k/\k<=90)/\∀D H',Same H H'->H' D=some (.lst ((fX b.2.2 k).map V.int))->Q (.ref D) H'
theorem tZ{A:Addr->Prop}{c:Bc}{H:Hp}:∀{i:Kc} {us vs:List V} {g:List DF->DF},ShT A c H i us vs g->i≠ .B->i≠ .O->vs=us/\1<=us.length/\us.length<=8/\lX i≠[110,111,110,101]/\lX i≠[114,111,119]/\(i=.J/\g=iO∨i=.M/\g=iM∨(i=.L/\g=mz/\us.length=2)∨(i=.T/\g=lE/\us.length=1))
 |.B,_,_,_,_,h1,_=>absurd rfl h1
 |.O,_,_,_,_,_,h2=>absurd rfl h2
 |.J,_,_,_,⟨e,h,z⟩,_,_=>⟨e,h.1,h.2,by decide,by decide,.inl ⟨rfl,z⟩⟩
 |.M,_,_,_,⟨e,h,z⟩,_,_=>⟨e,h.1,h.2,by decide,by decide,.inr (.inl ⟨rfl,z⟩)⟩
 |.L,_,_,_,⟨e,h,z⟩,_,_=>⟨e,⋯,⋯,by decide,by decide,.inr (.inr (.inl ⟨rfl,z,h⟩))⟩
 |.T,_,_,_,⟨e,h,z⟩,_,_=>⟨e,⋯,⋯,by decide,by decide,.inr (.inr (.inr ⟨rfl,z,h⟩))⟩
theorem G3{l:List V}(h:l.length=1):∃a,l=[a]:=by
 cases l with
 |nil=>cases h
 |cons a r=>cases r with
  |nil=>exact⟨a,rfl⟩
  |cons b r=>cases h
theorem Vo{l:List V}(h:l.length=2):∃a b,l=[a,b]:=by
 cases l with
 |nil=>cases h
 |cons a r=>
  obtain⟨b,rfl⟩:=G3 (cR h);exact⟨a,b,rfl⟩
theorem DP(u:V)(r:List V):jR (u::r) (some 1) none=r:=by
 have h1:HT.sIx (u::r).length 0 (some 1)=1:=by
  unfold HT.sIx;rw[bQ];simp
  try omega
 have h2:HT.sIx (u::r).length (u::r).length none=(u::r).length:=rfl;unfold jR;rw[h1,h2];show r.take ((r.length+1)-1)=r;rw[Nat.add_sub_cancel,bN]
noncomputable def kH(wd:List Nat)(a b:Int):Int:=if wd=[106,111,105,110] then Builtin.bitOr a b else if wd=[109,101,101,116] then Builtin.bitAnd a b else Builtin.bitAnd a (Builtin.bitNot b)
theorem tY(a b:Int):kH [106,111,105,110] a b=Builtin.bitOr a b:=if_pos rfl
theorem ya(a b:Int):kH [109,101,101,116] a b=Builtin.bitAnd a b:=by unfold kH;rw[if_neg (by decide),if_pos rfl]
theorem IZ(a b:Int):kH [108,101,115,115] a b=Builtin.bitAnd a (Builtin.bitNot b):=by unfold kH;rw[if_neg (by decide),if_neg (by decide)]
theorem Wd{wd:List Nat}{a b:Int}(ha:gH a)(hb:gH b):gH (kH wd a b):=by
 unfold kH;split
 ·exact HB ha hb
 ·split
  ·exact Jx ha hb.1
  ·exact K4 ha hb
noncomputable def j8(wd:List Nat)(g:DF)(fs:List DF):DF:=λk j=>fs.foldl (λa f=>kH wd a (f k j)) (g k j)
theorem aBY{wd:List Nat}{g h:DF}{fs:List DF}{i:Nat}{k:Int}{j:Nat}(e:fs[i]? =some h):j8 wd g (fs.take (i+1)) k j=kH wd (j8 wd g (fs.take i) k j) (h k j):=by
 unfold j8;rw[bL,e,List.foldl_append];rfl
theorem PX{wd:List Nat}{g:DF}{fs:List DF}(hg:gy g)(h:∀f∈fs,gy f):gy (j8 wd g fs):=λk j=>qO (g:=kH wd) (λha hb=>Wd ha hb) k j fs _ (hg k j) h
theorem Cg{g:DF}{fs:List DF}(hg:gy g):j8 [106,111,105,110] g fs=iO (g::fs):=by
 funext k j;unfold j8 iO;rw[List.foldl_cons,u9 (hg k j).1];congr 1
theorem zf{g:DF}{fs:List DF}(hg:gy g):j8 [109,101,101,116] g fs=iM (g::fs):=by
 funext k j;unfold j8 iM;rw[List.foldl_cons,L9 (hg k j)];congr 1
theorem fo_l{g h:DF}:j8 [108,101,115,115] g [h]=qT g h:=by
 funext k j;exact IZ _ _
theorem Vm{tm d:Int}(hd:0<=d)(i:Nat):tm*Builtin.bitAnd (d / 2^(1+(i:Int)).toNat) 1=if tb d (i+1)=true then tm else 0:=by
 rw[show (1+(i:Int)).toNat=i+1 by omega];split
 ·rename_i c;rw[(mv hd _).mpr c,Int.mul_one]
 ·rename_i c;rw[(tM hd _).mpr (by simpa using c),Int.mul_zero]
def pz(c:Bc)(n:Nat):Sp:=λvs H Q _=>∃(A:Addr->Prop) (v:V) (b:Bt),vs=[v]/\Tr A c n H v b/\n<=3/\∀(D:Addr) (ls:List V) (H':Hp),Same H H'->H' D=some (.lst ls)->(∀r∈ls,∃tm f,RwP A c H' r tm f)->ls.length<=8^n->Q (.ref D) H'
theorem aIU{i:Kc}(h:lX i=[114,111,119]):i=.O:=by cases i<;>first | rfl | exact absurd h (by decide)
theorem Av{X:Cx}{o e:Expr}{es:List Expr}{ta:TE}{t:TA}{pos apos:Pos}{c:Bc}{nm:Str}{ps:List Str}{k k':Nat}{S:Kc->Sp}{pl:Sem Bool}(M:Mo X.prog X.w X.K X.mg X.base c nm ps k S)(hr:Room k' X.A)(ho:E X o ta)(ha:As X (e::es) t)(hk:k<=k':=by first | decide | omega)
  (hst:starEach (e::es) X.env=(false,eval e X.env)::starEach es X.env:=by rfl) (hpl:(backTo pos (starEach es X.env)).any (·.1)=false:=by rfl)
  (ht:eval (.Call (.Attribute o nm apos) (e::es) [] pos) X.env=(do
   let ov ←eval o X.env
   standAt apos.atName
   let (f,first) ←holding [ov] (getMethod ov nm pl)
   callWith pos f first (backTo pos (starEach (e::es) X.env)) (backToKw pos (keywordEach [] X.env))):=by rfl):
  E X (.Call (.Attribute o nm apos) (e::es) [] pos) (λσ H Q=>∃i,nT (c.k i) nm (S i) [] E0 ta t σ H Q):=tI λi=>ip (M i).1 (M i).2 hr ho ha hk hst hpl ht
theorem LQ{f:DF}{k:Int}(h:28<=gI k):∃z xs,(fX f k).map V.int=V.int z::xs:=by
 unfold fX;obtain⟨n,e⟩:∃n,(gI k).toNat=n+1:=⟨(gI k).toNat-1,⋯⟩;rw[e,List.range_succ_eq_map];exact⟨_,()⟩
theorem R9{l:List V}{v:V}:j1 (v::l).length 0=some 0:=by
 unfold j1;simp
theorem Z4{l:List V}{v:V}:ie (v::l) 0=some v:=kT (j:=0) rfl
theorem aJK{f:DF}{k:Int}{j:Nat}(h:j<(gI k).toNat):ie ((fX f k).map V.int) (j:Int)=some (.int (f k j)):=kT (by unfold fX;rw[cG,bI,List.getElem?_range h];rfl)
theorem Wq{t:Int}{i:Nat}(h:0<=t):decide (V.int (Builtin.bitAnd (t / 2^i) 1)=V.int 1)=tb t i:=by
 cases c:tb t i
 ·rw[(tM h i).mpr c];rfl
 ·rw[(mv h i).mpr c];rfl
theorem Kz{l:List V}(h:l.length=8):jR l none (some 5)=l.take 5/\jR l (some 6) none=l.drop 6:=by
 have h5:HT.sIx l.length l.length (some 5)=5:=by rw[h];rfl
 have h6:HT.sIx l.length 0 (some 6)=6:=by rw[h];rfl
 have h0:HT.sIx l.length 0 none=0:=rfl;have hn:HT.sIx l.length l.length none=l.length:=rfl;unfold jR;rw[h5,h6,h0,hn];exact⟨rfl,dF (by rw[cN];exact aX _)⟩
theorem za{α β:Type}{F:α->β->Prop}:∀(n:Nat) {l:List α} {r:List β},Paired F l r->Paired F (l.take n) (r.take n)
 |0,_,_,_=>.nil
 |n+1,_,_,.nil=>.nil
 |n+1,_,_,.cons h t=>.cons h (za n t)
theorem yT{α β:Type}{F:α->β->Prop}:∀(n:Nat) {l:List α} {r:List β},Paired F l r->Paired F (l.drop n) (r.drop n)
 |0,_,_,h=>h
 |n+1,_,_,.nil=>.nil
 |n+1,_,_,.cons _ t=>yT n t
theorem yn{α β:Type}{F:α->β->Prop}:∀{l l':List α} {r r':List β},Paired F l r->Paired F l' r'->Paired F (l++l') (r++r')
 |_,_,_,_,.nil,h=>h
 |_,_,_,_,.cons h t,h'=>.cons h (yn t h')
def pW(bs:List Bt):Prop:=∀b∈bs,b.1=1/\b.2.1=1
theorem FM:∀{bs:List Bt},pW bs->(bs.map (·.1)).sum=bs.length
 |[],_=>rfl
 |b::bs,h=>by
  rw[bM,List.sum_cons,FM λb hb=>h b (bP _ hb),(h b (bW ..)).1,bQ];omega
theorem GN{bs:List Bt}(h:pW bs)(hl:bs.length<=8):nX bs:=by
 refine⟨by rw[FM h];omega,?_⟩;obtain⟨_,_,m3⟩:=nU (bs.map (·.2.1)) 0;rcases m3 with m3 | m3
 ·rw[m3];decide
 ·obtain⟨b,hb,e⟩:=bH.mp m3;have z:=(h b hb).2;have e':b.2.1=(bs.map (·.2.1)).foldl max 0:=e;omega
theorem BkC.lk{A:Addr->Prop}{c:Bc}{P:V->Bt->Prop}{H:Hp}{i:Kc}{x:Addr}{b:Bt}(h:BkC A c P H i x b):∃dx fs,H x=some (.ins (c.k i) dx fs)/\fs.lookup ("on_days":Str)=none:=by
 obtain⟨dx,fs,vs,bs,g,hx,hs,_⟩:=h;exact⟨dx,fs,hx,hs.lk (by decide +kernel) (by decide +kernel) (by decide +kernel) (by decide +kernel)⟩
theorem Li{l:List Int}:(if true=true then !decide (l=l) else decide (l=l))=false:=by rw[dQ rfl];rfl
theorem Hr{l:List Int}:(if false=true then !decide (l=l) else decide (l=l))=true:=by rw[dQ rfl];rfl
theorem vb{n:Nat}(h:n<=3):8^n<=512:=bV (Nat.pow_le_pow_right (by decide) h) (by decide)
theorem Gc{K:FG}{H H':Hp}{a:Addr}{xs:List V}(e:SameN H H')(h:SqL K H a xs):SqL K H' a xs:=by
 rcases h with (h | ⟨o,h⟩) | h
 ·exact .inl (.inl (e _ _ (λ_ z=>by cases z) h))
 ·exact .inl (.inr ⟨o,e _ _ (λ_ z=>by cases z) h⟩)
 ·exact .inr h
inductive LK (K:FG) (vs:List V) (H:Hp) (Q:VK) (E:XK):Prop
 |mk (y:Int) (_:vs=[.int y]) (_:Q (.bl (iR y)) H)
inductive SN (K:FG) (vs:List V) (H:Hp) (Q:VK) (E:XK):Prop
 |mk (y z:Int) (_:vs=[.int y,.int z]) (_:(0<z/\z<1073741824)) (_:Q (.int (mb y z)) H)
inductive am5 (K:FG) (vs:List V) (H:Hp) (Q:VK) (E:XK):Prop
 |mk (y:Int) (_:vs=[.int y]) (_:Q (.int (db y)) H)
inductive awS (K:FG) (vs:List V) (H:Hp) (Q:VK) (E:XK):Prop
 |mk (y m:Int) (_:vs=[.int y,.int m]) (_:(1<=m/\m<=12)) (_:Q (.int (fH y m)) H)
inductive LU (K:FG) (vs:List V) (H:Hp) (Q:VK) (E:XK):Prop
 |mk (i:Int) (_:vs=[.int i]) (_:Q (.bl true) H)
inductive axH (K:FG) (vs:List V) (H:Hp) (Q:VK) (E:XK):Prop
 |mk (y m k:Int) (_:vs=[.int y,.int m,.int k]) (_:((1<=m/\m<=12)/\1<=k/\k<=fH y m)) (_:Q (.bl true) H)
inductive Yj (K:FG) (vs:List V) (H:Hp) (Q:VK) (E:XK):Prop
 |mk (y m k:Int) (_:vs=[.int y,.int m,.int k]) (_:((1<=m/\m<=12)/\1<=k/\k<=fH y m)) (_:∀H',Same H H'->Q (.int (db y+ahead y m+k-1)) H')
inductive aw5 (K:FG) (vs:List V) (H:Hp) (Q:VK) (E:XK):Prop
 |mk (d:Int) (_:vs=[.int d]) (_:∀y:Int,db y<=d->d<db (y+1)->Q (.int y) H)
inductive Sl (K:FG) (vs:List V) (H:Hp) (Q:VK) (E:XK):Prop
 |mk (d:Int) (_:vs=[.int d]) (_:∀(y m k:Int) (p:Addr) (H':Hp),jK y m k->iA y m k=d->Same H H'->H' p=some (.tup [.int y,.int m,.int k])->Q (.ref p) H')
inductive LX (K:FG) (vs:List V) (H:Hp) (Q:VK) (E:XK):Prop
 |mk (d:Int) (_:vs=[.int d]) (_:Q (.int ((d+6)%7)) H)
inductive SB (K:FG) (vs:List V) (H:Hp) (Q:VK) (E:XK):Prop
 |mk (y m d:Int) (_:vs=[.int y,.int m,.int d]) (_:Q (.int (7*jI y m+(d+6)%7)) H)
inductive Lx (K:FG) (vs:List V) (H:Hp) (Q:VK) (E:XK):Prop
 |mk (y m:Int) (_:vs=[.int y,.int m]) (_:(1<=m/\m<=12)) (_:∀H':Hp,Same H H'->Q (.int (kindOf y m)) H')
inductive Tn (K:FG) (vs:List V) (H:Hp) (Q:VK) (E:XK):Prop
 |mk (mo:Int) (_:vs=[.int mo]) (_:∀(p:Addr) (H':Hp),Same H H'->H' p=some (.tup [.int (mo / 1440),.int (mo%1440 / 60),.int (mo%1440%60)])->Q (.ref p) H')
inductive apF (K:FG) (vs:List V) (H:Hp) (Q:VK) (E:XK):Prop
 |mk (l:List Nat) (_:vs=[.str (Tx l)]) (_:l.length<=2000) (_:∀H',Same H H'->Q (.bl (k9 l)) H')
inductive aqB (K:FG) (vs:List V) (H:Hp) (Q:VK) (E:XK):Prop
 |mk (l:List Nat) (_:vs=[.str (Tx l)]) (_:l.length<=2000) (_:∀H',Same H H'->Q (.bl (iH l)) H')
inductive UX (K:FG) (vs:List V) (H:Hp) (Q:VK) (E:XK):Prop
 |mk (m n:Int) (_:vs=[.int m,.int n]) (_:(0<=m/\0<=n)) (_:Q (.bl (tb m n.toNat)) H)
inductive Xg (K:FG) (vs:List V) (H:Hp) (Q:VK) (E:XK):Prop
 |mk (a:Addr) (zs:List Int) (_:vs=[.ref a]) (_:SqL K H a (zs.map V.int)) (_:(∀z∈zs,0<=z/\z<=100000)) (_:Q (.int (iD zs)) H)
inductive Oz (K:FG) (vs:List V) (H:Hp) (Q:VK) (E:XK):Prop
 |mk (m:Int) (_:vs=[.int m]) (_:(0<=m/\Builtin.Int.intBits m<=100000)) (_:∀(p:Addr) (H':Hp),Same H H'->H' p=some (.lst ((mj m).map V.int))->Q (.ref p) H')
inductive SQ (K:FG) (vs:List V) (H:Hp) (Q:VK) (E:XK):Prop
 |mk (a b s:Int) (_:vs=[.int a,.int b,.int s]) (_:(0<=a/\a<=1000)) (_:(-1<=b/\b<=1000)) (_:(0<s/\s<=1000)) (_:∀H',Same H H'->Q (.int (jt a b s)) H')
inductive Py (K:FG) (vs:List V) (H:Hp) (Q:VK) (E:XK):Prop
 |mk (l:List Nat) (lo hi:Int) (_:vs=[.str (Tx l),.int lo,.int hi]) (_:l.length<=600) (_:∀H',Same H H'->Q (oV (gL lo hi l)) H')
inductive avH (K:FG) (vs:List V) (H:Hp) (Q:VK) (E:XK):Prop
 |mk (l:List Nat) (lo hi:Int) (_:vs=[.str (Tx l),.int lo,.int hi]) (_:l.length<=500) (_:∀(r:V) (H':Hp),Same H H'->DZ H' r (iK lo hi l)->Q r H')
inductive YN (K:FG) (vs:List V) (H:Hp) (Q:VK) (E:XK):Prop
 |mk (r s:List Nat) (lo hi:Int) (_:vs=[.str (Tx r),.str (Tx s),.int lo,.int hi]) (_:r.length<=400) (_:s.length<=400) (_:(0<=lo/\lo<=hi/\hi<=1000)) (_:∀H',Same H H'->Q (oV (jZ lo hi r s)) H')
inductive asI (K:FG) (vs:List V) (H:Hp) (Q:VK) (E:XK):Prop
 |mk (l:List Nat) (lo hi:Int) (_:vs=[.str (Tx l),.int lo,.int hi]) (_:l.length<=300) (_:(0<=lo/\lo<=hi/\hi<=1000)) (_:∀H',Same H H'->Q (oV (gJ lo hi l)) H')
inductive Mb (K:FG) (vs:List V) (H:Hp) (Q:VK) (E:XK):Prop
 |mk (l:List Nat) (lo hi:Int) (_:vs=[.str (Tx l),.int lo,.int hi]) (_:l.length<=300) (_:(0<=lo/\lo<=hi/\hi<=1000)) (_:Kt lo hi l) (_:∀H',Same H H'->Q (.int (gM (lh lo hi l))) H')
inductive Pf (K:FG) (vs:List V) (H:Hp) (Q:VK) (E:XK):Prop
 |mk (d f:Int) (_:vs=[.int d,.int f]) (_:Q (.int ((f+d-1)%7)) H)
inductive QI (K:FG) (vs:List V) (H:Hp) (Q:VK) (E:XK):Prop
 |mk (l:Int) (_:vs=[.int l]) (_:(28<=l/\l<=31)) (_:Q (.int (2*2^l.toNat-2)) H)
inductive UZ (K:FG) (vs:List V) (H:Hp) (Q:VK) (E:XK):Prop
 |mk (d l f:Int) (_:vs=[.int d,.int l,.int f]) (_:Q (.int (nw d l f)) H)
inductive Vv (K:FG) (vs:List V) (H:Hp) (Q:VK) (E:XK):Prop
 |mk (w f:Int) (_:vs=[.int w,.int f]) (_:Q (.int (1+(w-f)%7)) H)
inductive T1 (K:FG) (C:Addr) (vs:List V) (H:Hp) (Q:VK) (E:XK):Prop
 |mk (p:Addr) (l f:Int) (_:vs=[.ref p,.int l,.int f]) (_:Q (.int 0) H)
inductive Nj (K:FG) (C:Addr) (vs:List V) (H:Hp) (Q:VK) (E:XK):Prop
 |mk (p dx:Addr) (m:Int) (_:vs=[.ref p,.int m]) (_:H p=some (.ins C dx [])) (_:Q .non (upd H p (.ins C dx [("mask",.int m)])))
inductive Oy (K:FG) (C:Addr) (vs:List V) (H:Hp) (Q:VK) (E:XK):Prop
 |mk (p dx:Addr) (m l f:Int) (_:vs=[.ref p,.int l,.int f]) (_:H p=some (.ins C dx [("mask",.int m)])) (_:Lf l f) (_:Q (.int (pS m l)) H)
inductive NY (K:FG) (C:Addr) (vs:List V) (H:Hp) (Q:VK) (E:XK):Prop
 |mk (p dx:Addr) (m:Int) (_:vs=[.ref p,.int m]) (_:H p=some (.ins C dx [])) (_:Q .non (upd H p (.ins C dx [("back",.int m)])))
inductive MB (K:FG) (C:Addr) (vs:List V) (H:Hp) (Q:VK) (E:XK):Prop
 |mk (p dx:Addr) (b l f:Int) (_:vs=[.ref p,.int l,.int f]) (_:H p=some (.ins C dx [("back",.int b)])) (_:(0<=b/\b<=30)) (_:Lf l f) (_:Q (.int (mh b l)) H)
inductive Zr (K:FG) (C:Addr) (vs:List V) (H:Hp) (Q:VK) (E:XK):Prop
 |mk (p dx:Addr) (m:Int) (_:vs=[.ref p,.int m]) (_:H p=some (.ins C dx [])) (_:Q .non (upd H p (.ins C dx [("day",.int m)])))
inductive P4 (K:FG) (C:Addr) (vs:List V) (H:Hp) (Q:VK) (E:XK):Prop
 |mk (p dx:Addr) (d l f:Int) (_:vs=[.ref p,.int l,.int f]) (_:H p=some (.ins C dx [("day",.int d)])) (_:rW d l f) (_:Q (.int (mG d l f)) H)
inductive Wt (K:FG) (C:Addr) (vs:List V) (H:Hp) (Q:VK) (E:XK):Prop
 |mk (p dx:Addr) (l f:Int) (_:vs=[.ref p,.int l,.int f]) (_:H p=some (.ins C dx [])) (_:rW l l f) (_:Q (.int (1*2^(nw l l f).toNat)) H)
inductive YI (K:FG) (C:Addr) (vs:List V) (H:Hp) (Q:VK) (E:XK):Prop
 |mk (p dx:Addr) (m:Int) (_:vs=[.ref p,.int m]) (_:H p=some (.ins C dx [])) (_:Q .non (upd H p (.ins C dx [("mask",.int m)])))
inductive ZS (K:FG) (C:Addr) (vs:List V) (H:Hp) (Q:VK) (E:XK):Prop
 |mk (p dx:Addr) (m l f:Int) (_:vs=[.ref p,.int l,.int f]) (_:H p=some (.ins C dx [("mask",.int m)])) (_:(0<=m/\m<=127)) (_:Lf l f) (_:Q (.int (rJ m l f)) H)
inductive Me (K:FG) (C:Addr) (vs:List V) (H:Hp) (Q:VK) (E:XK):Prop
 |mk (p dx:Addr) (w m:Int) (_:vs=[.ref p,.int w,.int m]) (_:H p=some (.ins C dx [])) (_:Q .non (upd (upd H p (.ins C dx (fJ "weekday" (.int w) []))) p (.ins C dx (lK w m))))
inductive L3 (K:FG) (C:Addr) (vs:List V) (H:Hp) (Q:VK) (E:XK):Prop
 |mk (p dx:Addr) (w m l f:Int) (_:vs=[.ref p,.int l,.int f]) (_:H p=some (.ins C dx (lK w m))) (_:(0<=w/\w<=6)) (_:(1<=m/\m<=5)) (_:Lf l f) (_:Q (.int (lj w m l f)) H)
inductive af8 (K:FG) (C:Addr) (vs:List V) (H:Hp) (Q:VK) (E:XK):Prop
 |mk (p dx:Addr) (m:Int) (_:vs=[.ref p,.int m]) (_:H p=some (.ins C dx [])) (_:Q .non (upd H p (.ins C dx [("weekday",.int m)])))
inductive Zo (K:FG) (C:Addr) (vs:List V) (H:Hp) (Q:VK) (E:XK):Prop
 |mk (p dx:Addr) (w l f:Int) (_:vs=[.ref p,.int l,.int f]) (_:H p=some (.ins C dx [("weekday",.int w)])) (_:(0<=w/\w<=6)) (_:Lf l f) (_:Q (.int (F8 w l f)) H)
inductive N4 (K:FG) (aB aE aF aI aD aA aH aJ:Addr) (vs:List V) (H:Hp) (Q:VK) (E:XK):Prop
 |mk (b:Addr) (ps:List Addr) (ks:List Mk) (l f:Int) (_:vs=[.ref b,.int l,.int f]) (_:SqL K H b (ps.map V.ref)) (_:Ft (MkAt (⟨aB,aE,aF,aI,aD,aA,aH,aJ⟩:Cs) H) ps ks) (_:(∀k∈ks,k.ok)) (_:Lf l f) (_:Q (.int (ll ks l f)) H)
inductive O9 (K:FG) (aB aE aF aI aD aA aH aJ:Addr) (vs:List V) (H:Hp) (Q:VK) (E:XK):Prop
 |mk (t:List Nat) (_:vs=[.str (Tx t)]) (_:t.length<=300) (_:∀(v:V) (H':Hp),Same H H'->KL (⟨aB,aE,aF,aI,aD,aA,aH,aJ⟩:Cs) H' v (jX t)->Q v H')
inductive Lz (K:FG) (vs:List V) (H:Hp) (Q:VK) (E:XK):Prop
 |mk (t:List Nat) (_:vs=[.str (Tx t)]) (_:t.length<=300) (_:∀H',Same H H'->Q (oV (kD t)) H')
inductive TF (K:FG) (aB aE aF aI aD aA aH aJ:Addr) (vs:List V) (H:Hp) (Q:VK) (E:XK):Prop
 |mk (t:List Nat) (_:vs=[.str (Tx t)]) (_:t.length<=300) (_:∀(v:V) (H':Hp),Same H H'->KL (⟨aB,aE,aF,aI,aD,aA,aH,aJ⟩:Cs) H' v (l9 t)->Q v H')
inductive Vd (K:FG) (aB aE aF aI aD aA aH aJ aU aV:Addr) (vs:List V) (H:Hp) (Q:VK) (E:XK):Prop
 |mk (l:List Nat) (lo hi:Int) (wk:Bool) (_:vs=[.str (Tx l),.int lo,.int hi,.ref (if wk=true then aV else aU)]) (_:(0<=lo/\lo<=hi/\hi<=1000)) (_:gY wk lo hi l) (_:∀(p m:Addr) (qs:List Addr) (H':Hp),H m=none->Same H H'->H' p=some (.tup [.int (gM (hG lo hi (eY 44 l))),.ref m])->H' m=some (.lst (qs.map V.ref))->Ft (MkAt (⟨aB,aE,aF,aI,aD,aA,aH,aJ⟩:Cs) H') qs (iq wk lo hi (eY 44 l))->Q (.ref p) H')
inductive RH (K:FG) (aB aE aF aI aD aA aH aJ:Addr) (vs:List V) (H:Hp) (Q:VK) (E:XK):Prop
 |mk (l:List Nat) (_:vs=[.str (Tx l)]) (_:gY false 1 31 l) (_:(l=[42]->∀H',Same H H'->Q .non H')) (_:(l≠[42]->∀(m:Addr) (qs:List Addr) (H':Hp),H m=none->Same H H'->H' m=some (.lst (qs.map V.ref))->Ft (MkAt (⟨aB,aE,aF,aI,aD,aA,aH,aJ⟩:Cs) H') qs (ni false 1 31 l)->Q (.ref m) H'))
inductive O1 (K:FG) (aB aE aF aI aD aA aH aJ:Addr) (vs:List V) (H:Hp) (Q:VK) (E:XK):Prop
 |mk (l:List Nat) (_:vs=[.str (Tx l)]) (_:gY true 0 7 l) (_:(l=[42]->∀H',Same H H'->Q .non H')) (_:(l≠[42]->∀(m:Addr) (qs:List Addr) (H':Hp),H m=none->Same H H'->H' m=some (.lst (qs.map V.ref))->Ft (MkAt (⟨aB,aE,aF,aI,aD,aA,aH,aJ⟩:Cs) H') qs (ni true 0 7 l)->Q (.ref m) H'))
inductive Vk (K:FG) (vs:List V) (H:Hp) (Q:VK) (E:XK):Prop
 |mk (k:Int) (_:vs=[.int k]) (_:(0<=k/\k<=90)) (_:∀(p:Addr) (H':Hp),Same H H'->H' p=some (.tup ((nv k).map V.int))->Q (.ref p) H')
inductive Og (K:FG) (vs:List V) (H:Hp) (Q:VK) (E:XK):Prop
 |mk (h m:Int) (_:vs=[.int h,.int m]) (_:(0<=h/\h<2^24)) (_:(0<=m/\m<2^60)) (_:∀(t:Int) (H':Hp),t=gP h m->Same H H'->Q (.int t) H')
inductive WD (K:FG) (aB aE aF aI aD aA aH aJ:Addr) (vs:List V) (H:Hp) (Q:VK) (E:XK):Prop
 |mk (dv wv:V) (kd kw:Ko) (l f:Int) (_:vs=[dv,wv,.int l,.int f]) (_:DV (⟨aB,aE,aF,aI,aD,aA,aH,aJ⟩:Cs) H dv kd) (_:DV (⟨aB,aE,aF,aI,aD,aA,aH,aJ⟩:Cs) H wv kw) (_:Lf l f) (_:∀H',Same H H'->Q (.int (iB kd kw l f)) H')
inductive Xi (K:FG) (C:Addr) (vs:List V) (H:Hp) (Q:VK) (E:XK):Prop
 |mk (p dx fa:Addr) (m0 m1 m3:Int) (dv wv:V) (_:vs=[.ref p,.ref fa]) (_:H p=some (.ins C dx [])) (_:H fa=some (.lst [.int m0,.int m1,dv,.int m3,wv])) (_:(0<=m0/\m0<2^60)) (_:(0<=m1/\m1<2^24)) (_:∀(tm:Int) (H':Hp),tm=gP m1 m0->H' p=some (.ins C dx (gQ m0 m1 dv m3 wv tm))->(∀b o,H b=some o->b≠p->H' b=some o)->Q .non H')
inductive RI (K:FG) (C:Addr) (aB aE aF aI aD aA aH aJ:Addr) (vs:List V) (H:Hp) (Q:VK) (E:XK):Prop
 |mk (p dx:Addr) (m0 m1 m3 tm k:Int) (dv wv:V) (kd kw:Ko) (_:vs=[.ref p,.int k]) (_:H p=some (.ins C dx (gQ m0 m1 dv m3 wv tm))) (_:(0<=k/\k<=90)) (_:0<=m3) (_:DV (⟨aB,aE,aF,aI,aD,aA,aH,aJ⟩:Cs) H dv kd) (_:DV (⟨aB,aE,aF,aI,aD,aA,aH,aJ⟩:Cs) H wv kw) (_:∀H',Same H H'->Q (.int (if tb m3 (ki k).toNat=true then iB kd kw (gI k) (k%7) else 0)) H')
inductive X2 (K:FG) (aB aE aF aI aD aA aH aJ:Addr) (vs:List V) (H:Hp) (Q:VK) (E:XK):Prop
 |mk (t:List Nat) (pl:Int) (_:vs=[.str (Tx t),.int pl]) (_:((pl=2/\∃ko,DT false t ko/\∀(v:V) (H':Hp),Same H H'->DV (⟨aB,aE,aF,aI,aD,aA,aH,aJ⟩:Cs) H' v (gO false ko)->(∀p,v=.ref p->H p=none)->Q v H')∨(pl=4/\∃ko,DT true t ko/\∀(v:V) (H':Hp),Same H H'->DV (⟨aB,aE,aF,aI,aD,aA,aH,aJ⟩:Cs) H' v (gO true ko)->(∀p,v=.ref p->H p=none)->Q v H')∨(∃lo hi m:Int,(pl=0/\lo=0/\hi=59∨pl=1/\lo=0/\hi=23∨pl=3/\lo=1/\hi=12)/\FT lo hi t m/\∀H',Same H H'->Q (.int m) H')))
inductive OF (K:FG) (aB aE aF aI aD aA aH aJ:Addr) (vs:List V) (H:Hp) (Q:VK) (E:XK):Prop
 |mk (t:List Nat) (pl:Int) (_:vs=[.str (Tx t),.int pl]) (_:((pl=2/\∃ko,DT false t ko/\∀(v:V) (H':Hp),Same H H'->DV (⟨aB,aE,aF,aI,aD,aA,aH,aJ⟩:Cs) H' v (gO false ko)->(∀p,v=.ref p->H p=none)->Q v H')∨(pl=4/\∃ko,DT true t ko/\∀(v:V) (H':Hp),Same H H'->DV (⟨aB,aE,aF,aI,aD,aA,aH,aJ⟩:Cs) H' v (gO true ko)->(∀p,v=.ref p->H p=none)->Q v H')∨(∃lo hi m:Int,(pl=0/\lo=0/\hi=59∨pl=1/\lo=0/\hi=23∨pl=3/\lo=1/\hi=12)/\FT lo hi t m/\∀H',Same H H'->Q (.int m) H')))
inductive Lm (K:FG) (aB aE aF aI aD aA aH aJ aG:Addr) (vs:List V) (H:Hp) (Q:VK) (E:XK):Prop
 |mk (w0 w1 w2 w3 w4:List Nat) (m0 m1 m3:Int) (kd kw:Ko) (_:vs=[.str (Tx (gR 32 [w0,w1,w2,w3,w4]))]) (_:FT 0 59 w0 m0) (_:FT 0 23 w1 m1) (_:FT 1 12 w3 m3) (_:DT false w2 kd) (_:DT true w4 kw) (_:(m0<2^60/\m1<2^24)) (_:∀(x dx:Addr) (dv wv:V) (tm:Int) (H':Hp),tm=gP m1 m0->Same H H'->H' x=some (.ins aG dx (gQ m0 m1 dv m3 wv tm))->DV (⟨aB,aE,aF,aI,aD,aA,aH,aJ⟩:Cs) H' dv (gO false kd)->DV (⟨aB,aE,aF,aI,aD,aA,aH,aJ⟩:Cs) H' wv (gO true kw)->(H x=none/\(∀p,dv=.ref p->H p=none)/\∀p,wv=.ref p->H p=none)->Q (.ref x) H')
inductive NZ (K:FG) (C:Addr) (vs:List V) (H:Hp) (Q:VK) (E:XK):Prop
 |mk (p dx:Addr) (m0 m1 m3 tm:Int) (dv wv:V) (_:vs=[.ref p]) (_:H p=some (.ins C dx (gQ m0 m1 dv m3 wv tm))) (_:Q (.int tm) H)
inductive an2 (K:FG) (C:Addr) (aB aE aF aI aD aA aH aJ:Addr) (vs:List V) (H:Hp) (Q:VK) (E:XK):Prop
 |mk (p dx:Addr) (m0 m1 m3 tm mo:Int) (dv wv:V) (kd kw:Ko) (_:vs=[.ref p,.int mo]) (_:H p=some (.ins C dx (gQ m0 m1 dv m3 wv tm))) (_:(0<=m0/\0<=m1/\0<=m3)) (_:DV (⟨aB,aE,aF,aI,aD,aA,aH,aJ⟩:Cs) H dv kd) (_:DV (⟨aB,aE,aF,aI,aD,aA,aH,aJ⟩:Cs) H wv kw) (_:∀(y m k:Int) (H':Hp),jK y m k->iA y m k=mo / 1440->Same H H'->Q (jC m0 m1 m3 kd kw (mo / 1440) (mo%1440) y m k) H')
inductive OD (K:FG) (C:Addr) (aB aE aF aI aD aA aH aJ:Addr) (vs:List V) (H:Hp) (Q:VK) (E:XK):Prop
 |mk (p dx:Addr) (m0 m1 m3 tm mo:Int) (dv wv:V) (kd kw:Ko) (_:vs=[.ref p,.int mo]) (_:H p=some (.ins C dx (gQ m0 m1 dv m3 wv tm))) (_:(0<=m0/\0<=m1/\0<=m3)) (_:DV (⟨aB,aE,aF,aI,aD,aA,aH,aJ⟩:Cs) H dv kd) (_:DV (⟨aB,aE,aF,aI,aD,aA,aH,aJ⟩:Cs) H wv kw) (_:∀(y m k:Int) (H':Hp),jK y m k->iA y m k=mo / 1440->Same H H'->Q (.bl (decide (jC m0 m1 m3 kd kw (mo / 1440) (mo%1440) y m k=.non))) H')
inductive RK (K:FG) (vs:List V) (H:Hp) (Q:VK) (E:XK):Prop
 |mk (N:Int) (_:vs=[.int (N / 12),.int (N%12+1)]) (_:∀(t:Addr) (H':Hp),Same H H'->H' t=some (.tup [.int ((N+1) / 12),.int ((N+1)%12+1)])->Q (.ref t) H')
inductive auL (K:FG) (vs:List V) (H:Hp) (Q:VK) (E:XK):Prop
 |mk (mo:Int) (_:vs=[.int mo]) (_:∀(N:Int) (t:Addr) (H':Hp),Same H H'->1440*ky N<=mo->mo<1440*ky (N+1)->H' t=some (.tup [.int (N / 12),.int (N%12+1)])->Q (.ref t) H')
inductive OJ (K:FG) (vs:List V) (H:Hp) (Q:VK) (E:XK):Prop
 |mk (d:Addr) (ts:List Int) (_:vs=[.ref d]) (_:SqL K H d (ts.map V.int)) (_:ts.length<=31) (_:(∀t∈ts,gH t)) (_:∀H',Same H H'->Q (.int (lV (λj=>ts.getD j 0) ts.length)) H')
inductive Ob (K:FG) (vs:List V) (H:Hp) (Q:VK) (E:XK):Prop
 |mk (m:Int) (k:Nat) (_:vs=[.int m]) (_:0<m) (_:tb m k=true) (_:(∀j,j<k->tb m j=false)) (_:Q (.int k) H)
inductive Qc (K:FG) (aB aE aF aI aD aA aH aJ aG:Addr) (vs:List V) (H:Hp) (Q:VK) (E:XK):Prop
 |mk (p dx:Addr) (m0 m1 m3 tm d:Int) (dv wv:V) (kd kw:Ko) (_:vs=[.ref p,.int d]) (_:H p=some (.ins aG dx (gQ m0 m1 dv m3 wv tm))) (_:(0<=m0/\0<=m1/\0<=m3)) (_:DV (⟨aB,aE,aF,aI,aD,aA,aH,aJ⟩:Cs) H dv kd) (_:DV (⟨aB,aE,aF,aI,aD,aA,aH,aJ⟩:Cs) H wv kw) (_:(∀y m k:Int,jK y m k->iA y m k=d->tb m3 m.toNat=true->tb (iB kd kw (fH y m) ((d-k+1+6)%7)) k.toNat=false)) (_:∀(r:Int) (H':Hp),d<=r->Same H H'->Q (.int r) H')
inductive Xh (K:FG) (aB aE aF aI aD aA aH aJ aG:Addr) (vs:List V) (H:Hp) (Q:VK) (E:XK):Prop
 |mk (p dx:Addr) (tw:List Nat) (m0 m1 m3 tm d:Int) (dv wv:V) (kd kw:Ko) (_:vs=[.ref p,.int d,.str (Tx tw)]) (_:H p=some (.ins aG dx (gQ m0 m1 dv m3 wv tm))) (_:(0<=m0/\0<=m1/\0<=m3)) (_:DV (⟨aB,aE,aF,aI,aD,aA,aH,aJ⟩:Cs) H dv kd) (_:DV (⟨aB,aE,aF,aI,aD,aA,aH,aJ⟩:Cs) H wv kw) (_:(tw≠[109,105,110,117,116,101]->tw≠[104,111,117,114]->∀y m k:Int,jK y m k->iA y m k=d / 1440->tb m3 m.toNat=true->tb (iB kd kw (fH y m) ((d / 1440-k+1+6)%7)) k.toNat=false)) (_:∀(r:Int) (H':Hp),d<=r->(tw≠[109,105,110,117,116,101]->(r+1)%60=0)->Same H H'->Q (.int r) H')
inductive YE (K:FG) (vs:List V) (H:Hp) (Q:VK) (E:XK):Prop
 |mk (p:Addr) (vs':List V) (sts:List jQ) (a b:Int) (tm:List Nat) (_:vs=[.ref p,.int a,.int b,.str (Tx tm)]) (_:H p=some (.lst vs')) (_:Paired (oy H) vs' sts) (_:vs'.length<=10000000) (_:∀H' us,H' p=some (.lst us)->Paired (oy H') us (lJ sts a b tm)->(∀q o,q≠p->H q=some o->H' q=some o)->Q .non H')
inductive auU (K:FG) (aB aE aF aI aD aA aH aJ aG:Addr) (vs:List V) (H:Hp) (Q:VK) (E:XK):Prop
 |mk (p:Addr) (b e m0 m1 m3:Int) (kd kw:Ko) (_:vs=[.ref p,.int b,.int e]) (_:RowR (⟨aB,aE,aF,aI,aD,aA,aH,aJ⟩:Cs) aG H p m0 m1 m3 kd kw) (_:(∀t,b<=t->t<=e->¬pP (iG (gP m1 m0) m3 kd kw) t)) (_:e-b<=23000000) (_:∀l H',Same H H'->Q (.ref l) H')
inductive GT (K:FG) (C:Addr) (aB aE aF aI aD aA aH aJ:Addr) (vs:List V) (H:Hp) (Q:VK) (E:XK):Prop
 |mk (p dx:Addr) (m0 m1 m3 tm k:Int) (dv wv:V) (kd kw:Ko) (_:vs=[.ref p,.int k]) (_:H p=some (.ins C dx (gQ m0 m1 dv m3 wv tm))) (_:(0<=k/\k<=90)) (_:0<=m3) (_:DV (⟨aB,aE,aF,aI,aD,aA,aH,aJ⟩:Cs) H dv kd) (_:DV (⟨aB,aE,aF,aI,aD,aA,aH,aJ⟩:Cs) H wv kw) (_:∀D H',H D=none->Same H H'->H' D=some (.lst ((fX (iG tm m3 kd kw) k).map V.int))->Q (.ref D) H')
inductive Ta (P:Program) (w:World) (mg:Str->Option Value) (base:Heap) (K:FG) (vs:List V) (H:Hp) (Q:VK) (E:XK):Prop
 |mk (kn f:Addr) (kd:Int) (kvs:List (fG×V)) (g:Int->Nat->Int) (H0:Hp) (_:vs=[.ref kn,.ref f,.int kd]) (_:(0<=kd/\kd<=90)) (_:H kn=some (.dK kvs)) (_:oE g kvs) (_:kvs.length<=1000) (_:gy g) (_:H0 kn=none) (_:Same H0 H) (_:wQ P w K mg base 8 H0 f g) (_:∀kvs' H',H' kn=some (.dK kvs')->oE g kvs'->kvs'.length<=kvs.length+1->(∀b o,b≠kn->H b=some o->H' b=some o)->Q (.int (wK g kd)) H')
inductive Nk (P:Program) (w:World) (mg:Str->Option Value) (base:Heap) (K:FG) (vs:List V) (H:Hp) (Q:VK) (E:XK):Prop
 |mk (f:Addr) (mo:Int) (g:Int->Nat->Int) (_:vs=[.ref f,.int mo]) (_:gy g) (_:wQ P w K mg base 8 H f g) (_:(∀e H',Same H H'->pP g e->mo<=e->(∀t,mo<=t->t<e->¬pP g t)->e-mo<=22000000->Q (.int e) H')) (_:(∀H',Same H H'->Q .non H'))
inductive arZ (K:FG) (aB aE aF aI aD aA aH aJ aG aR aS:Addr) (vs:List V) (H:Hp) (Q:VK) (E:XK):Prop
 |mk (p:Addr) (mo m0 m1 m3:Int) (kd kw:Ko) (_:vs=[.ref p,.int mo]) (_:RowR (⟨aB,aE,aF,aI,aD,aA,aH,aJ⟩:Cs) aG H p m0 m1 m3 kd kw) (_:lU H aR aS) (_:∀t l H' (v:V),SameN H H'->lU H' aR aS->H' t=some (.tup [v,.ref l])->((∃e,v=.int e)∨v=.non)->Q (.ref t) H')
def S2(K:FG)(aB aE aF aI aD aA aH aJ aG aL aQ aM aO aK aP:Addr):Sp:=λvs H Q _=>JU K (⟨(⟨aB,aE,aF,aI,aD,aA,aH,aJ⟩:Cs),aG,eQ aL aQ aM aO aK aP⟩:Bc) vs H Q E0
def al7(K:FG)(aB aE aF aI aD aA aH aJ aG aL aQ aM aO aK aP:Addr):Sp:=λvs H Q _=>JU K (⟨(⟨aB,aE,aF,aI,aD,aA,aH,aJ⟩:Cs),aG,eQ aL aQ aM aO aK aP⟩:Bc) vs H Q E0
def Nm(K:FG)(C:Addr)(aB aE aF aI aD aA aH aJ aG aL aQ aM aO aK aP:Addr):Sp:=λvs H Q _=>FR (⟨(⟨aB,aE,aF,aI,aD,aA,aH,aJ⟩:Cs),aG,eQ aL aQ aM aO aK aP⟩:Bc) vs H Q E0
def Qa(K:FG)(C:Addr)(aB aE aF aI aD aA aH aJ aG aL aQ aM aO aK aP:Addr):Sp:=λvs H Q _=>wM K (⟨(⟨aB,aE,aF,aI,aD,aA,aH,aJ⟩:Cs),aG,eQ aL aQ aM aO aK aP⟩:Bc) .J vs H Q E0
def LO(K:FG)(C:Addr)(aB aE aF aI aD aA aH aJ aG aL aQ aM aO aK aP:Addr):Sp:=λvs H Q _=>wM K (⟨(⟨aB,aE,aF,aI,aD,aA,aH,aJ⟩:Cs),aG,eQ aL aQ aM aO aK aP⟩:Bc) .M vs H Q E0
def YC(K:FG)(C:Addr)(aB aE aF aI aD aA aH aJ aG aL aQ aM aO aK aP:Addr):Sp:=λvs H Q _=>Gr (⟨(⟨aB,aE,aF,aI,aD,aA,aH,aJ⟩:Cs),aG,eQ aL aQ aM aO aK aP⟩:Bc) vs H Q E0
def ah2(K:FG)(C:Addr)(aB aE aF aI aD aA aH aJ aG aL aQ aM aO aK aP:Addr):Sp:=λvs H Q _=>Fb (⟨(⟨aB,aE,aF,aI,aD,aA,aH,aJ⟩:Cs),aG,eQ aL aQ aM aO aK aP⟩:Bc) vs H Q E0
inductive W9 (K:FG) (vs:List V) (H:Hp) (Q:VK) (E:XK):Prop
 |mk (i k:Int) (_:vs=[.int i,.int k]) (_:(0<=k/\k<=90)) (_:∀D H',H D=none->Same H H'->H' D=some (.lst ((fX (λ_ _=>i) k).map V.int))->Q (.ref D) H')
inductive Vx (K:FG) (vs:List V) (H:Hp) (Q:VK) (E:XK):Prop
 |mk  (_:vs=[]) (_:Q (.int allT) H)
inductive aEI (K:FG) (C:Addr) (aB aE aF aI aD aA aH aJ aG aL aQ aM aO aK aP:Addr) (vs:List V) (H:Hp) (Q:VK) (E:XK):Prop
 |mk  (_:True)
inductive aG4 (K:FG) (C:Addr) (aB aE aF aI aD aA aH aJ aG aL aQ aM aO aK aP:Addr) (vs:List V) (H:Hp) (Q:VK) (E:XK):Prop
 |mk  (_:True)
inductive aBF (K:FG) (C:Addr) (aB aE aF aI aD aA aH aJ aG aL aQ aM aO aK aP:Addr) (vs:List V) (H:Hp) (Q:VK) (E:XK):Prop
 |mk  (_:True)
inductive aGD (K:FG) (C:Addr) (aB aE aF aI aD aA aH aJ aG aL aQ aM aO aK aP:Addr) (vs:List V) (H:Hp) (Q:VK) (E:XK):Prop
 |mk  (_:True)
inductive aEJ (K:FG) (C:Addr) (aB aE aF aI aD aA aH aJ aG aL aQ aM aO aK aP:Addr) (vs:List V) (H:Hp) (Q:VK) (E:XK):Prop
 |mk  (_:True)
inductive aBE (K:FG) (C:Addr) (aB aE aF aI aD aA aH aJ aG aL aQ aM aO aK aP:Addr) (vs:List V) (H:Hp) (Q:VK) (E:XK):Prop
 |mk  (_:True)
inductive ZA (K:FG) (vs:List V) (H:Hp) (Q:VK) (E:XK):Prop
 |mk (a:Addr) (k:Int) (_:vs=[.ref a,.int k]) (_:(∃ns:List Int,SqL K H a (ns.map V.int))) (_:(0<=k/\k<1000)) (_:∀c:Int,Q (.int c) H)
inductive ZM (K:FG) (vs:List V) (H:Hp) (Q:VK) (E:XK):Prop
 |mk (n:Int) (_:vs=[.int n]) (_:∀r:Int,0<=r->r<2147483629->Q (.int r) H)
inductive anD (K:FG) (vs:List V) (H:Hp) (Q:VK) (E:XK):Prop
 |mk (c:Int) (a:Addr) (b:Bool) (ss:List Int) (_:vs=[.int c,.ref a,.bl b]) (_:SqL K H a (ss.map V.int)) (_:(∀z∈ss,0<z/\z<1073741824)) (_:ss.length<=63) (_:∀(ds:List Int) (p:Addr) (H':Hp),Same H H'->H' p=some (.lst (ds.map V.int))->Digs ds ss->Q (.ref p) H')
inductive aqE (K:FG) (vs:List V) (H:Hp) (Q:VK) (E:XK):Prop
 |mk (i:Int) (_:vs=[.int i]) (_:Q (.bl true) H)
inductive Nx (K:FG) (vs:List V) (H:Hp) (Q:VK) (E:XK):Prop
 |mk (p:Addr) (d0 d1 d2 d3 lo hi:Int) (_:vs=[.ref p,.int lo,.int hi]) (_:H p=some (.lst [.int d0,.int d1,.int d2,.int d3])) (_:(0<=d0/\d0<7)) (_:(0<=d3/\d3<9)) (_:(0<=lo/\lo<=hi/\hi<=59)) (_:∀(t:List Nat) (m:Int) (H':Hp),Same H H'->FT lo hi t m->m<2^(hi.toNat+1)->Q (.str (Tx t)) H')
inductive O8 (K:FG) (aB aE aF aI aD aA aH aJ aG:Addr) (vs:List V) (H:Hp) (Q:VK) (E:XK):Prop
 |mk (c:Int) (bm:Bool) (_:vs=[.int c,.bl bm]) (_:∀(x:Addr) (m0 m1 m3:Int) (kd kw:Ko) (H':Hp),Same H H'->RowA (λp=>H p=none) (⟨aB,aE,aF,aI,aD,aA,aH,aJ⟩:Cs) aG H' x m0 m1 m3 kd kw->Q (.ref x) H')
inductive OT (K:FG) (vs:List V) (H:Hp) (Q:VK) (E:XK):Prop
 |mk (wd:List Nat) (a b:Int) (_:vs=[.str (Tx wd),.int a,.int b]) (_:(wd=[106,111,105,110]∨wd=[109,101,101,116]∨wd=[108,101,115,115])) (_:gH a) (_:gH b) (_:Q (.int (kH wd a b)) H)
inductive anY (K:FG) (vs:List V) (H:Hp) (Q:VK) (E:XK):Prop
 |mk (c:Int) (bm:Bool) (_:vs=[.int c,.bl bm]) (_:∀(mo:Int) (H':Hp),Same H H'->Q (.int mo) H')
inductive atR (K:FG) (aB aE aF aI aD aA aH aJ aG aL aQ aM aO aK aP aR aS:Addr) (vs:List V) (H:Hp) (Q:VK) (E:XK):Prop
 |mk (A:Addr->Prop) (t:V) (b:Bt) (c:Int) (bm:Bool) (_:vs=[t,.int c,.bl bm]) (_:Tr A (⟨(⟨aB,aE,aF,aI,aD,aA,aH,aJ⟩:Cs),aG,eQ aL aQ aM aO aK aP⟩:Bc) 3 H t b) (_:lU H aR aS) (_:∀(r:Int) (H':Hp),SameN H H'->lU H' aR aS->Q (.int r) H')
inductive Sx (K:FG) (aB aE aF aI aD aA aH aJ aG aL aQ aM aO aK aP:Addr) (vs:List V) (H:Hp) (Q:VK) (E:XK):Prop
 |mk (A Aq:Addr->Prop) (v t:V) (b:Bt) (k:Int) (_:vs=[v,t,.int k]) (_:Bk A (⟨(⟨aB,aE,aF,aI,aD,aA,aH,aJ⟩:Cs),aG,eQ aL aQ aM aO aK aP⟩:Bc) 3 H v b) (_:Tr Aq (⟨(⟨aB,aE,aF,aI,aD,aA,aH,aJ⟩:Cs),aG,eQ aL aQ aM aO aK aP⟩:Bc) 3 H t b) (_:(0<=k/\k<=90)) (_:∀H',Same H H'->Q (.bl true) H')
inductive SW (K:FG) (aB aE aF aI aD aA aH aJ aG aL aQ aM aO aK aP:Addr) (vs:List V) (H:Hp) (Q:VK) (E:XK):Prop
 |mk (A:Addr->Prop) (v:V) (b:Bt) (mo:Int) (_:vs=[v,.int mo]) (_:Bk A (⟨(⟨aB,aE,aF,aI,aD,aA,aH,aJ⟩:Cs),aG,eQ aL aQ aM aO aK aP⟩:Bc) 3 H v b) (_:∀H',Same H H'->Q (.bl true) H')
inductive apR (K:FG) (aB aE aF aI aD aA aH aJ aG aL aQ aM aO aK aP:Addr) (vs:List V) (H:Hp) (Q:VK) (E:XK):Prop
 |mk (a:Addr) (k:Int) (bm:Bool) (ns:List Int) (_:vs=[.ref a,.int k,.bl bm]) (_:SqL K H a (ns.map V.int)) (_:(0<=k/\k<=90)) (_:∀H',Same H H'->Q (.bl true) H')
inductive qe (K:FG) (aR aS:Addr) (vs:List V) (H:Hp) (Q:VK) (E:XK):Prop
 |mk (a:Addr) (ns:List Int) (_:vs=[.ref a]) (_:SqL K H a (ns.map V.int)) (_:ns.length<=63) (_:lU H aR aS) (_:∀H',Q (.bl true) H')
theorem md_Last___init__{K:FG}{C f T:Addr}{od an tod:Option Addr}{sl tsl:Array (Option Value)}{oc kV dc pm cd ct:Value}{tn:Nat}{t0:Tok}(a:PySem.W.findIn K (.ref C) "__init__"=some (some (.ref f)))(i:PySem.W.isFn K (.ref f)=true)(l:K.lookup f=some ⟨oc,od,.func (PySem.W.fnOf "__init__" "Last.__init__" (jg nS) (iy nS) (eP nS) (.ref T) kV dc pm an cd ct),sl⟩)(c:PySem.W.codeIn K cd "Last.__init__"=true)(k:PySem.W.keepIn K (.ref f)=true)(lt:K.lookup T=some ⟨.type "tuple",tod,.seq #[.int 0 t0] tn,tsl⟩):FnMD K C "__init__" "Last.__init__" nS ["self","back"] [.int 0]:=
 Yx (ds:=[.int 0 t0]) a i l c k (λs us X hl=>match us,(show us.length=2 by simpa using hl) with | [_,_],_=>PySem.W.binds_K X rfl lt rfl rfl rfl) (.cons ⟨()⟩ .nil) (λs us X hl=>match us,(show us.length=1 by simpa using hl) with | [_],_=>PySem.W.binds_K X rfl lt rfl rfl rfl)
theorem q_MONTH_LASTS{K:FG}{a:Addr}{od:Option Addr}{sl:Array (Option Value)}{n:Nat}{t0 t1 t2 t3 t4 t5 t6 t7 t8 t9 t10 t11:Tok}(l:K.lookup a=some ⟨.type "tuple",od,.seq #[.int 31 t0,.int 28 t1,.int 31 t2,.int 30 t3,.int 31 t4,.int 30 t5,.int 31 t6,.int 31 t7,.int 30 t8,.int 31 t9,.int 30 t10,.int 31 t11] n,sl⟩):∀H,SqT K H a (([31,28,31,30,31,30,31,31,30,31,30,31]:List Int).map V.int):=λH=>.inr ⟨_,_,_,l,rfl,rfl,(zL 12),(.cons ⟨()⟩ (.cons ⟨()⟩ (.cons ⟨()⟩ (.cons ⟨()⟩ (.cons ⟨()⟩ (.cons ⟨()⟩ (.cons ⟨()⟩ (.cons ⟨()⟩ (.cons ⟨()⟩ (.cons ⟨()⟩ (.cons ⟨()⟩ (.cons ⟨()⟩ .nil))))))))))))⟩
theorem q_BOUNDS{K:FG}{a b0 b1 b3:Addr}{ep:Nat}{t0 t1 t3:Tok}(l:K.lookup a=some ⟨.type "dict",none,.dict #[⟨0,.int 0 t0,.ref b0⟩,⟨1,.int 1 t1,.ref b1⟩,⟨3,.int 3 t3,.ref b3⟩] ep,#[]⟩):KD K a [(0,.ref b0),(1,.ref b1),(3,.ref b3)]:=by
 refine⟨_,ep,[(.inl 0,.ref b0),(.inl 1,.ref b1),(.inl 3,.ref b3)],l,(.cons ⟨rfl,rfl⟩ (.cons ⟨rfl,rfl⟩ (.cons ⟨rfl,rfl⟩ .nil))),(show ([.inl 0,.inl 1,.inl 3]:List fG).Nodup by decide),λP w=>⟨?_,(.cons rfl rfl (.cons rfl rfl (.cons rfl rfl .nil)))⟩⟩;intro e he;simp only[Array.mem_toArray,a9,cA,or_false] at he;rcases he with rfl | rfl | rfl
 ·exact⟨.inl 0,rfl,rfl⟩
 ·exact⟨.inl 1,rfl,rfl⟩
 ·exact⟨.inl 3,rfl,rfl⟩
theorem q_BOUNDS_0{K:FG}{a:Addr}{od:Option Addr}{sl:Array (Option Value)}{n:Nat}{t0 t1:Tok}(l:K.lookup a=some ⟨.type "tuple",od,.seq #[.int 0 t0,.int 59 t1] n,sl⟩):∀H,SqT K H a (([0,59]:List Int).map V.int):=λH=>.inr ⟨_,_,_,l,rfl,rfl,(zL 2),(.cons ⟨()⟩ (.cons ⟨()⟩ .nil))⟩
theorem q_BOUNDS_1{K:FG}{a:Addr}{od:Option Addr}{sl:Array (Option Value)}{n:Nat}{t0 t1:Tok}(l:K.lookup a=some ⟨.type "tuple",od,.seq #[.int 0 t0,.int 23 t1] n,sl⟩):∀H,SqT K H a (([0,23]:List Int).map V.int):=λH=>.inr ⟨_,_,_,l,rfl,rfl,(zL 2),(.cons ⟨()⟩ (.cons ⟨()⟩ .nil))⟩
theorem q_BOUNDS_3{K:FG}{a:Addr}{od:Option Addr}{sl:Array (Option Value)}{n:Nat}{t0 t1:Tok}(l:K.lookup a=some ⟨.type "tuple",od,.seq #[.int 1 t0,.int 12 t1] n,sl⟩):∀H,SqT K H a (([1,12]:List Int).map V.int):=λH=>.inr ⟨_,_,_,l,rfl,rfl,(zL 2),(.cons ⟨()⟩ (.cons ⟨()⟩ .nil))⟩
theorem mg_tx{K:FG}{h:Heap}{mg:Str->Option Value}{x n:Str}{l:List Nat}{t:Tok}(X:K.In h)(G:h.Ns mainGlobals mg)(e:x=Tx l)(a:PySem.W.nsIn K mainGlobals n=some (some (.str x t))):mg n=some (.str (Tx l) t):=e▸PySem.W.mg_of X G a
theorem Nq:dZ ["year"] ["year"] (eP (top 13)):=eT
theorem Yn:dZ ["year","step"] ["year","step"] (eP (top 14)):=eT
theorem Uo:dZ ["year","longs"] ["year"] (eP (top 15)):=eT
theorem axM:dZ ["year","month"] ["year","month"] (eP (top 16)):=eT
theorem WW:dZ ["thing"] ["thing"] (eP (top 8)):=eT
theorem YG:dZ ["year","month","day"] ["year","month","day"] (eP (top 17)):=eT
theorem Um:dZ ["year","month","day","ahead"] ["year","month","day"] (eP (top 18)):=eT
theorem UQ:dZ ["day","year"] ["day"] (eP (top 19)):=eT
theorem Ul:dZ ["day","year","month","rest"] ["day"] (eP (top 20)):=eT
theorem Sz:dZ ["day"] ["day"] (eP (top 21)):=eT
theorem Ur:dZ ["year","month","day","place"] ["year","month","day"] (eP (top 34)):=eT
theorem Xf:dZ ["year","month"] ["year","month"] (eP (top 35)):=eT
theorem UB:dZ ["moment","time"] ["moment"] (eP (top 29)):=eT
theorem Qq:dZ ["text"] ["text"] (eP (top 24)):=eT
theorem P7:dZ ["text"] ["text"] (eP (top 25)):=eT
theorem Wi:dZ ["mask","number"] ["mask","number"] (eP (top 39)):=eT
theorem Uu:dZ ["numbers","mask","number"] ["numbers"] (eP (top 50)):=eT
theorem Rz:dZ ["mask"] ["mask"] (eP (top 51)):=eT
theorem auW:dZ ["first","last","stride"] ["first","last","stride"] (eP (top 52)):=eT
theorem UH:dZ ["text","low","high","number"] ["text","low","high"] (eP (top 53)):=eT
theorem UJ:dZ ["text","low","high","ends"] ["text","low","high"] (eP (top 54)):=eT
theorem UK:dZ ["run_text","stride_text","low","high","run","stride","last"] ["run_text","stride_text","low","high"] (eP (top 55)):=eT
theorem UF:dZ ["item","low","high","parts","run"] ["item","low","high"] (eP (top 56)):=eT
theorem UE:dZ ["text","low","high","items","mask","place","item","told"] ["text","low","high"] (eP (top 57)):=eT
theorem Vi:dZ ["day","first"] ["day","first"] (eP (top 67)):=eT
theorem PK:dZ ["last"] ["last"] (eP (top 68)):=eT
theorem Uy:dZ ["day","last","first","of_week"] ["day","last","first"] (eP (top 69)):=eT
theorem L1:dZ ["weekday","first"] ["weekday","first"] (eP (top 70)):=eT
theorem at9:dZ ["self","last","first"] ["self","last","first"] (eP FN):=eT
theorem VB:dZ ["self","mask"] ["self","mask"] (eP Gk):=eT
theorem UT:dZ ["self","last","first"] ["self","last","first"] (eP GZ):=eT
theorem Xe:dZ ["self","back"] ["self","back"] (eP nS):=eT
theorem arP:dZ ["self","last","first"] ["self","last","first"] (eP Ir):=eT
theorem Sn:dZ ["self","day"] ["self","day"] (eP HQ):=eT
theorem WL:dZ ["self","last","first"] ["self","last","first"] (eP Hx):=eT
theorem NX:dZ ["self","last","first"] ["self","last","first"] (eP GU):=eT
theorem MT:dZ ["self","mask"] ["self","mask"] (eP EI):=eT
theorem U6:dZ ["self","last","first","weeks","week"] ["self","last","first"] (eP IK):=eT
theorem Ld:dZ ["self","weekday","many"] ["self","weekday","many"] (eP K2):=eT
theorem U2:dZ ["self","last","first","day"] ["self","last","first"] (eP HW):=eT
theorem Yw:dZ ["self","weekday"] ["self","weekday"] (eP G9):=eT
theorem amQ:dZ ["self","last","first"] ["self","last","first"] (eP Gx):=eT
theorem Uk:dZ ["marks","last","first","mask","mark"] ["marks","last","first"] (eP (top 79)):=eT
theorem UC:dZ ["item","back","day"] ["item"] (eP (top 80)):=eT
theorem UL:dZ ["text","number"] ["text"] (eP (top 81)):=eT
theorem UM:dZ ["item","weekday","parts","many"] ["item"] (eP (top 82)):=eT
theorem UG:dZ ["text","low","high","read_mark","items","mask","marks","place","item","plain","mark"] ["text","low","high","read_mark"] (eP (top 83)):=eT
theorem UD:dZ ["text","read"] ["text"] (eP (top 84)):=eT
theorem UN:dZ ["text","read","mask"] ["text"] (eP (top 85)):=eT
theorem Uw:dZ ["kind","place","first"] ["kind"] (eP (top 36)):=eT
theorem UP:dZ ["hours","minutes","times","hour"] ["hours","minutes"] (eP (top 95)):=eT
theorem Up:dZ ["days","weekdays","last","first","mask","marks"] ["days","weekdays","last","first"] (eP (top 96)):=eT
theorem V3:dZ ["self","fields"] ["self","fields"] (eP KE):=eT
theorem U3:dZ ["self","kind","month"] ["self","kind"] (eP Fw):=eT
theorem UO:dZ ["word","place","bounds"] ["word","place"] (eP (top 98)):=eT
theorem Q0:dZ ["word","place"] ["word","place"] (eP (top 99)):=eT
theorem UI:dZ ["text","words"] ["text"] (eP (top 100)):=eT
theorem ar3:dZ ["self"] ["self"] (eP Ik):=eT
theorem U5:dZ ["self","moment","parts","date"] ["self","moment"] (eP Ki):=eT
theorem Pw:dZ ["self","moment"] ["self","moment"] (eP GQ):=eT
theorem ap3:dZ ["year","month"] ["year","month"] (eP (top 37)):=eT
theorem Ux:dZ ["moment","date"] ["moment"] (eP (top 126)):=eT
theorem Uv:dZ ["days","minutes","place","times"] ["days"] (eP (top 124)):=eT
theorem R7:dZ ["mask"] ["mask"] (eP (top 40)):=eT
theorem Us:dZ ["row","day","date","kind","later"] ["row","day"] (eP (top 119)):=eT
theorem NN:dZ ["row","moment","word"] ["row","moment","word"] (eP (top 120)):=eT
theorem Pj:dZ ["stretches","first","last","told"] ["stretches","first","last","told"] (eP (top 118)):=eT
theorem UA:dZ ["row","begin","end","stretches","moment","word","last"] ["row","begin","end"] (eP (top 121)):=eT
theorem U4:dZ ["self","kind","days","last"] ["self","kind"] (eP HU):=eT
theorem Tp:dZ ["known","on_days","kind"] ["known","on_days","kind"] (eP (top 125)):=eT
theorem Uq:dZ ["on_days","moment","month","known","turn","start","passed","rest"] ["on_days","moment"] (eP (top 127)):=eT
theorem Uz:dZ ["row","moment","found"] ["row","moment"] (eP (top 128)):=eT
theorem Fv:dZ ["self"] ["self"] (eP Hk):=eT
theorem KG:dZ ["self"] ["self"] (eP F5):=eT
theorem JA:dZ ["self"] ["self"] (eP GX):=eT
theorem JF:dZ ["self"] ["self"] (eP Ip):=eT
theorem Jw:dZ ["self"] ["self"] (eP Ee):=eT
theorem Jh:dZ ["self"] ["self"] (eP FK):=eT
theorem TZ:dZ ["books"] ["books"] (eP (top 107)):=eT
theorem FZ:dZ ["self"] ["self"] (eP JO):=eT
theorem E2:dZ ["self"] ["self"] (eP II):=eT
theorem Hi:dZ ["self"] ["self"] (eP Kv):=eT
theorem FV:dZ ["self"] ["self"] (eP Gf):=eT
theorem HN:dZ ["self"] ["self"] (eP EY):=eT
theorem EU:dZ ["self"] ["self"] (eP Jr):=eT
theorem Xy:dZ ["books"] ["books"] (eP (top 108)):=eT
theorem YZ:dZ ["books"] ["books"] (eP (top 110)):=eT
theorem M7:dZ ["books"] ["books"] (eP (top 111)):=eT
theorem WY:dZ ["self","row"] ["self","row"] (eP Eo):=eT
theorem ahO:dZ ["self","books"] ["self","books"] (eP FL):=eT
theorem Zk:dZ ["self","books"] ["self","books"] (eP Hj):=eT
theorem ajT:dZ ["self","one","other"] ["self","one","other"] (eP IW):=eT
theorem ah1:dZ ["self","one"] ["self","one"] (eP KO):=eT
theorem OZ:dZ ["times","kind"] ["times","kind"] (eP (top 105)):=eT
theorem WQ:dZ [] [] (eP (top 106)):=eT
theorem F3:dZ ["self","kind"] ["self","kind"] (eP JY):=eT
theorem Hg:dZ ["self","kind"] ["self","kind"] (eP GR):=eT
theorem U0:dZ ["self","kind","days","book"] ["self","kind"] (eP J2):=eT
theorem U1:dZ ["self","kind","days","book"] ["self","kind"] (eP GF):=eT
theorem Jp:dZ ["self","kind"] ["self","kind"] (eP Ig):=eT
theorem HP:dZ ["self","kind"] ["self","kind"] (eP Gi):=eT
theorem JL:dZ ["self","moment"] ["self","moment"] (eP Ej):=eT
theorem K5:dZ ["self","moment"] ["self","moment"] (eP E9):=eT
theorem G4:dZ ["self","moment"] ["self","moment"] (eP Kq):=eT
theorem ER:dZ ["self","moment"] ["self","moment"] (eP Kh):=eT
theorem HI:dZ ["self","moment"] ["self","moment"] (eP Ks):=eT
theorem Gu:dZ ["self","moment"] ["self","moment"] (eP Fm):=eT
theorem amF:dZ ["_law_script","_law_k"] ["_law_script","_law_k"] (eP (top 130)):=eT
theorem Uh:dZ ["_law_number","_law_first","_law_second"] ["_law_number"] (eP (top 131)):=eT
theorem U8:dZ ["_law_cell","_law_sizes","_law_mixed","_law_found","_law_size"] ["_law_cell","_law_sizes","_law_mixed"] (eP (top 132)):=eT
theorem SF:dZ ["_law_found"] ["_law_found"] (eP (top 133)):=eT
theorem Ua:dZ ["_law_parts","_law_low","_law_high","_law_one","_law_later","_law_by","_law_some"] ["_law_parts","_law_low","_law_high"] (eP (top 134)):=eT
theorem Uf:dZ ["_law_cell","_law_mixed","_law_parts","_law_one","_law_day","_law_days","_law_weekdays","_law_words"] ["_law_cell","_law_mixed"] (eP (top 135)):=eT
theorem Uj:dZ ["_law_script","_law_n","_law_deep","_law_mixed","_law_parts","_law_row_here","_law_word","_law_many"] ["_law_script","_law_n","_law_deep","_law_mixed"] (eP (top 136)):=eT
theorem Ub:dZ ["_law_tree_here","_law_word","_law_parts","_law_made"] ["_law_tree_here"] (eP (top 137)):=eT
theorem anH:dZ ["_law_word","_law_one","_law_other"] ["_law_word","_law_one","_law_other"] (eP (top 138)):=eT
theorem Uc:dZ ["_law_tree_here","_law_kind","_law_word","_law_parts","_law_last","_law_days","_law_found","_law_part","_law_more"] ["_law_tree_here","_law_kind"] (eP (top 139)):=eT
theorem Ug:dZ ["_law_tree_here","_law_rows_here","_law_part"] ["_law_tree_here"] (eP (top 140)):=eT
theorem Ud:dZ ["_law_cell","_law_mixed","_law_parts","_law_year","_law_on","_law_number"] ["_law_cell","_law_mixed"] (eP (top 141)):=eT
theorem Ue:dZ ["_law_tree_here","_law_cell","_law_mixed","_law_parts","_law_moment_here","_law_rows_here","_law_found"] ["_law_tree_here","_law_cell","_law_mixed"] (eP (top 142)):=eT
theorem Ui:dZ ["_law_book","_law_tree_here","_law_kind","_law_due","_law_found","_law_times"] ["_law_book","_law_tree_here","_law_kind"] (eP (top 143)):=eT
theorem U7:dZ ["_law_book","_law_moment_here","_law_day","_law_year","_law_month","_law_date","_law_times"] ["_law_book","_law_moment_here"] (eP (top 144)):=eT
theorem U9:dZ ["_law_script","_law_kind","_law_mixed","_law_rows_here","_law_books"] ["_law_script","_law_kind","_law_mixed"] (eP (top 145)):=eT
theorem Ut:dZ ["_law_script","_law_mixed","_law_tree_here","_law_book","_law_parts","_law_kinds","_law_kind","_law_k"] ["_law_script"] (eP (top 146)):=eT
structure Fs(K:FG)(mg:Str->Option Value)(aJ aB aE aF aI aD aA aH aG aL aQ aM aO aK aP aV aU aW aR aS a_MONTH_LASTS a_BOUNDS a_BOUNDS_0 a_BOUNDS_1 a_BOUNDS_3:Addr)(t_ROUND_DAYS t_ROUND_YEARS t_LONG_PLACE t_DAY_MINUTES t_HOUR_MINUTES t_FIGURES t_MOST_STRIDE t_MOST_SIGNS t_MOST_ITEMS t_SATURDAY t_SUNDAY t_MOST_BACK t_MOST_DAY t_SUNDAY_TOO t_MOST_NTH t_MOST_MARKS t_ALL_WEEKDAYS t_LONG_LAST t_SHORT_YEAR t_MINUTE t_HOUR t_DAY t_MONTH t_WEEKDAY t_MOST_ROW_SIGNS t_NO_PLACE t_MOST_MONTHS t_MOST_TALLY t_MOST_DEPTH t_MOST_BOOKS:Tok):Prop where
 gf:Cd K mg "Mark" aJ
 gq:PySem.W.findIn K (.ref aJ) "__init__"=some (some (.builtin "object.__init__"))
 a3:Cd K mg "Numbers" aB
 bg:PySem.W.findIn K (.ref aB) "mask"=some none
 a4:Cd K mg "Last" aE
 a7:PySem.W.findIn K (.ref aE) "back"=some none
 ba:Cd K mg "Near" aF
 bb:PySem.W.findIn K (.ref aF) "day"=some none
 cc:Cd K mg "LastWork" aI
 ez:PySem.W.findIn K (.ref aI) "__init__"=some (some (.builtin "object.__init__"))
 a0:Cd K mg "Weekdays" aD
 bc:PySem.W.findIn K (.ref aD) "mask"=some none
 bd:Cd K mg "Nth" aA
 bp:PySem.W.findIn K (.ref aA) "weekday"=some none
 cd:PySem.W.findIn K (.ref aA) "many"=some none
 a5:Cd K mg "LastOne" aH
 a6:PySem.W.findIn K (.ref aH) "weekday"=some none
 aa:Cd K mg "Row" aG
 ar:PySem.W.findIn K (.ref aG) "minute_mask"=some none
 ax:PySem.W.findIn K (.ref aG) "hour_mask"=some none
 be:PySem.W.findIn K (.ref aG) "day_marks"=some none
 au:PySem.W.findIn K (.ref aG) "month_mask"=some none
 a1:PySem.W.findIn K (.ref aG) "weekday_marks"=some none
 ay:PySem.W.findIn K (.ref aG) "time_mask"=some none
 ah:Cd K mg "Book" aL
 dz:PySem.W.findIn K (.ref aL) "__init__"=some (some (.builtin "object.__init__"))
 aq:Cd K mg "Of" aQ
 bs:PySem.W.findIn K (.ref aQ) "row"=some none
 ab:Cd K mg "Joined" aM
 ak:PySem.W.findIn K (.ref aM) "books"=some none
 ag:Cd K mg "Met" aO
 ap:PySem.W.findIn K (.ref aO) "books"=some none
 ad:Cd K mg "Less" aK
 as:PySem.W.findIn K (.ref aK) "one"=some none
 an:PySem.W.findIn K (.ref aK) "other"=some none
 ae:Cd K mg "Turned" aP
 ao:PySem.W.findIn K (.ref aP) "one"=some none
 a2:mg "read_weekday_mark"=some (.ref aV)
 bf:mg "read_day_mark"=some (.ref aU)
 f9:IsC K aL
 gl:IsC K aQ
 fo:IsC K aM
 gg:IsC K aO
 ga:IsC K aK
 fp:IsC K aP
 gb:PySem.W.kitOne K (.ref aL) (.ref aL)=some true
 gm:PySem.W.kitOne K (.ref aQ) (.ref aL)=some true
 fq:PySem.W.kitOne K (.ref aM) (.ref aL)=some true
 gh:PySem.W.kitOne K (.ref aO) (.ref aL)=some true
 gc:PySem.W.kitOne K (.ref aK) (.ref aL)=some true
 fr:PySem.W.kitOne K (.ref aP) (.ref aL)=some true
 gi:IsC K aG
 gj:PySem.W.kitOne K (.ref aG) (.ref aG)=some true
 dj:mg "MONTH_LASTS"=some (.ref a_MONTH_LASTS)
 bq:∀H,SqT K H a_MONTH_LASTS (([31,28,31,30,31,30,31,31,30,31,30,31]:List Int).map V.int)
 bt:mg "ROUND_DAYS"=some (.int 146097 t_ROUND_DAYS)
 dk:mg "ROUND_YEARS"=some (.int 400 t_ROUND_YEARS)
 bu:mg "LONG_PLACE"=some (.int 12 t_LONG_PLACE)
 af:mg "DAY_MINUTES"=some (.int 1440 t_DAY_MINUTES)
 al:mg "HOUR_MINUTES"=some (.int 60 t_HOUR_MINUTES)
 fs:mg "FIGURES"=some (.str (Tx [48,49,50,51,52,53,54,55,56,57]) t_FIGURES)
 dl:mg "MOST_STRIDE"=some (.int 99 t_MOST_STRIDE)
 bv:mg "MOST_SIGNS"=some (.int 300 t_MOST_SIGNS)
 av:mg "MOST_ITEMS"=some (.int 40 t_MOST_ITEMS)
 e0:mg "SATURDAY"=some (.int 6 t_SATURDAY)
 cu:mg "SUNDAY"=some (.int 0 t_SUNDAY)
 ei:mg "MOST_BACK"=some (.int 30 t_MOST_BACK)
 ce:mg "MOST_DAY"=some (.int 31 t_MOST_DAY)
 aw:mg "SUNDAY_TOO"=some (.int 7 t_SUNDAY_TOO)
 e1:mg "MOST_NTH"=some (.int 5 t_MOST_NTH)
 d0:mg "MOST_MARKS"=some (.int 20 t_MOST_MARKS)
 c8:mg "ALL_WEEKDAYS"=some (.int 127 t_ALL_WEEKDAYS)
 ej:mg "LONG_LAST"=some (.int 29 t_LONG_LAST)
 d1:mg "SHORT_YEAR"=some (.int 1 t_SHORT_YEAR)
 f4:mg "MINUTE"=some (.int 0 t_MINUTE)
 gk:mg "HOUR"=some (.int 1 t_HOUR)
 e2:mg "DAY"=some (.int 2 t_DAY)
 gd:mg "MONTH"=some (.int 3 t_MONTH)
 cn:mg "WEEKDAY"=some (.int 4 t_WEEKDAY)
 f5:mg "BOUNDS"=some (.ref a_BOUNDS)
 bw:KD K a_BOUNDS [(0,.ref a_BOUNDS_0),(1,.ref a_BOUNDS_1),(3,.ref a_BOUNDS_3)]
 cf:∀H,SqT K H a_BOUNDS_0 (([0,59]:List Int).map V.int)
 cg:∀H,SqT K H a_BOUNDS_1 (([0,23]:List Int).map V.int)
 ch:∀H,SqT K H a_BOUNDS_3 (([1,12]:List Int).map V.int)
 cv:mg "MOST_ROW_SIGNS"=some (.int 1600 t_MOST_ROW_SIGNS)
 e3:mg "NO_PLACE"=some (.int 5 t_NO_PLACE)
 dm:mg "MOST_MONTHS"=some (.int 492 t_MOST_MONTHS)
 d2:mg "MOST_TALLY"=some (.int 24 t_MOST_TALLY)
 d3:mg "MOST_DEPTH"=some (.int 5 t_MOST_DEPTH)
 d4:mg "MOST_BOOKS"=some (.int 8 t_MOST_BOOKS)
 d5:m6 K mg aW aR aS
 cw:mg "int"=none
 ac:mg "isinstance"=none
 d6:mg "bool"=none
 ai:mg "range"=none
 e4:mg "sum"=none
 cx:mg "all"=none
 co:mg "list"=none
 am:mg "len"=none
 aj:mg "str"=none
 az:mg "enumerate"=none
 gn:mg "min"=none
 e5:mg "max"=none
 ge:mg "tuple"=none
 cy:mg "zip"=none
 go:mg "any"=none
 e6:mg "abs"=none
 ft:Fn K mg "is_long" (top 13) ["year"]
 cp:Fn K mg "multiples_before" (top 14) ["year","step"]
 dn:Fn K mg "days_before" (top 15) ["year"]
 fu:Fn K mg "last_of" (top 16) ["year","month"]
 e7:Fn K mg "is_whole" (top 8) ["thing"]
 fv:Fn K mg "is_date" (top 17) ["year","month","day"]
 f6:Fn K mg "day_of" (top 18) ["year","month","day"]
 fw:Fn K mg "year_of" (top 19) ["day"]
 fx:Fn K mg "date_of" (top 20) ["day"]
 fy:Fn K mg "weekday" (top 21) ["day"]
 ek:Fn K mg "kind_from" (top 34) ["year","month","day"]
 fz:Fn K mg "kind_of" (top 35) ["year","month"]
 f7:Fn K mg "parted" (top 29) ["moment"]
 dp:Fn K mg "all_figures" (top 24) ["text"]
 d7:Fn K mg "is_written" (top 25) ["text"]
 gp:Fn K mg "has" (top 39) ["mask","number"]
 f0:Fn K mg "mask_of" (top 50) ["numbers"]
 d8:Fn K mg "numbers_in" (top 51) ["mask"]
 e8:Fn K mg "run_mask" (top 52) ["first","last","stride"]
 dq:Fn K mg "read_number" (top 53) ["text","low","high"]
 e9:Fn K mg "read_run" (top 54) ["text","low","high"]
 c9:Fn K mg "read_strided" (top 55) ["run_text","stride_text","low","high"]
 el:Fn K mg "read_item" (top 56) ["item","low","high"]
 d9:Fn K mg "read_field" (top 57) ["text","low","high"]
 ea:Fn K mg "weekday_at" (top 67) ["day","first"]
 fa:Fn K mg "all_days" (top 68) ["last"]
 da:Fn K mg "nearest_work" (top 69) ["day","last","first"]
 em:Fn K mg "first_one" (top 70) ["weekday","first"]
 en:FnM K aJ "days" "Mark.days" FN ["self","last","first"]
 cq:FnM K aB "__init__" "Numbers.__init__" Gk ["self","mask"]
 db:FnM K aB "days" "Numbers.days" GZ ["self","last","first"]
 cz:FnMD K aE "__init__" "Last.__init__" nS ["self","back"] [.int 0]
 eo:FnM K aE "days" "Last.days" Ir ["self","last","first"]
 c0:FnM K aF "__init__" "Near.__init__" HQ ["self","day"]
 ep:FnM K aF "days" "Near.days" Hx ["self","last","first"]
 c1:FnM K aI "days" "LastWork.days" GU ["self","last","first"]
 cl:FnM K aD "__init__" "Weekdays.__init__" EI ["self","mask"]
 c2:FnM K aD "days" "Weekdays.days" IK ["self","last","first"]
 dc:FnM K aA "__init__" "Nth.__init__" K2 ["self","weekday","many"]
 fb:FnM K aA "days" "Nth.days" HW ["self","last","first"]
 cr:FnM K aH "__init__" "LastOne.__init__" G9 ["self","weekday"]
 dd:FnM K aH "days" "LastOne.days" Gx ["self","last","first"]
 fc:Fn K mg "any_days" (top 79) ["marks","last","first"]
 c3:Fn K mg "read_day_mark" (top 80) ["item"]
 de:Fn K mg "read_weekday" (top 81) ["text"]
 cm:Fn K mg "read_weekday_mark" (top 82) ["item"]
 eb:Fn K mg "read_items" (top 83) ["text","low","high","read_mark"]
 eq:Fn K mg "read_days" (top 84) ["text"]
 c4:Fn K mg "read_weekdays" (top 85) ["text"]
 fd:Fn K mg "month_at" (top 36) ["kind"]
 fe:Fn K mg "times_of" (top 95) ["hours","minutes"]
 f1:Fn K mg "days_by" (top 96) ["days","weekdays","last","first"]
 df:FnM K aG "__init__" "Row.__init__" KE ["self","fields"]
 dr:FnM K aG "days_in" "Row.days_in" Fw ["self","kind"]
 er:Fn K mg "read_word" (top 98) ["word","place"]
 f2:Fn K mg "read_at" (top 99) ["word","place"]
 ff:Fn K mg "read_row" (top 100) ["text"]
 es:FnM K aG "times" "Row.times" Ik ["self"]
 ds:FnM K aG "shut_by" "Row.shut_by" Ki ["self","moment"]
 et:FnM K aG "holds" "Row.holds" GQ ["self","moment"]
 ec:Fn K mg "next_month" (top 37) ["year","month"]
 fg:Fn K mg "month_of" (top 126) ["moment"]
 ed:Fn K mg "minutes_on" (top 124) ["days"]
 f8:Fn K mg "lowest" (top 40) ["mask"]
 c5:Fn K mg "last_shut_day" (top 119) ["row","day"]
 fh:Fn K mg "shut_end" (top 120) ["row","moment","word"]
 dt:Fn K mg "add_stretch" (top 118) ["stretches","first","last","told"]
 fi:Fn K mg "paper_of" (top 121) ["row","begin","end"]
 du:FnM K aG "on_days" "Row.on_days" HU ["self","kind"]
 ee:Fn K mg "minutes_by" (top 125) ["known","on_days","kind"]
 fj:Fn K mg "first_at" (top 127) ["on_days","moment"]
 eu:FnC K mg "next_from" (top 128) ["row","moment"] aW
 bx:FnM K aL "tally" "Book.tally" Hk ["self"]
 ci:FnM K aQ "tally" "Book.tally" F5 ["self"]
 bh:FnM K aM "tally" "Joined.tally" GX ["self"]
 b6:FnM K aO "tally" "Met.tally" Ip ["self"]
 bz:FnM K aK "tally" "Less.tally" Ee ["self"]
 bi:FnM K aP "tally" "Turned.tally" FK ["self"]
 fk:Fn K mg "tally_of" (top 107) ["books"]
 b0:FnM K aL "depth" "Book.depth" JO ["self"]
 cj:FnM K aQ "depth" "Book.depth" II ["self"]
 bj:FnM K aM "depth" "Joined.depth" Kv ["self"]
 b7:FnM K aO "depth" "Met.depth" Gf ["self"]
 b1:FnM K aK "depth" "Less.depth" EY ["self"]
 bk:FnM K aP "depth" "Turned.depth" Jr ["self"]
 fl:Fn K mg "depth_of" (top 108) ["books"]
 f3:Fn K mg "checked" (top 110) ["books"]
 dg:Fn K mg "checked_list" (top 111) ["books"]
 dv:FnM K aQ "__init__" "Of.__init__" Eo ["self","row"]
 cs:FnM K aM "__init__" "Joined.__init__" FL ["self","books"]
 dh:FnM K aO "__init__" "Met.__init__" Hj ["self","books"]
 c6:FnM K aK "__init__" "Less.__init__" IW ["self","one","other"]
 ct:FnM K aP "__init__" "Turned.__init__" KO ["self","one"]
 c7:Fn K mg "same_each_day" (top 105) ["times","kind"]
 ev:Fn K mg "all_times" (top 106) []
 bl:FnM K aL "on_days" "Book.on_days" JY ["self","kind"]
 b2:FnM K aQ "on_days" "Of.on_days" GR ["self","kind"]
 a8:FnM K aM "on_days" "Joined.on_days" J2 ["self","kind"]
 br:FnM K aO "on_days" "Met.on_days" GF ["self","kind"]
 bm:FnM K aK "on_days" "Less.on_days" Ig ["self","kind"]
 a9:FnM K aP "on_days" "Turned.on_days" Gi ["self","kind"]
 b3:FnM K aL "holds" "Book.holds" Ej ["self","moment"]
 ck:FnM K aQ "holds" "Of.holds" E9 ["self","moment"]
 bn:FnM K aM "holds" "Joined.holds" Kq ["self","moment"]
 b8:FnM K aO "holds" "Met.holds" Kh ["self","moment"]
 b4:FnM K aK "holds" "Less.holds" Ks ["self","moment"]
 bo:FnM K aP "holds" "Turned.holds" Fm ["self","moment"]
 di:Fn K mg "_law_cell_at" (top 130) ["_law_script","_law_k"]
 ew:Fn K mg "_law_stir" (top 131) ["_law_number"]
 dw:Fn K mg "_law_digits" (top 132) ["_law_cell","_law_sizes","_law_mixed"]
 ef:Fn K mg "_law_whole" (top 133) ["_law_found"]
 eg:Fn K mg "_law_field" (top 134) ["_law_parts","_law_low","_law_high"]
 fm:Fn K mg "_law_row" (top 135) ["_law_cell","_law_mixed"]
 b9:Fn K mg "_law_tree" (top 136) ["_law_script","_law_n","_law_deep","_law_mixed"]
 ca:Fn K mg "_law_make" (top 137) ["_law_tree_here"]
 dx:Fn K mg "_law_joined" (top 138) ["_law_word","_law_one","_law_other"]
 b5:Fn K mg "_law_masks" (top 139) ["_law_tree_here","_law_kind"]
 cb:Fn K mg "_law_rows" (top 140) ["_law_tree_here"]
 dy:Fn K mg "_law_moment" (top 141) ["_law_cell","_law_mixed"]
 ex:Fn K mg "_law_near" (top 142) ["_law_tree_here","_law_cell","_law_mixed"]
 ey:Fn K mg "_law_told" (top 143) ["_law_book","_law_tree_here","_law_kind"]
 fn:Fn K mg "_law_bit" (top 144) ["_law_book","_law_moment_here"]
 eh:Fn K mg "_law_eight" (top 145) ["_law_script","_law_kind","_law_mixed"]
section
set_option maxHeartbeats 4000000
variable{P:Program}{w:World}{K:FG}{mg:Str->Option Value}{base:Heap}{aJ aB aE aF aI aD aA aH aG aL aQ aM aO aK aP aV aU aW aR aS a_MONTH_LASTS a_BOUNDS a_BOUNDS_0 a_BOUNDS_1 a_BOUNDS_3:Addr}{t_ROUND_DAYS t_ROUND_YEARS t_LONG_PLACE t_DAY_MINUTES t_HOUR_MINUTES t_FIGURES t_MOST_STRIDE t_MOST_SIGNS t_MOST_ITEMS t_SATURDAY t_SUNDAY t_MOST_BACK t_MOST_DAY t_SUNDAY_TOO t_MOST_NTH t_MOST_MARKS t_ALL_WEEKDAYS t_LONG_LAST t_SHORT_YEAR t_MINUTE t_HOUR t_DAY t_MONTH t_WEEKDAY t_MOST_ROW_SIGNS t_NO_PLACE t_MOST_MONTHS t_MOST_TALLY t_MOST_DEPTH t_MOST_BOOKS:Tok}(ZZ:Fs K mg aJ aB aE aF aI aD aA aH aG aL aQ aM aO aK aP aV aU aW aR aS a_MONTH_LASTS a_BOUNDS a_BOUNDS_0 a_BOUNDS_1 a_BOUNDS_3 t_ROUND_DAYS t_ROUND_YEARS t_LONG_PLACE t_DAY_MINUTES t_HOUR_MINUTES t_FIGURES t_MOST_STRIDE t_MOST_SIGNS t_MOST_ITEMS t_SATURDAY t_SUNDAY t_MOST_BACK t_MOST_DAY t_SUNDAY_TOO t_MOST_NTH t_MOST_MARKS t_ALL_WEEKDAYS t_LONG_LAST t_SHORT_YEAR t_MINUTE t_HOUR t_DAY t_MONTH t_WEEKDAY t_MOST_ROW_SIGNS t_NO_PLACE t_MOST_MONTHS t_MOST_TALLY t_MOST_DEPTH t_MOST_BOOKS)
include ZZ
theorem KA:Dx P w base ZZ.ft 1 (LK K):=by
 refine ZZ.ft.dfs Nq (by trivial) ?_;rintro _ _ _ _ s H _ Q E hr⟨y,rfl,q⟩;refine⟨_,(eE (eK (mH (jD gw (eC g6 Y0 eI) eI) (kB (vP (jD ox (eC g6 Y0 eI) eI) (kB (jD gw (eC g6 Y0 eI) eI))))))),?_⟩;refine⟨(),(()),(by show (0:Int)<4;decide),rfl,(),?_⟩;refine gV (λc1=>?_) (λc1=>?_)
 ·refine⟨(),(()),(by show (0:Int)<100;decide),rfl,(),?_⟩;refine EH (λc2=>?_) (λc2=>?_)
  ·rw[Jn ⟨c1,.inl c2⟩] at q;exact q
  ·refine⟨(),(()),(by show (0:Int)<400;decide),rfl,?_⟩;by_cases c3:y%400=0
   ·rw[Jn ⟨c1,.inr c3⟩] at q;show Q (.bl (decide (V.int (y%400)=V.int 0))) H;rw[dQ (int_eq.mpr c3)];exact q
   ·rw[Kr ⋯] at q;show Q (.bl (decide (V.int (y%400)=V.int 0))) H;rw[dU λe=>c3 (int_eq.mp e)];exact q
 ·rw[Kr ⋯] at q;exact q
theorem xt:Dx P w base ZZ.cp 1 (SN K):=by
 refine ZZ.cp.dfs Yn (by trivial) ?_;rintro _ _ _ _ s H _ Q E hr⟨y,z,rfl,hz,q⟩;refine⟨_,(eE (eK (eC jy (eC gB (eC fK Y0 Y1) eI) Y1))),?_⟩;refine⟨(),(),(()),(()),(),(()),hz,?_⟩;exact q
theorem uC:Dx P w base ZZ.dn 2 (am5 K):=by
 refine ZZ.dn.dfs Uo (by trivial) ?_;rintro _ _ _ _ s H _ Q E hr⟨y,rfl,q⟩;refine⟨_,(eG (eU 1 (eC fK (eC gB (eD (xt ZZ) hr (A2 Y0 eI)) (eD (xt ZZ) hr (A2 Y0 eI))) (eD (xt ZZ) hr (A2 Y0 eI))) Uo.nd) (eE (eK (eC fK (eC iJ eI Y0) Y1)))),?_⟩;extract_lets;refine⟨(),_,(),⟨by decide,by decide⟩,(),_,(),⟨by decide,by decide⟩,(()),(),_,(),⟨by decide,by decide⟩,(()),?_⟩;refine⟨(),(()),.inl ⟨by decide,by decide⟩,(),(()),?_⟩
 exact q
theorem pB:Dx P w base ZZ.fu 2 (awS K):=by
 refine ZZ.fu.dfs axM (by trivial) ?_;rintro _ _ _ _ s H _ Q E hr⟨y,m,rfl,⟨h1,h2⟩,q⟩;refine⟨_,(eG (fA (tW (mI (fB gw Y1 eI) (nP (gW (eD (KA ZZ) hr (A1 Y0)))))) (eE (eK eI)) fC) (eE (eK (eV (gx (K:=K)) (fN (v:=.ref a_MONTH_LASTS) ZZ.dj rfl) (eC gB Y1 eI))))),?_⟩;extract_lets;refine⟨(),rfl,(),?_⟩;refine gV (λc1=>?_) (λc1=>?_)
 ·refine⟨(),(),(),?_⟩;by_cases c2:iR y=true
  ·have e:fH y m=29:=by unfold fH jq;rw[if_pos c1,if_pos c2];rfl
   rw[e] at q;show if iR y=true then _ else _
   rw[if_pos c2];exact q
  ·have e:fH y m=lasts.getD (m-1).toNat 0:=by unfold fH jq;rw[if_pos c1,if_neg c2,c1];rfl
   rw[e] at q;show if iR y=true then _ else _
   rw[if_neg c2];refine⟨(),(()),a_MONTH_LASTS,_,(()),ZZ.bq H,GH h1 h2,?_⟩;exact q
 ·have e:fH y m=lasts.getD (m-1).toNat 0:=by unfold fH;rw[if_neg c1]
  rw[e] at q;refine fW ?_;refine⟨(),(()),a_MONTH_LASTS,_,(()),ZZ.bq H,GH h1 h2,?_⟩;exact q
theorem CK:Dx P w base ZZ.e7 1 (LU K):=by
 refine ZZ.e7.dfs WW (by trivial) ?_;rintro _ _ _ _ s H _ Q E hr⟨i,rfl,q⟩;refine⟨_,(eE (eK (mH (gS EE ZZ.ac PyProof.Rows.boot_isinstance (A2 Y0 (l6 ZZ.cw PyProof.Rows.boot_int))) (kB (qP (gS EJ ZZ.ac PyProof.Rows.boot_isinstance (A2 Y0 (l6 ZZ.d6 PyProof.Rows.boot_bool)))))))),?_⟩;refine⟨(),(),(),?_⟩;refine gE ?_;refine⟨(),(),(),?_⟩;exact q
theorem awX:Dx P w base ZZ.fv 3 (axH K):=by
 refine ZZ.fv.dfs YG (by trivial) ?_;rintro _ _ _ _ s H _ Q E hr⟨y,m,k,rfl,⟨hm,k1,k2⟩,q⟩;refine⟨_,(eG (fA (iu (tW (mI (gW (eD (CK ZZ) hr (A1 Y0))) (mI (gW (eD (CK ZZ) hr (A1 Y1))) (nP (gW (eD (CK ZZ) hr (A1 Y2)))))))) (eE (eK eB)) fC) (eE (eK (mH (JX kS kS eI Y1 eI) (kB (JX kS kS eI Y2 (eD (pB ZZ) hr (A2 Y0 Y1)))))))),?_⟩;extract_lets;refine⟨(),(),(),gE ⟨(),(),(),gE ⟨(),(),(),fW ?_⟩⟩⟩
 refine⟨(),(()),(),?_⟩;rw[dQ hm.1];refine gE ⟨(()),(),?_⟩;rw[dQ hm.2];refine gE ⟨(),(()),(),?_⟩;rw[dQ k1];refine gE ⟨(),(),_,(),hm,(()),?_⟩;show Q (.bl (decide (k<=fH y m))) H;rw[dQ k2];exact q
theorem GA:Dx P w base ZZ.f6 4 (Yj K):=by
 refine ZZ.f6.dfs Um (by trivial) ?_;rintro _ _ _ _ s H _ Q E hr⟨y,m,k,rfl,hv,q⟩;refine⟨_,(eG (fA (iu (gW (eD (awX ZZ) hr (A3 Y0 Y1 Y2)))) (eE jV) fC) (eG (eU 3 (gS Jf ZZ.e4 PyProof.Rows.boot_sum (A1 (jw ["year"] [0] (vi ZZ.ai (A2 eI Y1)) (λ_ _ _ _ _ _=>hZ) (λ_ _ _ _ _ _=>(eD (pB ZZ) hr (A2 Y1 Y0)))))) Um.nd) (eE (eK (eC gB (eC fK (eC fK (eD (uC ZZ) hr (A1 Y0)) Y3) Y2) eI))))),?_⟩
 extract_lets;obtain⟨⟨hm1,hm2⟩,hk⟩:=id hv;refine⟨(),(),(),_,_,(),hv,(),fW ?_⟩;refine⟨(),_,(),⟨by decide,by decide,⋯,⋯⟩,p4 (λi l=>l=(List.range i).map λi:Nat=>V.int (fH y (1+(i:Int)))) (by show (m-1).toNat<=sizeLine;rw[dN];omega) rfl ?_ ?_⟩
 ·intro i l D H2 E' F' hi hR hD s2 hl hE hF;subst hR;exact⟨(),(),_,(),⟨⋯,⋯⟩,hE _ _ (Same.refl _) (E1 _ _).symm⟩
 ·intro D H2 l hR hD s2 hl;subst hR;refine⟨D,(List.range (m-1).toNat).map λi:Nat=>fH y (1+(i:Int)),rfl,SqL.of (by rw[hl,cG];rfl),?_⟩;refine⟨(),(),(),(()),(),(()),(()),?_⟩;have e:((List.range (m-1).toNat).map λi:Nat=>fH y (1+(i:Int))).sum=ahead y m:=F6 y _;rw[e];exact q _ s2
theorem axY:Dx P w base ZZ.fw 3 (aw5 K):=by
 refine ZZ.fw.dfs UQ (by trivial) ?_;rintro _ _ _ _ s H _ Q E hr⟨d,rfl,q⟩;refine⟨_,(eG (eU 1 (eC fK (eC iJ (eC jy Y0 (fN (v:=.int 146097) ZZ.bt ⟨()⟩)) (fN (v:=.int 400) ZZ.dk ⟨()⟩)) (eC jy (eC g6 Y0 (fN (v:=.int 146097) ZZ.bt ⟨()⟩)) eI)) UQ.nd) (eG (y8 (fB kS (eD (uC ZZ) hr (A1 (eC fK Y1 eI))) Y0) (eE (eU 1 (eC fK Y1 eI) UQ.nd)) PassesOwn.never) (eE (eK Y1)))),?_⟩;extract_lets
 refine⟨(),(()),⟨by decide,by decide⟩,(()),.inr ⟨by decide,by decide⟩,(),(()),(by show (0:Int)<146097;decide),(()),⟨by decide,by decide⟩,(()),?_⟩;refine xC (λσ H'=>H'=H/\∃y:Int,σ=[some (.int d),some (.int y)]/\db y<=d) (λσ _=>(d-db (iv σ 1)).toNat) ?_ ?_
 ·refine⟨rfl,(),?_⟩;have h1:=MR (q:=d / 146097) (z:=d%146097 / 366) ⋯;omega
 ·rintro σ H' ⟨rfl,y,rfl,hy⟩;refine⟨(),(()),(),(),(()),(),?_⟩;refine hW (λc=>?_) (λc=>?_)
  ·refine⟨_,λ_ _ h=>h,?_⟩;refine⟨(),(()),?_⟩;have h1:=qQ y;have h2:=KN y;exact⟨_,(by show (d-db (y+1)).toNat<(d-db y).toNat;omega),rfl,rfl,(),c⟩
  ·exact⟨(),q y hy ⋯⟩
theorem rC:Dx P w base ZZ.fx 4 (Sl K):=by
 refine ZZ.fx.dfs Ul (by trivial) ?_;rintro _ _ _ _ s H _ Q E hr⟨d,rfl,q⟩;refine⟨_,(eG (eU 1 (eD (axY ZZ) hr (A1 Y0)) Ul.nd) (eG (eU 2 eI Ul.nd) (eG (eU 3 (eC gB Y0 (eD (uC ZZ) hr (A1 Y1))) Ul.nd) (eG (y8 (fB Bq Y3 (eD (pB ZZ) hr (A2 Y1 Y2))) (eG (eU 3 (eC gB Y3 (eD (pB ZZ) hr (A2 Y1 Y2))) Ul.nd) (eE (eU 2 (eC fK Y2 eI) Ul.nd))) PassesOwn.never) (eE (eK (ix (A3 Y1 Y2 (eC fK Y3 eI))))))))),?_⟩
 extract_lets;refine⟨(),(),λy hy1 hy2=>?_⟩;refine⟨(),(),(),(()),?_⟩;refine xC (λσ H'=>H'=H/\∃m r:Int,σ=[some (.int d),some (.int y),some (.int m),some (.int r)]/\(1<=m/\m<=12)/\0<=r/\db y+ahead y m+r=d) (λσ _=>(13-(iv σ 2)).toNat) ?_ ?_
 ·have a4:ahead y 1=0:=rfl;exact⟨rfl,1,(),⟨by decide,by decide⟩,⋯,⋯⟩
 ·rintro σ H' ⟨rfl,m,r,rfl,hm,hr0,he⟩;refine⟨(),(),(),_,(),hm,(()),(),?_⟩;have a1:=rB (y:=y) hm.1;refine hW (λc=>?_) (λc=>?_)
  ·have a2:=ue y;have a3:=qQ y;have hm12:m<12:=by
    rcases Int.lt_or_le m 12 with z | z
    ·exact z
    ·have e12:m=12:=⋯;subst e12;have a5:ahead y (12+1)=ahead y 13:=rfl;omega
   refine⟨_,λ_ _ h=>h,?_⟩;refine⟨(),(),(),_,(),hm,(()),?_⟩;refine⟨(),(()),?_⟩;exact⟨_,(by show (13-(m+1)).toNat<(13-m).toNat;omega),rfl,rfl,m+1,r-fH y m,rfl,⟨⋯,⋯⟩,⋯,⋯⟩
  ·refine⟨(),(),(),(()),(zL 3),λp hp=>?_⟩;exact q y m (r+1) p _ ⟨hm,⋯,⋯⟩ (by unfold iA;omega) (eJ hp _) eF
theorem Za:Dx P w base ZZ.fy 1 (LX K):=by
 refine ZZ.fy.dfs Sz (by trivial) ?_;rintro _ _ _ _ s H _ Q E hr⟨d,rfl,q⟩;refine⟨_,(eE (eK (eC g6 (eC fK Y0 eI) eI))),?_⟩;exact⟨(),(()),(()),(by show (0:Int)<7;decide),q⟩
theorem V5:Dx P w base ZZ.ek 2 (SB K):=by
 refine ZZ.ek.dfs Ur (by trivial) ?_;rintro _ _ _ _ s H _ Q E hr⟨y,m,d,rfl,q⟩;refine⟨_,(eG (eU 3 (lG (tW (mI (fB gw Y1 eI) (nP (gW (eD (KA ZZ) hr (A1 Y0)))))) (fN (v:=.int 12) ZZ.bu ⟨()⟩) (eC gB Y1 eI)) Ur.nd) (eE (eK (eC fK (eC iJ eI Y3) (eD (Za ZZ) hr (A1 Y2)))))),?_⟩;extract_lets;have q':∀pl:Int,jI y m=pl->Q (.int (7*pl+(d+6)%7)) H:=λpl e=>by
  rw[←e];exact q
 refine⟨(),rfl,(),?_⟩;refine gV (λc1=>⟨(),(),(),?_⟩) (λc1=>fW ?_)
 ·by_cases c2:iR y=true
  ·show if iR y=true then _ else _
   rw[if_pos c2];exact⟨(),(()),.inl ⟨by decide,by decide⟩,(),(),(()),q' _ (by unfold jI;rw[if_pos ⟨c1,c2⟩])⟩
  ·show if iR y=true then _ else _
   rw[if_neg c2];exact⟨(),(()),(),(()),.inl ⟨by decide,by decide⟩,(),(),(()),q' _ (by unfold jI;rw[if_neg λz=>c2 z.2])⟩
 ·exact⟨(),(()),(),(()),.inl ⟨by decide,by decide⟩,(),(),(()),q' _ (by unfold jI;rw[if_neg λz=>c1 z.1])⟩
theorem qb:Dx P w base ZZ.fz 5 (Lx K):=by
 refine ZZ.fz.dfs Xf (by trivial) ?_;rintro _ _ _ _ s H _ Q E hr⟨y,m,rfl,hm,q⟩;refine⟨_,(eE (eK (eD (V5 ZZ) hr (A3 Y0 Y1 (eD (GA ZZ) hr (A3 Y0 Y1 eI)))))),?_⟩;have hl1:1<=fH y m:=by have:=K8 (y:=y) hm.1 hm.2;omega
 have e6:db y+ahead y m+1-1+6=db y+ahead y m+6:=⋯;refine⟨(),(),(),(),_,_,(),⟨hm,by decide,hl1⟩,λH' s'=>⟨_,_,(),?_⟩⟩;rw[e6];exact q H' s'
theorem Yl:Dx P w base ZZ.f7 1 (Tn K):=by
 refine ZZ.f7.dfs UB (by trivial) ?_;rintro _ _ _ _ s H _ Q E hr⟨mo,rfl,q⟩;refine⟨_,(eG (eU 1 (eC g6 Y0 (fN (v:=.int 1440) ZZ.af ⟨()⟩)) UB.nd) (eE (eK (ix (A3 (eC jy Y0 (fN (v:=.int 1440) ZZ.af ⟨()⟩)) (eC jy Y1 (fN (v:=.int 60) ZZ.al ⟨()⟩)) (eC g6 Y1 (fN (v:=.int 60) ZZ.al ⟨()⟩))))))),?_⟩;extract_lets;refine⟨(),(()),(by show (0:Int)<1440;decide),?_⟩;exact⟨(),(()),⟨by decide,by decide⟩,(),(()),⟨by decide,by decide⟩,(),(()),(by show (0:Int)<60;decide),(zL 3),λp hp=>q p _ (eJ hp _) eF⟩
theorem Ph:Dx P w base ZZ.dp 1 (apF K):=by
 refine ZZ.dp.dfs Qq (by trivial) ?_;rintro _ _ _ _ s H _ Q E hr⟨l,rfl,hl,q⟩;refine⟨_,(eE (eK (mH (jD ox Y0 (eZ [])) (kB (gS sM ZZ.cx boot_all (A1 (jw [] [] (iX Y0) (λ_ _ _ _ _ _=>hZ) (λ_ _ _ _ _ _=>(jD B9 Y0 (fN (v:=.str (Tx [48,49,50,51,52,53,54,55,56,57])) ZZ.fs ⟨()⟩)))))))))),?_⟩;refine⟨(),rfl,(),?_⟩;rw[pR l []];by_cases c:l=[]
 ·rw[dQ c];have e:k9 l=false:=by unfold k9;rw[dQ c];rfl
  rw[e] at q;exact fW (q H (Same.refl H))
 ·rw[dU c];have e:k9 l=l.all kF:=by unfold k9;rw[dU c];rfl
  rw[e] at q;refine gE ⟨(),Tx l,rfl,MV (xs:=l) (λi z=>z=((l.take i).map kF).map V.bl) (by rw[dN];omega) rfl ?_ ?_⟩
  ·intro i ch z D H2 E' F' hv hR hD s2 hz hE hF;subst hR;refine⟨(),ch,sh,rfl,rfl,?_⟩;rw[R8];exact hE _ _ (Same.refl _) (by rw[bL,hv,bA,bA];rfl)
  ·intro D H2 z hR hD s2 hz;subst hR;rw[bN] at hz;refine⟨D,l.map kF,rfl,SqL.of hz,?_⟩;rw[List.all_map];exact q H2 s2
theorem G5:Dx P w base ZZ.d7 2 (aqB K):=by
 refine ZZ.d7.dfs P7 (by trivial) ?_;rintro _ _ _ _ s H _ Q E hr⟨l,rfl,hl,q⟩;refine⟨_,(eE (eK (mH (eD (Ph ZZ) hr (A1 Y0)) (kB (vP (jD gw Y0 (eZ [48])) (kB (jD ox (eV xX Y0 eI) (eZ [48])))))))),?_⟩;refine⟨(),l,rfl,hl,λH1 s1=>⟨(),?_⟩⟩;refine Em (λc=>?_) (λc=>?_)
 ·have hne:l≠[]:=λe=>by
   unfold k9 at c;rw[dQ e] at c;exact absurd (show false=true from c) bF
  refine⟨(),rfl,(),?_⟩;rw[pR l [48]];by_cases c2:l=[48]
  ·rw[dQ c2];have e:iH l=true:=by unfold iH;rw[c,dQ c2];rfl
   rw[e] at q;exact gE (q H1 s1)
  ·rw[dU c2];obtain⟨x,r,rfl⟩:∃x r,l=x::r:=by
    cases l with
    |nil=>exact absurd rfl hne
    |cons x r=>exact⟨x,r,rfl⟩
   refine fW ⟨(),x::r,0,x,rfl,rfl,(by rw[dN];omega),(show ie (x::r) ((0:Nat):Int)=some x from kT rfl),rfl,?_⟩;rw[pR [x] [48]];have e:iH (x::r)= !decide ([x]=[48]):=by
    unfold iH;rw[c,dU c2];show (!decide (x=48))=_;rw[decide_eq_decide.mpr (show x=48↔[x]=[48] by simp)]
   rw[e] at q;exact q H1 s1
 ·have e:iH l=false:=by unfold iH;rw[c];rfl
  rw[e] at q;exact q H1 s1
theorem nk:Dx P w base ZZ.gp 1 (UX K):=by
 refine ZZ.gp.dfs Wi (by trivial) ?_;rintro _ _ _ _ s H _ Q E hr⟨m,n,rfl,h0,q⟩;refine⟨_,(eE (eK (jD gw (eC kz (eC m8 Y0 Y1) eI) eI))),?_⟩;refine⟨(),(),(()),h0.2,(()),rfl,?_⟩;have e:decide (V.int (Builtin.bitAnd (m / 2^n.toNat) 1)=V.int 1)=tb m n.toNat:=by
  rw[←VG h0.1];exact decide_eq_decide.mpr int_eq
 show Q (.bl (decide (V.int (Builtin.bitAnd (m / 2^n.toNat) 1)=V.int 1))) H;rw[e];exact q
theorem awT:Dx P w base ZZ.f0 1 (Xg K):=by
 refine ZZ.f0.dfs Uu (by trivial) ?_;rintro _ _ _ _ s H _ Q E hr⟨a,zs,rfl,hS,hz,q⟩;refine⟨_,(eG (eU 1 eI Uu.nd) (eG (jk (kN (K:=K) Y0) (gN 2 Uu.nd) (eE (eU 1 (eC kJ Y1 (eC j5 eI Y2)) Uu.nd)) PassesOwn.never) (eE (eK Y1)))),?_⟩;extract_lets;refine⟨(),a,rfl,⟨_,hS⟩,mw (K:=K) (a:=a) (xs:=zs.map V.int) (λi σ H2=>H2=H/\∃u:Option V,σ=[some (.ref a),some (.int (iD (zs.take i))),u]) ⟨rfl,()⟩ (λi σ H2 _ hP=>by rw[hP.1];exact hS) ?_ ?_⟩
 ·rintro i x σ H2 hx ⟨rfl,u,rfl⟩;rw[bI] at hx;cases ez:zs[i]? with
  |none=>rw[ez] at hx;cases hx
  |some z=>
   rw[ez] at hx;obtain rfl:V.int z=x:=bG hx;have h:=hz z (bR ez);have et:iD (zs.take (i+1))=Builtin.bitOr (iD (zs.take i)) (1*2^z.toNat):=by
    rw[bL,ez,←Qe];rfl
   exact⟨(),(),(()),⟨h.1,⋯,by decide⟩,(()),rfl,_,by rw[et];rfl⟩
 ·rintro σ H2 ⟨rfl,u,rfl⟩;rw[aY,bN];exact⟨(),q⟩
theorem MI:Dx P w base ZZ.d8 2 (Oz K):=by
 refine ZZ.d8.dfs Rz (by trivial) ?_;rintro _ _ _ _ s H _ Q E hr⟨m,rfl,hm,q⟩;refine⟨_,(eE (eK (jw ["mask"] [0] (mL ZZ.ai (A1 (EM Y0))) (λ_ _ _ _ _ _=>(Rf (gW (eD (nk ZZ) hr (A2 Y1 Y0))))) (λ_ _ _ _ _ _=>Y0)))),?_⟩;refine⟨(),rfl,(),rfl,(),⋯,⋯,p4 (λi z=>z=(flt (tb m) 0 i).map V.int) (by rw[dN,bS];omega) Mr ?_ ?_⟩
 ·intro i z D H2 E' F' hi hR hD s2 hz hE hF;subst hR;refine⟨(),(),_,(),⟨hm.1,⋯⟩,(),?_⟩;have e0:(0+(i:Int)).toNat=i:=⋯;show if tb m (0+(i:Int)).toNat=true then _ else _
  rw[e0];by_cases c:tb m i=true
  ·rw[if_pos c];exact⟨(),hE _ _ (Same.refl _) (by rw[vT c,bA];rfl)⟩
  ·rw[if_neg c];exact hF _ (Same.refl _) (by rw[qJ (by simpa using c)])
 ·intro D H2 z hR hD s2 hz;subst hR;rw[bS] at hz;exact q D H2 s2 hz
theorem HS:Dx P w base ZZ.e8 2 (SQ K):=by
 refine ZZ.e8.dfs auW (by trivial) ?_;rintro _ _ _ _ s H _ Q E hr⟨a,b,st,rfl,ha,hb,hs,q⟩;refine⟨_,(eE (eK (eD (awT ZZ) hr (A1 (jx cLR ZZ.co PyProof.Rows.boot_list (A1 (jx zo ZZ.ai boot_range (A3 Y0 (eC fK Y1 eI) Y2)))))))),?_⟩;obtain⟨n1,n2⟩:=JR ha.1 hb.2 hs.1;have bd:∀z∈ij a b st,0<=z/\z<=100000:=λz hz=>by
  have:=(Bp hs.1).mp hz;omega
 refine⟨(),(),(()),(),_,_,(),⟨hs.1,⋯⟩,λp hp=>⟨p,a,b+1,st,(Builtin.Range.rangeSize a (b+1) st).toNat,rfl,eF,Si ha.1 ha.2 hb.1 hb.2 hs.1 hs.2,n2,⋯,λl hl=>⟨l,ij a b st,rfl,SqL.of (by rw[qk,cG];exact eF),bd,?_⟩⟩⟩;exact q _ ((eJ hp _).trans (eJ hl _))
theorem ot:Dx P w base ZZ.dq 3 (Py K):=by
 refine ZZ.dq.dfs UH (by trivial) ?_;rintro _ _ _ _ s H _ Q E hr⟨l,lo,hi,rfl,hl,q⟩;refine⟨_,(eG (fA (iu (gW (eD (G5 ZZ) hr (A1 Y0)))) (eE (eK eN)) fC) (eG (eU 3 (jx aQN ZZ.cw PyProof.Rows.boot_int (A1 Y0)) UH.nd) (eG (fA (Ii kS kS Y1 Y3 Y2) (eE (eK Y3)) fC) (eE (eK eN))))),?_⟩;extract_lets;refine⟨(),l,rfl,⋯,λH1 s1=>⟨(),?_⟩⟩;by_cases c:iH l=true
 ·rw[c];obtain⟨d1,d2⟩:=OC c;refine fW ⟨(),l,rfl,d1,d2,⋯,?_⟩;refine⟨(),(),(()),(),?_⟩;show if decide (lo<=dv l)=true then _ else _
  refine hW (λc1=>⟨(),(()),(),?_⟩) (λc1=>⟨(),?_⟩)
  ·show if decide (dv l<=hi)=true then _ else _
   refine hW (λc2=>?_) (λc2=>?_)
   ·have e:gL lo hi l=some (dv l):=by unfold gL;rw[if_pos c,if_pos ⟨c1,c2⟩]
    rw[e] at q;exact⟨(),q H1 s1⟩
   ·have e:gL lo hi l=none:=by unfold gL;rw[if_pos c,if_neg λz=>c2 z.2]
    rw[e] at q;exact q H1 s1
  ·have e:gL lo hi l=none:=by unfold gL;rw[if_pos c,if_neg λz=>c1 z.1]
   rw[e] at q;exact fW (q H1 s1)
 ·have c':iH l=false:=by simpa using c
  rw[c'];have e:gL lo hi l=none:=by unfold gL;rw[if_neg c]
  rw[e] at q;exact gE (q H1 s1)
theorem IR:Dx P w base ZZ.e9 4 (avH K):=by
 refine ZZ.e9.dfs UJ (by trivial) ?_;rintro _ _ _ _ s H _ Q E hr⟨l,lo,hi,rfl,hl,q⟩;refine⟨_,(eG (fA (fB gw Y0 (eZ [42])) (eE (eK (ix (A2 Y1 Y2)))) fC) (eG (pC 3 ["low","high"] [1,2] (kN (K:=K) (n8 Y0 (eZ [45]))) (λ_ _ _ _ _ _=>hZ) (λ_ _ _ _ _ _=>(eD (ot ZZ) hr (A3 Y0 Y1 Y2))) UJ.nd) (eG (fA (tW (j6 (fB km (gS (kO (K:=K)) ZZ.am PySem.boot_len (A1 Y3)) eI) (j6 (fB (Fk (K:=K)) eN Y3) (ke (fB km (eV (fR (K:=K)) Y3 eI) (eV (fR (K:=K)) Y3 (kQ lF eI))))))) (eE (eK eN)) fC) (eE (eK (ix (A2 (eV (fR (K:=K)) Y3 eI) (eV (fR (K:=K)) Y3 (kQ lF eI))))))))),?_⟩
 extract_lets;refine⟨(),rfl,(),?_⟩;rw[pR l [42]];by_cases c:l=[42]
 ·rw[dQ c];refine gE ⟨(),(),(zL 2),λp hp=>?_⟩;have e:iK lo hi l=some (lo,hi):=by unfold iK;rw[if_pos c]
  rw[e] at q;exact q _ _ (eJ hp _) ⟨p,rfl,eF⟩
 rw[dU c];have hsl:=pZ 45 l;have eR:iK lo hi l=my ((eY 45 l).map (gL lo hi)):=by unfold iK;rw[if_neg c]
 rw[eR] at q;refine fW ⟨(),rfl,l,45,rfl,rfl,(by rw[dN];omega),λps hps=>⟨ps,rfl,⟨_,SqL.of eF⟩,nY (xs:=(eY 45 l).map λq=>V.str (Tx q)) (λi z=>z=((eY 45 l).take i).map λq=>oV (gL lo hi q)) (by rw[aY,dN];omega) rfl (SqL.of eF) ?_ ?_⟩⟩
 ·intro i v z D H2 E' F' hv hR hD s2 hz hE hF;subst hR;rw[bI] at hv;cases ew:(eY 45 l)[i]? with
  |none=>rw[ew] at hv;cases hv
  |some w0=>
   rw[ew] at hv;obtain rfl:V.str (Tx w0)=v:=bG hv;have hw:=nK 45 l w0 (bR ew);exact⟨(),(),(),w0,lo,hi,rfl,⋯,λH3 s3=>hE _ _ s3 (by rw[bL,ew,bA];rfl)⟩
 intro D H2 z hR hD s2 hz;subst hR;rw[aY,bN] at hz;have hz2:H2 D=some (.lst (((eY 45 l).map (gL lo hi)).map oV)):=by rw[hz,cG];rfl
 have hlen:((eY 45 l).map (gL lo hi)).length<=600:=by rw[aY];omega
 have hnn:(eY 45 l).map (gL lo hi)≠[]:=λe=>Xx 45 l (List.map_eq_nil_iff.mp e);generalize (eY 45 l).map (gL lo hi)=es at hz2 q hlen hnn;have s02:Same H H2:=(eJ hps _).trans s2;have hfl:(es.map oV).all kP=true:=LS es;refine⟨(),D,(),.inl (SqL.of hz2),(()),(),?_⟩
 match es,hnn with
 |[],h=>exact absurd rfl h
 |[none],_=>
  refine fW ⟨(),D,(),.inl (SqL.of hz2),rfl,hfl,(),gE ?_⟩;exact q _ _ s02 rfl
 |[some a],_=>
  refine fW ⟨(),D,(),.inl (SqL.of hz2),rfl,hfl,(),fW ⟨(),D,_,(()),SqL.of hz2,rfl,(),(),D,_,(()),SqL.of hz2,rfl,(()),(),?_⟩⟩;rw[dU (show ¬a<a by omega)];refine fW ⟨(),D,_,(()),SqL.of hz2,rfl,(),(),D,_,(()),SqL.of hz2,rfl,(zL 2),λp hp=>?_⟩;exact q _ _ (s02.trans (eJ hp _)) ⟨p,rfl,eF⟩
 |[none,y],_=>
  refine fW ⟨(),D,(),.inl (SqL.of hz2),rfl,hfl,(),gE ?_⟩;exact q _ _ s02 rfl
 |[some a,none],_=>
  refine fW ⟨(),D,(),.inl (SqL.of hz2),rfl,hfl,(),gE ?_⟩;exact q _ _ s02 rfl
 |[some a,some b],_=>
  refine fW ⟨(),D,(),.inl (SqL.of hz2),rfl,hfl,(),fW ⟨(),D,_,(()),SqL.of hz2,rfl,(),(),D,_,(()),SqL.of hz2,rfl,(()),(),?_⟩⟩;refine hW (λc2=>?_) (λc2=>?_)
  ·have e:my [some a,some b]=none:=by show (if b<a then none else some (a,b))=none;rw[if_pos c2]
   rw[e] at q;exact q _ _ s02 rfl
  ·have e:my [some a,some b]=some (a,b):=by show (if b<a then none else some (a,b))=some (a,b);rw[if_neg c2]
   rw[e] at q;refine⟨(),D,_,(()),SqL.of hz2,rfl,(),(),D,_,(()),SqL.of hz2,rfl,(zL 2),λp hp=>?_⟩;exact q _ _ (s02.trans (eJ hp _)) ⟨p,rfl,eF⟩
 |x::y::u::r,_=>
  have e3:decide ((2:Int)<(((x::y::u::r).map oV).length:Nat))=true:=dQ (by rw[aY];show (2:Int)<((r.length+1+1+1:Nat):Int);omega);refine kf e3 ?_;have e:my (x::y::u::r)=none:=by cases x<;>cases y<;>rfl
  rw[e] at q;exact q _ _ s02 rfl
theorem Pu:Dx P w base ZZ.c9 5 (YN K):=by
 refine ZZ.c9.dfs UK (by trivial) ?_;rintro _ _ _ _ s H _ Q E hr⟨r,st,lo,hi,rfl,hr1,hs1,hb,q⟩;refine⟨_,(eG (eU 4 (eD (IR ZZ) hr (A3 Y0 Y2 Y3)) UK.nd) (eG (eU 5 (eD (ot ZZ) hr (A3 Y1 eI (fN (v:=.int 99) ZZ.dl ⟨()⟩))) UK.nd) (eG (fA (tW (j6 (fB jB Y4 eN) (ke (fB jB Y5 eN)))) (eE (eK eN)) fC) (eG (eU 6 (lG (gW (eD (G5 ZZ) hr (A1 Y0))) Y3 (eV (gx (K:=K)) Y4 eI)) UK.nd) (eE (eK (eD (HS ZZ) hr (A3 (eV (gx (K:=K)) Y4 eI) Y6 Y5)))))))),?_⟩
 extract_lets;refine⟨(),(),(),r,lo,hi,rfl,⋯,λrv H1 s1 hrv=>?_⟩;refine⟨(),st,1,99,rfl,⋯,λH2 s2=>?_⟩;cases er:iK lo hi r with
 |none=>
  rw[er] at hrv;have hrv:rv=.non:=hrv;subst hrv;have e:jZ lo hi r st=none:=by unfold jZ;rw[er]
  rw[e] at q;exact⟨(),rfl,(),gE (q H2 (s1.trans s2))⟩
 |some ab=>
  obtain⟨a,b⟩:=ab;rw[er] at hrv;obtain⟨p,rfl,hp⟩:=hrv;have bd:=GO hb.2.1 er;refine⟨(),rfl,(),iQ rfl ⟨(),rfl,(),?_⟩⟩;cases es:gL 1 99 st with
  |none=>
   have e:jZ lo hi r st=none:=by unfold jZ;rw[er,es]
   rw[e] at q;exact kf rfl (q H2 (s1.trans s2))
  |some sv=>
   have bs:=EL es;have hp2:=s2 _ _ hp;refine iQ rfl ⟨(),r,rfl,⋯,λH3 s3=>⟨(),?_⟩⟩;have hp3:=s3 _ _ hp2;refine Em (λc=>?_) (λc=>?_)
   ·have e:jZ lo hi r st=some (jt a hi sv):=by unfold jZ;rw[er,es];show some (jt a (if iH r=true then hi else b) sv)=_;rw[if_pos c]
    rw[e] at q;refine⟨(),(),p,_,(()),SqT.of hp3,rfl,(),(),a,hi,sv,rfl,⟨⋯,⋯⟩,⟨⋯,⋯⟩,⟨⋯,⋯⟩,λH4 s4=>?_⟩;exact q H4 (s1.trans (s2.trans (s3.trans s4)))
   ·have e:jZ lo hi r st=some (jt a b sv):=by unfold jZ;rw[er,es];show some (jt a (if iH r=true then hi else b) sv)=_;rw[if_neg (by rw[c];exact bF)]
    rw[e] at q;refine⟨(),p,_,(()),SqT.of hp3,rfl,(),p,_,(()),SqT.of hp3,rfl,(),(),a,b,sv,rfl,⟨⋯,⋯⟩,⟨⋯,⋯⟩,⟨⋯,⋯⟩,λH4 s4=>?_⟩;exact q H4 (s1.trans (s2.trans (s3.trans s4)))
theorem KY:Dx P w base ZZ.el 6 (asI K):=by
 refine ZZ.el.dfs UF (by trivial) ?_;rintro _ _ _ _ s H _ Q E hr⟨l,lo,hi,rfl,hl,hb,q⟩;refine⟨_,(eG (eU 3 (n8 Y0 (eZ [47])) UF.nd) (eG (fA (fB gw (gS (kO (K:=K)) ZZ.am PySem.boot_len (A1 Y3)) eI) (eE (eK (eD (Pu ZZ) hr (aC (eV (fR (K:=K)) Y3 eI) (A3 (eV (fR (K:=K)) Y3 eI) Y1 Y2))))) fC) (eG (eU 4 (eD (IR ZZ) hr (A3 Y0 Y1 Y2)) UF.nd) (eG (fA (fB jB Y4 eN) (eE (eK eN)) fC) (eE (eK (eD (HS ZZ) hr (A3 (eV (gx (K:=K)) Y4 eI) (eV (gx (K:=K)) Y4 eI) eI)))))))),?_⟩
 extract_lets;have hsl:=pZ 47 l;have hml:=nK 47 l;refine⟨(),rfl,l,47,rfl,rfl,(by rw[dN];omega),λps hps=>?_⟩;have s0:=eJ hps (.lst ((eY 47 l).map λq=>V.str (Tx q)));refine⟨(),ps,(),.inl (SqL.of eF),rfl,(),?_⟩;have two:(∃r s,eY 47 l=[r,s])∨(∀r s,eY 47 l≠[r,s]):=by
  by_cases z:∃r s,eY 47 l=[r,s]
  ·exact .inl z
  ·exact .inr λr s e=>z ⟨r,s,e⟩
 rcases two with ⟨r,s,e2⟩ | hno
 ·have e:gJ lo hi l=jZ lo hi r s:=by unfold gJ;rw[e2]
  rw[e] at q;have h1:=hml r (by rw[e2];simp);have h2:=hml s (by rw[e2];simp);rw[e2];refine kf rfl ⟨(),ps,_,(()),SqL.of eF,rfl,(),ps,_,(()),SqL.of eF,rfl,(),(),r,s,lo,hi,rfl,⋯,⋯,hb,λH1 s1=>?_⟩;exact q H1 ((eJ hps _).trans s1)
 ·have hlen:¬(eY 47 l).length=2:=λe=>by
   match h:eY 47 l,e with
   |[r,s],_=>exact hno r s h
  have e:gJ lo hi l=match iK lo hi l with | some (a,b)=>some (jt a b 1) | none=>none:=by
   unfold gJ;split
   ·rename_i r s h;exact absurd h (hno r s)
   ·rfl
  refine iQ (dU λz=>hlen (by have z:=V.int.inj z;rw[aY] at z;omega)) ?_;refine⟨(),(),(),l,lo,hi,rfl,⋯,λrv H1 s1 hrv=>?_⟩;cases er:iK lo hi l with
  |none=>
   rw[er] at hrv e;have hrv:rv=.non:=hrv;subst hrv;rw[e] at q;exact⟨(),rfl,(),gE (q H1 (s0.trans s1))⟩
  |some ab=>
   obtain⟨a,b⟩:=ab;rw[er] at hrv e;obtain⟨p,rfl,hp⟩:=hrv;have bd:=GO hb.2.1 er;have e:gJ lo hi l=some (jt a b 1):=e;rw[e] at q;refine⟨(),rfl,(),iQ rfl ⟨(),p,_,(()),SqT.of hp,rfl,(),p,_,(()),SqT.of hp,rfl,a,b,1,rfl,⟨⋯,⋯⟩,⟨⋯,⋯⟩,⟨by decide,by decide⟩,λH4 s4=>?_⟩⟩;exact q H4 (s0.trans (s1.trans s4))
theorem apZ:Dx P w base ZZ.d9 7 (Mb K):=by
 refine ZZ.d9.dfs UE (by trivial) ?_;rintro _ _ _ _ s H _ Q E hr⟨l,lo,hi,rfl,hl,hb,⟨hk,hok⟩,q⟩;refine⟨_,(eG (fA (tW (j6 (iu (gW (gS pk ZZ.ac PyProof.Rows.boot_isinstance (A2 Y0 (l6 ZZ.aj PyProof.Rows.boot_str))))) (ke (fB km (gS uH ZZ.am PySem.boot_len (A1 Y0)) (fN (v:=.int 300) ZZ.bv ⟨()⟩))))) (eE jV) fC) (eG (eU 3 (n8 Y0 (eZ [44])) UE.nd) (eG (eU 4 eI UE.nd) (eG (jk (iE ZZ.az (ju (kK (K:=K)) Y3 jE (iN (fN (v:=.int 40) ZZ.av ⟨()⟩)))) (mD (K:=K) (iz (gN 5 UE.nd) (iz (gN 6 UE.nd) k8))) (eG (eU 7 (eD (KY ZZ) hr (A3 Y6 Y1 Y2)) UE.nd) (eG (fA (fB jB Y7 eN) (eE jV) fC) (eE (eU 4 (eC kJ Y4 Y7) UE.nd)))) PassesOwn.never) (eG (fA (fB km (gS (kO (K:=K)) ZZ.am PySem.boot_len (A1 Y3)) (fN (v:=.int 40) ZZ.av ⟨()⟩)) (eE jV) fC) (eE (eK Y4))))))),?_⟩
 extract_lets;have hml:=nK 44 l;refine⟨(),_,.str,.str,rfl,(by decide),rfl,(),iQ rfl ⟨(),l,rfl,(by rw[dN];omega),(()),(),?_⟩⟩;rw[dU (show ¬(300:Int)<((l.length:Nat):Int) by omega)];refine fW ⟨(),rfl,l,44,rfl,rfl,(by rw[dN];omega),λps hps=>?_⟩;have s0:=eJ hps (.lst ((eY 44 l).map λq=>V.str (Tx q)));refine⟨(),(),ps,(),SqL.of eF,λpc hpc=>?_⟩;have ecut:jR ((eY 44 l).map λq=>V.str (Tx q)) none (some 40)=(eY 44 l).map λq=>V.str (Tx q):=Hm (by rw[aY];exact hk)
 rw[ecut];have s1:=eJ hpc (.lst ((eY 44 l).map λq=>V.str (Tx q)));refine⟨pc,rfl,⟨_,SqL.of eF⟩,xh (K:=K) (a:=pc) (xs:=(eY 44 l).map λq=>V.str (Tx q)) (λi σ H2=>∃(u1 u2 u3:Option V),σ=[some (.str (Tx l)),some (.int lo),some (.int hi),some (.ref ps),some (.int (gM ((lh lo hi l).take i))),u1,u2,u3]/\Same (upd (upd H ps (.lst ((eY 44 l).map λq=>V.str (Tx q)))) pc (.lst ((eY 44 l).map λq=>V.str (Tx q)))) H2) ⟨_,_,(),Same.refl _⟩ (λi σ H2 _ ⟨_,_,_,_,s2⟩=>SqL.of (s2 _ _ eF)) ?_ ?_⟩
 ·rintro i x σ H2 T hx ⟨u1,u2,u3,rfl,s2⟩ hT;rw[bI] at hx;cases ew:(eY 44 l)[i]? with
  |none=>rw[ew] at hx;cases hx
  |some w0=>
   rw[ew] at hx;obtain rfl:V.str (Tx w0)=x:=bG hx;have hw:=hml w0 (bR ew);obtain⟨m,em⟩:=c6.mp (hok w0 (bR ew));refine⟨T,(),SqT.of eF,rfl,_,(),(()),?_⟩;refine⟨(),(),(),w0,lo,hi,rfl,⋯,hb,λH3 s3=>?_⟩;rw[em];refine⟨(),rfl,(),iQ rfl ⟨(),(),(()),?_⟩⟩;have et:gM ((lh lo hi l).take (i+1))=Builtin.bitOr (gM ((lh lo hi l).take i)) m:=by
    rw[←pA,bL];unfold lh;rw[bI,ew];show gM (_++[(gJ lo hi w0).getD 0])=_;rw[em];rfl
   exact⟨_,_,_,by rw[et];rfl,s2.trans ((eJ hT _).trans s3)⟩
 ·rintro σ H2 ⟨u1,u2,u3,rfl,s2⟩;refine⟨(),ps,(),.inl (SqL.of (s2 _ _ (s1 _ _ eF))),(()),(),?_⟩;rw[dU (show ¬(40:Int)<((((eY 44 l).map λq=>V.str (Tx q)).length:Nat):Int) by rw[aY];omega)];refine fW ⟨(),?_⟩;rw[aY,show (eY 44 l).length=(lh lo hi l).length by unfold lh;rw[aY],bN];exact q H2 (s0.trans (s1.trans s2))
theorem Jk:Dx P w base ZZ.ea 1 (Pf K):=by
 refine ZZ.ea.dfs Vi (by trivial) ?_;rintro f _ _ _ s H _ Q E hr⟨d,f,rfl,q⟩;refine⟨_,(eE (eK (eC g6 (eC gB (eC fK Y1 Y0) eI) eI))),?_⟩;exact⟨(),(),(()),(()),(()),(by show (0:Int)<7;decide),q⟩
theorem Ae:Dx P w base ZZ.fa 1 (QI K):=by
 refine ZZ.fa.dfs PK (by trivial) ?_;rintro _ _ _ _ s H _ Q E hr⟨l,rfl,hl,q⟩;refine⟨_,(eE (eK (eC gB (eC j5 eI Y0) eI))),?_⟩;exact⟨(),(()),⟨⋯,⋯,by decide⟩,(()),q⟩
theorem FY:Dx P w base ZZ.da 2 (UZ K):=by
 refine ZZ.da.dfs Uy (by trivial) ?_;rintro _ _ _ _ s H _ Q E hr⟨d,l,fi,rfl,q⟩;refine⟨_,(eG (eU 3 (eD (Jk ZZ) hr (A2 Y0 Y2)) Uy.nd) (eG (fA (fB gw Y3 (fN (v:=.int 6) ZZ.e0 ⟨()⟩)) (eE (eK (lG (fB km Y0 eI) (eC gB Y0 eI) eI))) fC) (eG (fA (fB gw Y3 (fN (v:=.int 0) ZZ.cu ⟨()⟩)) (eE (eK (lG (fB qh Y0 Y1) (eC fK Y0 eI) (eC gB Y1 eI)))) fC) (eE (eK Y0))))),?_⟩;extract_lets
 refine⟨(),(),_,(),?_⟩;refine⟨(),rfl,(),gV (λc=>?_) (λc=>?_)⟩
 ·refine⟨(),(()),(),hW (λc2=>⟨(),(()),?_⟩) (λc2=>?_)⟩
  ·have e:nw d l fi=d-1:=by unfold nw;rw[if_pos c,if_pos c2]
   rw[e] at q;exact q
  ·have e:nw d l fi=3:=by unfold nw;rw[if_pos c,if_neg c2]
   rw[e] at q;exact q
 ·refine⟨(),rfl,(),gV (λc1=>?_) (λc1=>?_)⟩
  ·refine⟨(),(),(()),(),hW (λc2=>⟨(),(()),?_⟩) (λc2=>⟨(),(()),?_⟩)⟩
   ·have e:nw d l fi=d+1:=by unfold nw;rw[if_neg c,if_pos c1,if_pos c2]
    rw[e] at q;exact q
   ·have e:nw d l fi=l-2:=by unfold nw;rw[if_neg c,if_pos c1,if_neg c2]
    rw[e] at q;exact q
  ·have e:nw d l fi=d:=by unfold nw;rw[if_neg c,if_neg c1]
   rw[e] at q;exact⟨(),q⟩
theorem Vn:Dx P w base ZZ.em 1 (Vv K):=by
 refine ZZ.em.dfs L1 (by trivial) ?_;rintro _ _ _ _ s H _ Q E hr⟨wd,fi,rfl,q⟩;refine⟨_,(eE (eK (eC fK eI (eC g6 (eC gB Y0 Y1) eI)))),?_⟩;exact⟨(),(),(()),(()),(by show (0:Int)<7;decide),(()),q⟩
theorem Pm:Dm P w mg base ZZ.en 1 (T1 K aJ):=by
 refine ZZ.en.dfs at9 (by trivial) ?_;rintro _ _ _ _ s H _ Q E hr⟨p,l,fi,rfl,q⟩;refine⟨_,(eE (eK eI)),?_⟩;exact q
theorem af9:Dm P w mg base ZZ.cq 1 (Nj K aB):=by
 refine ZZ.cq.dfs VB (by trivial) ?_;rintro _ _ _ _ s H _ Q E hr⟨p,dx,m,rfl,hp,q⟩;refine⟨_,(eE (iY Y0 Y1)),?_⟩;exact⟨(),(),p,aB,dx,[],rfl,hp,ZZ.a3.cl,ZZ.bg,(by show 0<1000;decide),q⟩
theorem Wn:Dm P w mg base ZZ.db 2 (Oy K aB):=by
 refine ZZ.db.dfs UT (by trivial) ?_;rintro _ _ _ _ s H _ Q E hr⟨p,dx,m,l,fi,rfl,hp,hl,q⟩;refine⟨_,(eE (eK (eC kz (iU (K:=K) Y0) (eD (Ae ZZ) hr (A1 Y1))))),?_⟩;exact⟨(),p,aB,dx,_,(),hp,ZZ.a3.cl,ZZ.bg,rfl,(),(),hl.1,(()),q⟩
theorem Gn:DfMD P w K mg base aE "__init__" 1 ["self","back"] (NY K aE) [.int 0]:=by
 refine ZZ.cz.dfs Xe (by trivial) ?_;rintro _ _ _ _ s H _ Q E hr⟨p,dx,m,rfl,hp,q⟩;refine⟨_,(eE (iY Y0 Y1)),?_⟩;exact⟨(),(),p,aE,dx,[],rfl,hp,ZZ.a4.cl,ZZ.a7,(by show 0<1000;decide),q⟩
theorem ON:Dm P w mg base ZZ.eo 1 (MB K aE):=by
 refine ZZ.eo.dfs arP (by trivial) ?_;rintro _ _ _ _ s H _ Q E hr⟨p,dx,b,l,fi,rfl,hp,hb,hl,q⟩;refine⟨_,(eG (fA (fB Bq (iU (K:=K) Y0) Y1) (eE (eK eI)) fC) (eE (eK (eC j5 eI (eC gB Y1 (iU (K:=K) Y0)))))),?_⟩;extract_lets;refine⟨(),p,aE,dx,_,(),hp,ZZ.a4.cl,ZZ.a7,rfl,(),(()),(),hW (λc=>?_) (λc=>?_)⟩
 ·have e:mh b l=0:=by unfold mh;rw[if_pos c]
  rw[e] at q;exact q
 ·have e:mh b l=1*2^(l-b).toNat:=by unfold mh;rw[if_neg c]
  rw[e] at q;have:=hl.1.2;exact⟨(),(),p,aE,dx,_,(),hp,ZZ.a4.cl,ZZ.a7,rfl,(()),(()),⟨⋯,⋯,by decide⟩,q⟩
theorem WU:Dm P w mg base ZZ.c0 1 (Zr K aF):=by
 refine ZZ.c0.dfs Sn (by trivial) ?_;rintro _ _ _ _ s H _ Q E hr⟨p,dx,m,rfl,hp,q⟩;refine⟨_,(eE (iY Y0 Y1)),?_⟩;exact⟨(),(),p,aF,dx,[],rfl,hp,ZZ.ba.cl,ZZ.bb,(by show 0<1000;decide),q⟩
theorem UY:Dm P w mg base ZZ.ep 3 (P4 K aF):=by
 refine ZZ.ep.dfs WL (by trivial) ?_;rintro _ _ _ _ s H _ Q E hr⟨p,dx,d,l,fi,rfl,hp,ok,q⟩;refine⟨_,(eG (fA (fB km (iU (K:=K) Y0) Y1) (eE (eK eI)) fC) (eE (eK (eC j5 eI (eD (FY ZZ) hr (A3 (iU (K:=K) Y0) Y1 Y2)))))),?_⟩;extract_lets;refine⟨(),p,aF,dx,_,(),hp,ZZ.ba.cl,ZZ.bb,rfl,(),(()),(),hW (λc=>?_) (λc=>?_)⟩
 ·have e:mG d l fi=0:=by unfold mG;rw[if_pos c]
  rw[e] at q;exact q
 ·have e:mG d l fi=1*2^(nw d l fi).toNat:=by unfold mG;rw[if_neg c]
  rw[e] at q;have hn:=FE ok ⋯;exact⟨(),p,aF,dx,_,(),hp,ZZ.ba.cl,ZZ.bb,rfl,(),(),_,_,(),(()),⟨⋯,⋯,by decide⟩,q⟩
theorem Om:Dm P w mg base ZZ.c1 3 (Wt K aI):=by
 refine ZZ.c1.dfs NX (by trivial) ?_;rintro _ _ _ _ s H _ Q E hr⟨p,dx,l,fi,rfl,hp,ok,q⟩;refine⟨_,(eE (eK (eC j5 eI (eD (FY ZZ) hr (A3 Y1 Y1 Y2))))),?_⟩;have hn:=FE ok (bB _);exact⟨(),(),(),_,_,(),(()),⟨⋯,⋯,by decide⟩,q⟩
theorem Tt:Dm P w mg base ZZ.cl 1 (YI K aD):=by
 refine ZZ.cl.dfs MT (by trivial) ?_;rintro _ _ _ _ s H _ Q E hr⟨p,dx,m,rfl,hp,q⟩;refine⟨_,(eE (iY Y0 Y1)),?_⟩;exact⟨(),(),p,aD,dx,[],rfl,hp,ZZ.a0.cl,ZZ.bc,(by show 0<1000;decide),q⟩
theorem Md:Dm P w mg base ZZ.c2 2 (ZS K aD):=by
 refine ZZ.c2.dfs U6 (by trivial) ?_;rintro _ _ _ _ s H _ Q E hr⟨p,dx,m,l,fi,rfl,hp,hm,⟨hl,hf⟩,q⟩;refine⟨_,(eG (eU 3 eI U6.nd) (eG (jk (mL ZZ.ai (A1 eI)) (gN 4 U6.nd) (eE (eU 3 (eC kJ Y3 (eC j5 (iU (K:=K) Y0) (eC iJ eI Y4))) U6.nd)) PassesOwn.never) (eE (eK (eC kz (eC j5 (eC m8 Y3 Y2) eI) (eD (Ae ZZ) hr (A1 Y1))))))),?_⟩;extract_lets;have hb:=MZ m (GP hm.1 hm.2);refine⟨(),by decide,by decide,vn (λi σ H2=>H2=H/\∃u:Option V,σ=[some (.ref p),some (.int l),some (.int fi),some (.int (pI m i)),u]) ⟨rfl,()⟩ ?_ ?_⟩
 ·rintro i σ H2 hi ⟨rfl,u,rfl⟩;have hi':i<6:=hi;exact⟨(),(),p,aD,dx,_,(),hp,ZZ.a0.cl,ZZ.bc,rfl,(),(()),.inl ⟨by decide,by decide⟩,(()),⟨⋯,⋯,(by show m.natAbs<2^64;omega)⟩,(()),rfl,()⟩
 ·rintro σ H2 ⟨rfl,u,rfl⟩;exact⟨(),(),(()),hf.1,(()),⟨by decide,by decide,hb.2 fi (nA hf.1 hf.2)⟩,(),(),hl,(()),q⟩
theorem OQ:Dm P w mg base ZZ.dc 1 (Me K aA):=by
 refine ZZ.dc.dfs Ld (by trivial) ?_;rintro _ _ _ _ s H _ Q E hr⟨p,dx,wd,m,rfl,hp,q⟩;refine⟨_,(eG (iY Y0 Y1) (eE (iY Y0 Y2))),?_⟩;extract_lets;exact⟨(),(),p,aA,dx,[],rfl,hp,ZZ.bd.cl,ZZ.bp,(by show 0<1000;decide),(),(),p,aA,dx,(),eF,ZZ.bd.cl,ZZ.cd,(by show 1<1000;decide),q⟩
theorem Zp:Dm P w mg base ZZ.fb 2 (L3 K aA):=by
 refine ZZ.fb.dfs U2 (by trivial) ?_;rintro _ _ _ _ s H _ Q E hr⟨p,dx,wd,m,l,fi,rfl,hp,hw,hm,⟨hl,hf⟩,q⟩;refine⟨_,(eG (eU 3 (eC fK (eD (Vn ZZ) hr (A2 (iU (K:=K) Y0) Y2)) (eC iJ eI (eC gB (iU (K:=K) Y0) eI))) U2.nd) (eG (fA (fB km Y3 Y1) (eE (eK eI)) fC) (eE (eK (eC j5 eI Y3))))),?_⟩;extract_lets;have hn:=TJ l (rY hl.1 hl.2) fi (nA hf.1 hf.2) wd (nA hw.1 hw.2) m (Da hm.1 hm.2)
 refine⟨(),p,aA,dx,_,(),hp,ZZ.bd.cl,ZZ.bp,Lj _ _,(),_,(),(),p,aA,dx,_,(),hp,ZZ.bd.cl,ZZ.cd,Os _ _,(()),(()),.inl ⟨by decide,by decide⟩,(()),?_⟩;refine⟨(),(),(()),(),hW (λc=>?_) (λc=>?_)⟩
 ·have e:lj wd m l fi=0:=by unfold lj;rw[if_pos (show l<m7 wd m fi from c)]
  rw[e] at q;exact q
 ·have e:lj wd m l fi=1*2^(m7 wd m fi).toNat:=by unfold lj;rw[if_neg (show ¬l<m7 wd m fi from c)]
  rw[e] at q;exact⟨(),(()),⟨hn.2.2.1,Int.le_trans hn.2.2.2 (by decide),by decide⟩,q⟩
theorem agG:Dm P w mg base ZZ.cr 1 (af8 K aH):=by
 refine ZZ.cr.dfs Yw (by trivial) ?_;rintro _ _ _ _ s H _ Q E hr⟨p,dx,m,rfl,hp,q⟩;refine⟨_,(eE (iY Y0 Y1)),?_⟩;exact⟨(),(),p,aH,dx,[],rfl,hp,ZZ.a5.cl,ZZ.a6,(by show 0<1000;decide),q⟩
theorem Pz:Dm P w mg base ZZ.dd 2 (Zo K aH):=by
 refine ZZ.dd.dfs amQ (by trivial) ?_;rintro _ _ _ _ s H _ Q E hr⟨p,dx,wd,l,fi,rfl,hp,hw,⟨hl,hf⟩,q⟩;refine⟨_,(eE (eK (eC j5 eI (eC gB Y1 (eC g6 (eC gB (eD (Jk ZZ) hr (A2 Y1 Y2)) (iU (K:=K) Y0)) eI))))),?_⟩;have hn:=XS l (rY hl.1 hl.2) fi (nA hf.1 hf.2) wd (nA hw.1 hw.2);exact⟨(),(),(),_,(),(),p,aH,dx,_,(),hp,ZZ.a5.cl,ZZ.a6,rfl,(()),(()),(by show (0:Int)<7;decide),(()),(()),⟨hn.2.1,Int.le_trans hn.2.2 (by decide),by decide⟩,q⟩
theorem av3:Dx P w base ZZ.fc 4 (N4 K aB aE aF aI aD aA aH aJ):=by
 refine ZZ.fc.dfs Uk (by trivial) ?_;rintro _ _ _ _ s H _ Q E hr⟨b,ps,ks,l,fi,rfl,hB,fM,oM,hlf,q⟩;refine⟨_,(eG (eU 3 eI Uk.nd) (eG (jk (kN (K:=K) Y0) (gN 4 Uk.nd) (eE (eU 3 (eC kJ Y3 (kR (ip ZZ.a3.cl (Wn ZZ) hr Y4 (A2 Y1 Y2)) (kR (ip ZZ.a4.cl (ON ZZ) hr Y4 (A2 Y1 Y2)) (kR (ip ZZ.ba.cl (UY ZZ) hr Y4 (A2 Y1 Y2)) (kR (ip ZZ.cc.cl (Om ZZ) hr Y4 (A2 Y1 Y2)) (kR (ip ZZ.a0.cl (Md ZZ) hr Y4 (A2 Y1 Y2)) (kR (ip ZZ.bd.cl (Zp ZZ) hr Y4 (A2 Y1 Y2)) (kR (ip ZZ.a5.cl (Pz ZZ) hr Y4 (A2 Y1 Y2)) (ip ZZ.gf.cl (Pm ZZ) hr Y4 (A2 Y1 Y2)))))))))) Uk.nd)) PassesOwn.never) (eE (eK Y3)))),?_⟩
 extract_lets;refine⟨(),b,rfl,⟨_,hB⟩,mw (K:=K) (a:=b) (xs:=ps.map V.ref) (λi σ H2=>H2=H/\∃u4:Option V,σ=[some (.ref b),some (.int l),some (.int fi),some (.int (ll (ks.take i) l fi)),u4]) ⟨rfl,()⟩ (λi σ H2 _ hP=>by rw[hP.1];exact hB) ?turn ?done⟩
 case done=>
  rintro σ H2 ⟨rfl,u4,rfl⟩;have el:(ps.map V.ref).length=ks.length:=by rw[aY];exact Paired.length fM
  rw[el,bN];exact⟨(),q⟩
 case turn=>
  rintro i x σ H2 hx ⟨rfl,u4,rfl⟩;rw[bI] at hx;cases ez:ps[i]? with
  |none=>rw[ez] at hx;cases hx
  |some p=>
   rw[ez] at hx;obtain rfl:V.ref p=x:=bG hx;obtain⟨k,ek,hk⟩:=Ft.get fM ez;have hok:=oM k (bR ek);have et:ll (ks.take (i+1)) l fi=Builtin.bitOr (ll (ks.take i) l fi) (k.due l fi):=by
    rw[bL,ek];exact aB1 _ _ _ _
   rw[et];cases k with
   |num m=>
    obtain⟨dx,hp⟩:=hk;exact⟨(),(.inl ⟨(),p,dx,(),hp,rfl,(),(),p,dx,m,l,fi,rfl,hp,hlf,(()),rfl,()⟩)⟩
   |lst b=>
    obtain⟨dx,hp⟩:=hk;exact⟨(),(.inr (.inl ⟨(),p,dx,(),hp,rfl,(),(),p,dx,b,l,fi,rfl,hp,hok,hlf,(()),rfl,()⟩))⟩
   |nea d=>
    obtain⟨dx,hp⟩:=hk;exact⟨(),(.inr (.inr (.inl ⟨(),p,dx,(),hp,rfl,(),(),p,dx,d,l,fi,rfl,hp,⟨hok,hlf⟩,(()),rfl,()⟩)))⟩
   |wrk=>
    obtain⟨dx,hp⟩:=hk;exact⟨(),(.inr (.inr (.inr (.inl ⟨(),p,dx,(),hp,rfl,(),(),p,dx,l,fi,rfl,hp,hlf.last,(()),rfl,()⟩))))⟩
   |wkd m=>
    obtain⟨dx,hp⟩:=hk;exact⟨(),(.inr (.inr (.inr (.inr (.inl ⟨(),p,dx,(),hp,rfl,(),(),p,dx,m,l,fi,rfl,hp,hok,hlf,(()),rfl,()⟩)))))⟩
   |nth w m=>
    obtain⟨dx,hp⟩:=hk;exact⟨(),(.inr (.inr (.inr (.inr (.inr (.inl ⟨(),p,dx,(),hp,aFE _ _,(),(),p,dx,w,m,l,fi,rfl,hp,hok.1,hok.2,hlf,(()),rfl,()⟩))))))⟩
   |one w=>
    obtain⟨dx,hp⟩:=hk;exact⟨(),(.inr (.inr (.inr (.inr (.inr (.inr (.inl ⟨(),p,dx,(),hp,rfl,(),(),p,dx,w,l,fi,rfl,hp,hok,hlf,(()),rfl,()⟩)))))))⟩
   |nil=>
    obtain⟨dx,hp⟩:=hk;exact⟨(),(.inr (.inr (.inr (.inr (.inr (.inr (.inr ⟨(),p,dx,(),hp,rfl,(),(),p,l,fi,rfl,(()),rfl,()⟩)))))))⟩
theorem Ry:Dx P w base ZZ.c3 4 (O9 K aB aE aF aI aD aA aH aJ):=by
 refine ZZ.c3.dfs UC (by trivial) ?_;rintro _ _ _ _ s H _ Q E hr⟨t,rfl,hl,q⟩;refine⟨_,(eG (fA (fB gw Y0 (eZ [76])) (eE (eK (zC ZZ.a4 (Gn ZZ) hr))) fC) (eG (fA (fB gw Y0 (eZ [76,87])) (eE (eK (BG ZZ.cc ZZ.ez))) fC) (eG (fA (gW (Dg Y0 (eZ [76,45]))) (eG (eU 1 (eD (ot ZZ) hr (A3 (ju yy Y0 (iN eI) jE) eI (fN (v:=.int 30) ZZ.ei ⟨()⟩))) UC.nd) (eE (eK (lG (fB jB Y1 eN) eN (jN ZZ.a4 (Gn ZZ).dfm hr (A1 Y1)))))) fC) (eG (fA (gW (IU Y0 (eZ [87]))) (eG (eU 2 (eD (ot ZZ) hr (A3 (ju yy Y0 jE (iN (kQ lF eI))) eI (fN (v:=.int 31) ZZ.ce ⟨()⟩))) UC.nd) (eE (eK (lG (fB jB Y2 eN) eN (jN ZZ.ba (WU ZZ) hr (A1 Y2)))))) fC) (eE (eK eN)))))),?_⟩
 extract_lets;have hz:t.length<=sizeLine:=by rw[dN];omega
 have hc1:=qM t (some 2) none;have hc2:=qM t none (some (-1));refine⟨(),rfl,(),lx (λc=>?a0) (λc1=>⟨(),rfl,(),lx (λc=>?a1) (λc2=>⟨(),rfl,t,[76,45],rfl,rfl,(),hW (λc=>?a2) (λc3=>⟨(),rfl,t,87,rfl,rfl,(),hW (λc=>?a3) (λc4=>?a4)⟩)⟩)⟩)⟩
 case a0=>
  have e:jX t=some (.lst 0):=by unfold jX;rw[if_pos c]
  rw[e] at q;exact λxo dx nx ndx nex=>⟨xo,dx,0,rfl,eF,rfl,q _ _ (nh nx ndx) ⟨xo,rfl,dx,eF⟩⟩
 case a1=>
  have e:jX t=some .wrk:=by unfold jX;rw[if_neg c1,if_pos c]
  rw[e] at q;exact λxo dx nx ndx nex=>q _ _ (kY nx ndx) ⟨xo,rfl,dx,eF⟩
 case a2=>
  have e:jX t=(gL 1 30 (jA t (some 2) none)).map Mk.lst:=by unfold jX;rw[if_neg c1,if_neg c2,if_pos c]
  rw[e] at q;refine⟨(),(),t,rfl,hz,_,1,30,rfl,⋯,λH1 s1=>?_⟩;cases en:gL 1 30 (jA t (some 2) none) with
  |none=>
   rw[en] at q;exact⟨(),rfl,(),kf rfl (q _ _ s1 rfl)⟩
  |some b=>
   rw[en] at q;exact⟨(),rfl,(),iQ rfl ⟨(),λxo dx nx ndx nex=>⟨xo,dx,(),eF,rfl,q _ _ (s1.trans (nh nx ndx)) ⟨xo,rfl,dx,eF⟩⟩⟩⟩
 case a3=>
  have e:jX t=(gL 1 31 (jA t none (some (-1)))).map Mk.nea:=by unfold jX;rw[if_neg c1,if_neg c2,if_neg c3,if_pos c]
  rw[e] at q;refine⟨(),(),(),t,rfl,hz,_,1,31,rfl,⋯,λH1 s1=>?_⟩;cases en:gL 1 31 (jA t none (some (-1))) with
  |none=>
   rw[en] at q;exact⟨(),rfl,(),kf rfl (q _ _ s1 rfl)⟩
  |some b=>
   rw[en] at q;exact⟨(),rfl,(),iQ rfl ⟨(),λxo dx nx ndx nex=>⟨xo,dx,(),eF,rfl,q _ _ (s1.trans (nh nx ndx)) ⟨xo,rfl,dx,eF⟩⟩⟩⟩
 case a4=>
  have e:jX t=none:=by unfold jX;rw[if_neg c1,if_neg c2,if_neg c3,if_neg c4]
  rw[e] at q;exact q _ _ (Same.refl H) rfl
theorem Ew:Dx P w base ZZ.de 4 (Lz K):=by
 refine ZZ.de.dfs UL (by trivial) ?_;rintro _ _ _ _ s H _ Q E hr⟨t,rfl,hl,q⟩;refine⟨_,(eG (eU 1 (eD (ot ZZ) hr (A3 Y0 eI (fN (v:=.int 7) ZZ.aw ⟨()⟩))) UL.nd) (eE (eK (lG (fB gw Y1 (fN (v:=.int 7) ZZ.aw ⟨()⟩)) (fN (v:=.int 0) ZZ.cu ⟨()⟩) Y1)))),?_⟩;extract_lets;refine⟨(),t,0,7,rfl,⋯,λH1 s1=>?_⟩;cases en:gL 0 7 t with
 |none=>
  have e:kD t=none:=by unfold kD;rw[en];rfl
  rw[e] at q;exact⟨(),rfl,(),iQ (dU λz=>nomatch z) ⟨(),q _ s1⟩⟩
 |some n=>
  have e:kD t=some (if n=7 then 0 else n):=by unfold kD;rw[en];rfl
  rw[e] at q;refine⟨(),rfl,(),gV (λc=>?_) (λc=>⟨(),?_⟩)⟩
  ·rw[if_pos c] at q;exact q _ s1
  ·rw[if_neg c] at q;exact q _ s1
theorem VN:Dx P w base ZZ.cm 5 (TF K aB aE aF aI aD aA aH aJ):=by
 refine ZZ.cm.dfs UM (by trivial) ?_;rintro _ _ _ _ s H _ Q E hr⟨t,rfl,hl,q⟩;refine⟨_,(eG (fA (gW (IU Y0 (eZ [76]))) (eG (eU 1 (eD (Ew ZZ) hr (A1 (ju yy Y0 jE (iN (kQ lF eI))))) UM.nd) (eE (eK (lG (fB jB Y1 eN) eN (jN ZZ.a5 (agG ZZ) hr (A1 Y1)))))) fC) (eG (eU 2 (n8 Y0 (eZ [35])) UM.nd) (eG (fA (fB ox (gS (kO (K:=K)) ZZ.am PySem.boot_len (A1 Y2)) eI) (eE (eK eN)) fC) (eG (eU 1 (eD (Ew ZZ) hr (A1 (eV (fR (K:=K)) Y2 eI))) UM.nd) (eG (eU 3 (eD (ot ZZ) hr (A3 (eV (fR (K:=K)) Y2 eI) eI (fN (v:=.int 5) ZZ.e1 ⟨()⟩))) UM.nd) (eG (fA (tW (j6 (fB jB Y1 eN) (ke (fB jB Y3 eN)))) (eE (eK eN)) fC) (eE (eK (jN ZZ.bd (OQ ZZ) hr (A2 Y1 Y3)))))))))),?_⟩
 extract_lets;have hz:t.length<=sizeLine:=by rw[dN];omega
 have hc2:=qM t none (some (-1));have hsl:=pZ 35 t;have hml:=nK 35 t;refine⟨(),rfl,t,76,rfl,rfl,(),hW (λc=>?a0) (λc1=>?a1)⟩
 case a0=>
  have e:l9 t=(kD (jA t none (some (-1)))).map Mk.one:=by unfold l9;rw[if_pos c]
  rw[e] at q;refine⟨(),(),(),t,rfl,hz,(),⋯,λH1 s1=>?_⟩;cases en:kD (jA t none (some (-1))) with
  |none=>
   rw[en] at q;exact⟨(),rfl,(),kf rfl (q _ _ s1 rfl)⟩
  |some b=>
   rw[en] at q;exact⟨(),rfl,(),iQ rfl ⟨(),λxo dx nx ndx nex=>⟨xo,dx,(),eF,rfl,q _ _ (s1.trans (nh nx ndx)) ⟨xo,rfl,dx,eF⟩⟩⟩⟩
 case a1=>
  refine⟨(),rfl,t,35,rfl,rfl,(by rw[dN];omega),λps hps=>?_⟩;have s0:=eJ hps (.lst ((eY 35 t).map λq=>V.str (Tx q)));refine⟨(),ps,(),.inl (SqL.of eF),rfl,(),?_⟩;have two:(∃a b,eY 35 t=[a,b])∨(∀a b,eY 35 t≠[a,b]):=by
   by_cases z:∃a b,eY 35 t=[a,b]
   ·exact .inl z
   ·exact .inr λr s e=>z ⟨r,s,e⟩
  rcases two with ⟨a,b,e2⟩ | hno
  ·have e:l9 t=Je (kD a) (gL 1 5 b):=by unfold l9;rw[if_neg c1,e2]
   rw[e] at q;have h1:=hml a (by rw[e2];simp);have h2:=hml b (by rw[e2];simp);rw[e2];refine iQ rfl ⟨(),ps,_,(()),SqL.of eF,rfl,a,rfl,⋯,λH1 s1=>?_⟩;refine⟨(),ps,_,(()),SqL.of (s1 _ _ eF),rfl,b,1,5,rfl,⋯,λH2 s2=>?_⟩;rw[e2] at s0;cases ew:kD a with
   |none=>
    rw[ew] at q;exact⟨(),rfl,(),kf rfl (q _ _ (s0.trans (s1.trans s2)) rfl)⟩
   |some wd=>
    rw[ew] at q;refine⟨(),rfl,(),iQ rfl ⟨(),rfl,(),?_⟩⟩;cases en:gL 1 5 b with
    |none=>
     rw[en] at q;exact kf rfl (q _ _ (s0.trans (s1.trans s2)) rfl)
    |some m=>
     rw[en] at q;exact iQ rfl ⟨(),(),λxo dx nx ndx nex=>⟨xo,dx,_,(),eF,rfl,q _ _ (s0.trans (s1.trans (s2.trans (LV nx ndx)))) ⟨xo,rfl,dx,eF⟩⟩⟩
  ·have hlen:¬(eY 35 t).length=2:=λe=>by
    match h:eY 35 t,e with
    |[r,s],_=>exact hno r s h
   have e:l9 t=none:=by
    unfold l9;rw[if_neg c1];split
    ·rename_i a b h;exact absurd h (hno a b)
    ·rfl
   rw[e] at q;refine kf ?_ (q _ _ s0 rfl);rw[dU λz=>hlen (by have z:=V.int.inj z;rw[aY] at z;omega)];rfl
theorem JT:Dx P w base ZZ.eb 7 (Vd K aB aE aF aI aD aA aH aJ aU aV):=by
 refine ZZ.eb.dfs UG (by trivial) ?_;rintro _ _ _ _ s H _ Q E hr⟨l,lo,hi,wk,rfl,hb,hok,q⟩;refine⟨_,(eG (fA (tW (j6 (iu (gW (gS pk ZZ.ac PyProof.Rows.boot_isinstance (A2 Y0 (l6 ZZ.aj PyProof.Rows.boot_str))))) (ke (fB km (gS uH ZZ.am PySem.boot_len (A1 Y0)) (fN (v:=.int 300) ZZ.bv ⟨()⟩))))) (eE jV) fC) (eG (eU 4 (n8 Y0 (eZ [44])) UG.nd) (eG (eU 5 eI UG.nd) (eG (eU 6 (gD aN) UG.nd) (eG (jk (iE ZZ.az (ju (kK (K:=K)) Y4 jE (iN (fN (v:=.int 40) ZZ.av ⟨()⟩)))) (mD (K:=K) (iz (gN 7 UG.nd) (iz (gN 8 UG.nd) k8))) (eG (eU 9 (eD (KY ZZ) hr (A3 Y8 Y1 Y2)) UG.nd) (eE (fA (fB jB Y9 eN) (eG (eU 10 (kR (JS ((Ry ZZ).at_ ZZ.bf) hr Y3 (A1 Y8)) (JS ((VN ZZ).at_ ZZ.a2) hr Y3 (A1 Y8))) UG.nd) (eG (fA (tW (j6 (fB jB (v_ 10) eN) (ke (fB gw (gS (kO (K:=K)) ZZ.am PySem.boot_len (A1 Y6)) (fN (v:=.int 20) ZZ.d0 ⟨()⟩))))) (eE jV) fC) (eE (li (oo Y6 (v_ 10)))))) (eE (eU 5 (eC kJ Y5 Y9) UG.nd))))) PassesOwn.never) (eG (fA (fB km (gS (kO (K:=K)) ZZ.am PySem.boot_len (A1 Y4)) (fN (v:=.int 40) ZZ.av ⟨()⟩)) (eE jV) fC) (eE (eK (ix (A2 Y5 Y6)))))))))),?_⟩
 extract_lets;have hl:=hok.len;have hml:=nK 44 l;refine⟨(),_,.str,.str,rfl,(by decide),rfl,(),iQ rfl ⟨(),l,rfl,(by rw[dN];omega),(()),(),?_⟩⟩;rw[dU (show ¬(300:Int)<((l.length:Nat):Int) by omega)];refine fW ⟨(),rfl,l,44,rfl,rfl,(by rw[dN];omega),λps hps=>?_⟩;have s0:=eJ hps (.lst ((eY 44 l).map λq=>V.str (Tx q)));refine⟨(zL 0),λmk hmk=>?_⟩;have s1:=eJ hmk (.lst []);refine⟨(),(),ps,(),SqL.of (s1 _ _ eF),λpc hpc=>?_⟩
 have ecut:jR ((eY 44 l).map λq=>V.str (Tx q)) none (some 40)=(eY 44 l).map λq=>V.str (Tx q):=Hm (by rw[aY];exact hok.few);rw[ecut];have hne:pc≠mk:=λe=>by
  rw[e,eF] at hpc;cases hpc
 have s1b:=eJ hpc (.lst ((eY 44 l).map λq=>V.str (Tx q)));refine⟨pc,rfl,⟨_,SqL.of eF⟩,xh (K:=K) (a:=pc) (xs:=(eY 44 l).map λq=>V.str (Tx q)) (λi σ H2=>∃(u1 u2 u3 u4:Option V) (qs:List Addr),σ=[some (.str (Tx l)),some (.int lo),some (.int hi),some (.ref (if wk=true then aV else aU)),some (.ref ps),some (.int (gM (hG lo hi ((eY 44 l).take i)))),some (.ref mk),u1,u2,u3,u4]/\Same (upd H ps (.lst ((eY 44 l).map λq=>V.str (Tx q)))) H2/\H2 pc=some (.lst ((eY 44 l).map λq=>V.str (Tx q)))/\H2 mk=some (.lst (qs.map V.ref))/\Ft (MkAt (⟨aB,aE,aF,aI,aD,aA,aH,aJ⟩:Cs) H2) qs (iq wk lo hi ((eY 44 l).take i))) ⟨_,_,_,_,[],rfl,s1.trans s1b,eF,s1b _ _ eF,.nil⟩ (λi σ H2 _ ⟨_,_,_,_,_,_,_,h,_⟩=>SqL.of h) ?turn ?done⟩
 case turn=>
  rintro i x σ H2 T hx ⟨u1,u2,u3,u4,qs,rfl,s2,h2c,h2m,hq⟩ hT;rw[bI] at hx;cases ew:(eY 44 l)[i]? with
  |none=>rw[ew] at hx;cases hx
  |some w0=>
   rw[ew] at hx;obtain rfl:V.str (Tx w0)=x:=bG hx;have hw:=hml w0 (bR ew);refine⟨T,(),SqT.of eF,rfl,_,(),(()),?_⟩;refine⟨(),(),(),w0,lo,hi,rfl,⋯,hb,λH3 s3=>?_⟩;cases em:gJ lo hi w0 with
   |some m=>
    have et:(eY 44 l).take (i+1)=(eY 44 l).take i++[w0]:=by rw[bL,ew];rfl
    have s23:=(eJ hT _).trans s3;refine⟨(),rfl,(),iQ rfl ⟨(),(),(()),?_⟩⟩;exact⟨_,_,_,_,qs,by rw[et,ND em,pA];rfl,s2.trans s23,s23 _ _ h2c,s23 _ _ h2m,by rw[et,TM em];exact hq.keepM s23.keep⟩
   |none=>
    cases wk with
    |false=>
     have hso:(jP false w0).isSome=true:=by
      rcases hok.all w0 (bR ew) with h | h
      ·rw[em] at h;cases h
      ·exact h
     obtain⟨k,ek⟩:=c6.mp hso;have ek':jX w0=some k:=ek;refine⟨(),rfl,(),kf rfl ?_⟩;refine .inl ⟨(),rfl,(),w0,rfl,⋯,λv H4 s4 hv=>?_⟩;rw[ek'] at hv;obtain⟨x,rfl,hx⟩:=hv;have s24:=(eJ hT _).trans (s3.trans s4);have hq4:=hq.keepM s24.keep;have lq:qs.length=(iq false lo hi ((eY 44 l).take i)).length:=Paired.length hq;have l1:=K3 false lo hi (eY 44 l) (i+1);have et:(eY 44 l).take (i+1)=(eY 44 l).take i++[w0]:=by rw[bL,ew];rfl
     rw[et,qv em ek,a8,b9] at l1;have hm20:=hok.most;refine⟨(),rfl,(),iQ rfl ⟨(),mk,(),.inl (SqL.of (s24 _ _ h2m)),rfl,(),?_⟩⟩;refine gV (λc=>?_) (λc=>?_)
     ·rw[aY] at c;omega
     refine⟨(),.inl ⟨rfl,_,SqL.of (s24 _ _ h2m)⟩,(),mk,(()),s24 _ _ h2m,(by rw[aY,dN];omega),?_⟩;have kp:=rD (l':=qs.map V.ref++[.ref x]) (s24 _ _ h2m);exact⟨_,_,_,_,qs++[x],by rw[et,E4 em];rfl,kA hmk (s2.trans s24),by rw[eW hne];exact s24 _ _ h2c,by rw[bA];exact eF,by rw[et,qv em ek];exact Ft.app (hq4.keepM kp) (.cons (hx.keep kp) .nil)⟩
    |true=>
     have hso:(jP true w0).isSome=true:=by
      rcases hok.all w0 (bR ew) with h | h
      ·rw[em] at h;cases h
      ·exact h
     obtain⟨k,ek⟩:=c6.mp hso;have ek':l9 w0=some k:=ek;refine⟨(),rfl,(),kf rfl ?_⟩;refine .inr ⟨(),rfl,(),w0,rfl,⋯,λv H4 s4 hv=>?_⟩;rw[ek'] at hv;obtain⟨x,rfl,hx⟩:=hv;have s24:=(eJ hT _).trans (s3.trans s4);have hq4:=hq.keepM s24.keep;have lq:qs.length=(iq true lo hi ((eY 44 l).take i)).length:=Paired.length hq;have l1:=K3 true lo hi (eY 44 l) (i+1);have et:(eY 44 l).take (i+1)=(eY 44 l).take i++[w0]:=by rw[bL,ew];rfl
     rw[et,qv em ek,a8,b9] at l1;have hm20:=hok.most;refine⟨(),rfl,(),iQ rfl ⟨(),mk,(),.inl (SqL.of (s24 _ _ h2m)),rfl,(),?_⟩⟩;refine gV (λc=>?_) (λc=>?_)
     ·rw[aY] at c;omega
     refine⟨(),.inl ⟨rfl,_,SqL.of (s24 _ _ h2m)⟩,(),mk,(()),s24 _ _ h2m,(by rw[aY,dN];omega),?_⟩;have kp:=rD (l':=qs.map V.ref++[.ref x]) (s24 _ _ h2m);exact⟨_,_,_,_,qs++[x],by rw[et,E4 em];rfl,kA hmk (s2.trans s24),by rw[eW hne];exact s24 _ _ h2c,by rw[bA];exact eF,by rw[et,qv em ek];exact Ft.app (hq4.keepM kp) (.cons (hx.keep kp) .nil)⟩
 case done=>
  rintro σ H2 ⟨u1,u2,u3,u4,qs,rfl,s2,h2c,h2m,hq⟩;refine⟨(),ps,(),.inl (SqL.of (s2 _ _ eF)),(()),(),?_⟩;have hfew:=hok.few;rw[dU (show ¬(40:Int)<((((eY 44 l).map λq=>V.str (Tx q)).length:Nat):Int) by rw[aY];omega)];rw[aY,bN] at hq ⊢;refine fW ⟨(),(),(zL 2),λp hp=>?_⟩;have s3:=eJ hp (.tup [.int (gM (hG lo hi (eY 44 l))),.ref mk]);exact q p mk qs _ (none_of s0 hmk) (s0.trans (s2.trans s3)) eF (s3 _ _ h2m) (hq.keepM s3.keep)
theorem Sy:Dx P w base ZZ.eq 8 (RH K aB aE aF aI aD aA aH aJ):=by
 refine ZZ.eq.dfs UD (by trivial) ?_;rintro _ _ _ _ s H _ Q E hr⟨l,rfl,hok,q1,q2⟩;refine⟨_,(eG (eU 1 (eD (JT ZZ) hr (aC Y0 (A3 eI (fN (v:=.int 31) ZZ.ce ⟨()⟩) (fN (v:=.ref aU) ZZ.bf rfl)))) UD.nd) (eG (fA (fB gw Y0 (eZ [42])) (eE (eK eN)) fC) (eG (fA (fB gw (eV (gx (K:=K)) Y1 eI) eI) (eE (eK (eV (gx (K:=K)) Y1 eI))) fC) (eE (eK (eC Hf (gD (A1 (jN ZZ.a3 (af9 ZZ) hr (A1 (eV (gx (K:=K)) Y1 eI))))) (eV (gx (K:=K)) Y1 eI))))))),?_⟩
 extract_lets;refine⟨(),l,1,31,false,rfl,⟨by decide,by decide,by decide⟩,hok,λp m qs H1 hmn s1 hp hm hq=>?_⟩;have lq:qs.length<=20:=by
  have:=Paired.length hq;have:=hok.most;omega
 refine⟨(),rfl,(),lx (λc=>q1 c _ s1) (λc=>?_)⟩;have q2:=q2 c;unfold ni at q2;generalize iq false 1 31 (eY 44 l)=ms at hq q2;generalize gM (hG 1 31 (eY 44 l))=M at hp q2;refine⟨(),p,_,(()),SqT.of hp,rfl,rfl,(),gV (λc0=>⟨(),p,_,(()),SqT.of hp,rfl,q2 m qs _ hmn s1 hm ?_⟩) (λc0=>?_)⟩
 ·have e:kW false M=[]:=by unfold kW;rw[if_pos c0]
  rw[e];exact hq
 have e:kW false M=[.num M]:=by unfold kW;rw[if_neg c0];rfl
 rw[e] at q2;refine⟨(),p,_,(()),SqT.of hp,rfl,λxo dx nx ndx nex=>⟨xo,dx,(),eF,rfl,(zL 1),λl1 hl1=>?_⟩⟩;have n1:Same H1 (upd (upd (upd H1 dx (.own xo)) xo (.ins aB dx [])) xo (.ins aB dx [("mask",.int M)])):=nh nx ndx;have n2:=n1.trans (eJ hl1 (.lst [.ref xo]));refine⟨(),p,_,(()),SqT.of (n2 _ _ hp),rfl,l1,m,(()),eF,n2 _ _ hm,(by rw[aY,dN];show 1+_<=_;omega),λl2 hl2=>?_⟩;have n3:=n2.trans (eJ hl2 (.lst ([.ref xo]++qs.map V.ref)))
 exact q2 l2 (xo::qs) _ (none_of (s1.trans n2) hl2) (s1.trans n3) eF (.cons ⟨dx,(eJ hl2 _) _ _ ((eJ hl1 _) _ _ eF)⟩ (hq.keepM n3.keep))
theorem Rm:Dx P w base ZZ.c4 8 (O1 K aB aE aF aI aD aA aH aJ):=by
 refine ZZ.c4.dfs UN (by trivial) ?_;rintro _ _ _ _ s H _ Q E hr⟨l,rfl,hok,q1,q2⟩;refine⟨_,(eG (eU 1 (eD (JT ZZ) hr (aC Y0 (A3 eI (fN (v:=.int 7) ZZ.aw ⟨()⟩) (fN (v:=.ref aV) ZZ.a2 rfl)))) UN.nd) (eG (fA (fB gw Y0 (eZ [42])) (eE (eK eN)) fC) (eG (fA (fB gw (eV (gx (K:=K)) Y1 eI) eI) (eE (eK (eV (gx (K:=K)) Y1 eI))) fC) (eG (eU 2 (eC kz (eC kJ (eV (gx (K:=K)) Y1 eI) (eC m8 (eV (gx (K:=K)) Y1 eI) (fN (v:=.int 7) ZZ.aw ⟨()⟩))) (fN (v:=.int 127) ZZ.c8 ⟨()⟩)) UN.nd) (eE (eK (eC Hf (gD (A1 (jN ZZ.a0 (Tt ZZ) hr (A1 Y2)))) (eV (gx (K:=K)) Y1 eI)))))))),?_⟩
 extract_lets;refine⟨(),l,0,7,true,rfl,⟨by decide,by decide,by decide⟩,hok,λp m qs H1 hmn s1 hp hm hq=>?_⟩;have lq:qs.length<=20:=by
  have:=Paired.length hq;have:=hok.most;omega
 refine⟨(),rfl,(),lx (λc=>q1 c _ s1) (λc=>?_)⟩;have q2:=q2 c;unfold ni at q2;generalize iq true 0 7 (eY 44 l)=ms at hq q2;generalize gM (hG 0 7 (eY 44 l))=M at hp q2;refine⟨(),p,_,(()),SqT.of hp,rfl,rfl,(),gV (λc0=>⟨(),p,_,(()),SqT.of hp,rfl,q2 m qs _ hmn s1 hm ?_⟩) (λc0=>?_)⟩
 ·have e:kW true M=[]:=by unfold kW;rw[if_pos c0]
  rw[e];exact hq
 have e:kW true M=[.wkd (g7 M)]:=by unfold kW;rw[if_neg c0];rfl
 rw[e] at q2;refine⟨(),p,_,(()),SqT.of hp,rfl,(),p,_,(()),SqT.of hp,rfl,(()),(by show (0:Int)<=7;decide),(()),(()),?_⟩;refine⟨(),λxo dx nx ndx nex=>⟨xo,dx,(),eF,rfl,(zL 1),λl1 hl1=>?_⟩⟩;have n1:Same H1 (upd (upd (upd H1 dx (.own xo)) xo (.ins aD dx [])) xo (.ins aD dx [("mask",.int (g7 M))])):=nh nx ndx;have n2:=n1.trans (eJ hl1 (.lst [.ref xo]));refine⟨(),p,_,(()),SqT.of (n2 _ _ hp),rfl,l1,m,(()),eF,n2 _ _ hm,(by rw[aY,dN];show 1+_<=_;omega),λl2 hl2=>?_⟩
 have n3:=n2.trans (eJ hl2 (.lst ([.ref xo]++qs.map V.ref)));exact q2 l2 (xo::qs) _ (none_of (s1.trans n2) hl2) (s1.trans n3) eF (.cons ⟨dx,(eJ hl2 _) _ _ ((eJ hl1 _) _ _ eF)⟩ (hq.keepM n3.keep))
theorem n6:Dx P w base ZZ.fd 3 (Vk K):=by
 refine ZZ.fd.dfs Uw (by trivial) ?_;rintro _ _ _ _ s H _ Q E hr⟨k,rfl,hk,q⟩;refine⟨_,(eG (eU 1 (eC jy Y0 eI) Uw.nd) (eG (eU 2 (eC g6 Y0 eI) Uw.nd) (eG (fA (fB gw Y1 (fN (v:=.int 12) ZZ.bu ⟨()⟩)) (eE (eK (ix (A3 eI (fN (v:=.int 29) ZZ.ej ⟨()⟩) Y2)))) fC) (eE (eK (ix (A3 (eC fK Y1 eI) (eD (pB ZZ) hr (A2 (fN (v:=.int 1) ZZ.d1 ⟨()⟩) (eC fK Y1 eI))) Y2))))))),?_⟩;extract_lets
 refine⟨(),(()),⟨by decide,by decide⟩,?_⟩;refine⟨(),(()),(by show (0:Int)<7;decide),?_⟩;refine⟨(),rfl,(),gV (λc=>?_) (λc=>?_)⟩
 ·refine⟨(),(zL 3),λp hp=>?_⟩;exact q p _ (eJ hp _) (by unfold nv;rw[if_pos c];exact eF)
 ·refine⟨(),(()),(),(()),_,(),⟨⋯,⋯⟩,(),(zL 3),λp hp=>?_⟩;exact q p _ (eJ hp _) (by unfold nv;rw[if_neg c];exact eF)
theorem ZY:Dx P w base ZZ.fe 3 (Og K):=by
 refine ZZ.fe.dfs UP (by trivial) ?_;rintro _ _ _ _ s H _ Q E hr⟨h,m,rfl,hh,hm,q⟩;refine⟨_,(eG (eU 2 eI UP.nd) (eG (jk (kN (K:=K) (eD (MI ZZ) hr (A1 Y0))) (gN 3 UP.nd) (eE (eU 2 (eC kJ Y2 (eC j5 Y1 (eC iJ (fN (v:=.int 60) ZZ.al ⟨()⟩) Y3))) UP.nd)) PassesOwn.never) (eE (eK Y2)))),?_⟩;extract_lets;have bh:=wj hh.1 hh.2;have bm:=wj hm.1 hm.2;refine⟨(),h,rfl,⟨hh.1,⋯⟩,λp H1 s1 h1=>⟨p,rfl,⟨_,SqL.of h1⟩,mw (K:=K) (a:=p) (xs:=(mj h).map V.int) (λi σ H2=>∃(v3:Option V),σ=[some (.int h),some (.int m),some (.int (gM (((mj h).take i).map λz=>m*2^(60*z).toNat))),v3]/\Same H1 H2) ⟨(),Same.refl _⟩ (λi σ H2 _ ⟨_,_,s2⟩=>SqL.of (s2 _ _ h1)) ?turn ?done⟩⟩
 case done=>
  rintro σ H2 ⟨v3,rfl,s2⟩;rw[aY,bN];exact⟨(),q _ H2 rfl (s1.trans s2)⟩
 case turn=>
  rintro i x σ H2 hx ⟨v3,rfl,s2⟩;rw[bI] at hx;cases ez:(mj h)[i]? with
  |none=>rw[ez] at hx;cases hx
  |some z=>
   rw[ez] at hx;obtain rfl:V.int z=x:=bG hx;have et:gM (((mj h).take (i+1)).map λz=>m*2^(60*z).toNat)=Builtin.bitOr (gM (((mj h).take i).map λz=>m*2^(60*z).toNat)) (m*2^(60*z).toNat):=by rw[bL,ez,bA];exact pA _ _
   rw[et];have hz:=bR ez;rw[qi hh.1 hh.2] at hz;obtain⟨n,hn,_,rfl⟩:=flt_mem.mp hz;refine⟨(),(),(),(()),.inl ⟨by decide,by decide⟩,(()),⟨?_,?_,?_⟩,(()),?_⟩
   ·omega
   ·omega
   ·omega
   ·exact⟨(),s2⟩
theorem Vc:Dx P w base ZZ.f1 5 (WD K aB aE aF aI aD aA aH aJ):=by
 refine ZZ.f1.dfs Up (by trivial) ?_;rintro _ _ _ _ s H _ Q E hr⟨dv,wv,kd,kw,l,fi,rfl,hd,hw,hlf,q⟩;refine⟨_,(eG (fA (tW (mI (fB jB Y0 eN) (nP (fB jB Y1 eN)))) (eE (eK (eD (Ae ZZ) hr (A1 Y2)))) fC) (eG (eU 4 eI Up.nd) (eG (jk (iT (ix (A2 Y0 Y1))) (gN 5 Up.nd) (eE (fA (fB aTB Y5 eN) (eE (eU 4 (eC kJ Y4 (eD (av3 ZZ) hr (A3 Y5 Y2 Y3))) Up.nd)) fC)) PassesOwn.never) (eE (eK Y4))))),?_⟩
 extract_lets;have loop:kd.isNone=false∨kw.isNone=false->iB kd kw l fi=jO kw (jO kd 0 l fi) l fi:=λh=>by
  unfold iB;rw[if_neg];rintro⟨h1,h2⟩;rcases h with h | h
  ·rw[h] at h1;cases h1
  ·rw[h] at h2;cases h2
 cases kd with
 |none=>
  have ed:dv=.non:=hd;subst ed;cases kw with
  |none=>
   have ew:wv=.non:=hw;subst ew;refine⟨(),rfl,(),?_⟩;show if decide (V.non=V.non)=true then _ else _
   rw[dQ rfl];refine gE ⟨(),rfl,(),?_⟩;show if decide (V.non=V.non)=true then _ else _
   rw[dQ rfl];exact gE ⟨(),l,rfl,hlf.1,q H (Same.refl _)⟩
  |some kw=>
   rw[loop (.inr rfl)] at q;refine⟨(),rfl,(),?_⟩;show if decide (V.non=V.non)=true then _ else _
   rw[dQ rfl];obtain⟨pw,qw,rfl,lw,fw,ow⟩:=hw;refine gE ⟨(),rfl,(),fW ?_⟩;refine⟨(),(),(zL 2),λtt ht=>⟨tt,rfl,⟨_,SqT.of eF⟩,pQ (K:=K) (a:=tt) (xs:=[V.non,(V.ref pw)]) (λi σ H2=>∃v5:Option V,σ=[some V.non,some (V.ref pw),some (.int l),some (.int fi),some (.int (match i with | 0=>0 | 1=>jO none 0 l fi | _=>jO (some kw) (jO none 0 l fi) l fi)),v5]/\Same (upd H tt (.tup [V.non,(V.ref pw)])) H2) ⟨(),Same.refl _⟩ (λi σ H2 _ ⟨_,_,s2⟩=>SqT.of (s2 _ _ eF)) ?turn ?done⟩⟩
   case done=>
    rintro σ H2 ⟨v5,rfl,s2⟩;exact⟨(),q H2 ((eJ ht _).trans s2)⟩
   case turn=>
    rintro i x σ H2 hx ⟨v5,rfl,s2⟩;have sA:=(eJ ht (.tup [V.non,(V.ref pw)])).trans s2
    match i,hx with
    |0,hx=>
     cases hx;refine⟨(),rfl,(),?_⟩;show if (!decide (V.non=V.non))=true then _ else _
     rw[dQ rfl];exact fW ⟨(),s2⟩
    |1,hx=>
     cases hx;exact⟨(),rfl,(),gE ⟨(),(),(),(),pw,qw,kw,l,fi,rfl,SqL.of (sA _ _ lw),fw.keepM sA.keep,ow,hlf,(()),⟨(),s2⟩⟩⟩
    |i+2,hx=>cases hx
 |some kd=>
  rw[loop (.inl rfl)] at q;obtain⟨pd,qd,rfl,ld,fd,od⟩:=hd;refine⟨(),rfl,(),fW ?_⟩;cases kw with
  |none=>
   have ew:wv=.non:=hw;subst ew;refine⟨(),(),(zL 2),λtt ht=>⟨tt,rfl,⟨_,SqT.of eF⟩,pQ (K:=K) (a:=tt) (xs:=[(V.ref pd),V.non]) (λi σ H2=>∃v5:Option V,σ=[some (V.ref pd),some V.non,some (.int l),some (.int fi),some (.int (match i with | 0=>0 | 1=>jO (some kd) 0 l fi | _=>jO none (jO (some kd) 0 l fi) l fi)),v5]/\Same (upd H tt (.tup [(V.ref pd),V.non])) H2) ⟨(),Same.refl _⟩ (λi σ H2 _ ⟨_,_,s2⟩=>SqT.of (s2 _ _ eF)) ?turn ?done⟩⟩
   case done=>
    rintro σ H2 ⟨v5,rfl,s2⟩;exact⟨(),q H2 ((eJ ht _).trans s2)⟩
   case turn=>
    rintro i x σ H2 hx ⟨v5,rfl,s2⟩;have sA:=(eJ ht (.tup [(V.ref pd),V.non])).trans s2
    match i,hx with
    |0,hx=>
     cases hx;exact⟨(),rfl,(),gE ⟨(),(),(),(),pd,qd,kd,l,fi,rfl,SqL.of (sA _ _ ld),fd.keepM sA.keep,od,hlf,(()),⟨(),s2⟩⟩⟩
    |1,hx=>
     cases hx;refine⟨(),rfl,(),?_⟩;show if (!decide (V.non=V.non))=true then _ else _
     rw[dQ rfl];exact fW ⟨(),s2⟩
    |i+2,hx=>cases hx
  |some kw=>
   obtain⟨pw,qw,rfl,lw,fw,ow⟩:=hw;refine⟨(),(),(zL 2),λtt ht=>⟨tt,rfl,⟨_,SqT.of eF⟩,pQ (K:=K) (a:=tt) (xs:=[(V.ref pd),(V.ref pw)]) (λi σ H2=>∃v5:Option V,σ=[some (V.ref pd),some (V.ref pw),some (.int l),some (.int fi),some (.int (match i with | 0=>0 | 1=>jO (some kd) 0 l fi | _=>jO (some kw) (jO (some kd) 0 l fi) l fi)),v5]/\Same (upd H tt (.tup [(V.ref pd),(V.ref pw)])) H2) ⟨(),Same.refl _⟩ (λi σ H2 _ ⟨_,_,s2⟩=>SqT.of (s2 _ _ eF)) ?turn ?done⟩⟩
   case done=>
    rintro σ H2 ⟨v5,rfl,s2⟩;exact⟨(),q H2 ((eJ ht _).trans s2)⟩
   case turn=>
    rintro i x σ H2 hx ⟨v5,rfl,s2⟩;have sA:=(eJ ht (.tup [(V.ref pd),(V.ref pw)])).trans s2
    match i,hx with
    |0,hx=>
     cases hx;exact⟨(),rfl,(),gE ⟨(),(),(),(),pd,qd,kd,l,fi,rfl,SqL.of (sA _ _ ld),fd.keepM sA.keep,od,hlf,(()),⟨(),s2⟩⟩⟩
    |1,hx=>
     cases hx;exact⟨(),rfl,(),gE ⟨(),(),(),(),pw,qw,kw,l,fi,rfl,SqL.of (sA _ _ lw),fw.keepM sA.keep,ow,hlf,(()),⟨(),s2⟩⟩⟩
    |i+2,hx=>cases hx
theorem Wz:Dm P w mg base ZZ.df 4 (Xi K aG):=by
 refine ZZ.df.dfs V3 (by trivial) ?_;rintro f _ _ _ s H _ Q E hr⟨p,dx,fa,m0,m1,m3,dv,wv,rfl,hp,hf,h0,h1,q⟩;refine⟨_,(eG (iY Y0 (eV (fR (K:=K)) Y1 (fN (v:=.int 0) ZZ.f4 ⟨()⟩))) (eG (iY Y0 (eV (fR (K:=K)) Y1 (fN (v:=.int 1) ZZ.gk ⟨()⟩))) (eG (iY Y0 (eV (fR (K:=K)) Y1 (fN (v:=.int 2) ZZ.e2 ⟨()⟩))) (eG (iY Y0 (eV (fR (K:=K)) Y1 (fN (v:=.int 3) ZZ.gd ⟨()⟩))) (eG (iY Y0 (eV (fR (K:=K)) Y1 (fN (v:=.int 4) ZZ.cn ⟨()⟩))) (eE (iY Y0 (eD (ZY ZZ) hr (A2 (iU (K:=K) Y0) (iU (K:=K) Y0)))))))))),?_⟩
 extract_lets;have hfp:fa≠p:=λe=>by rw[e,hp] at hf;cases hf
 have g0:H fa=some (.lst [.int m0,.int m1,dv,.int m3,wv]):=hf;have g1:(upd H p (.ins aG dx (fJ "minute_mask" (.int m0) []))) fa=some (.lst [.int m0,.int m1,dv,.int m3,wv]):=by rw[eW hfp];exact g0
 have g2:(upd (upd H p (.ins aG dx (fJ "minute_mask" (.int m0) []))) p (.ins aG dx (fJ "hour_mask" (.int m1) (fJ "minute_mask" (.int m0) [])))) fa=some (.lst [.int m0,.int m1,dv,.int m3,wv]):=by rw[eW hfp];exact g1
 have g3:(upd (upd (upd H p (.ins aG dx (fJ "minute_mask" (.int m0) []))) p (.ins aG dx (fJ "hour_mask" (.int m1) (fJ "minute_mask" (.int m0) [])))) p (.ins aG dx (fJ "day_marks" dv (fJ "hour_mask" (.int m1) (fJ "minute_mask" (.int m0) []))))) fa=some (.lst [.int m0,.int m1,dv,.int m3,wv]):=by rw[eW hfp];exact g2
 have g4:(upd (upd (upd (upd H p (.ins aG dx (fJ "minute_mask" (.int m0) []))) p (.ins aG dx (fJ "hour_mask" (.int m1) (fJ "minute_mask" (.int m0) [])))) p (.ins aG dx (fJ "day_marks" dv (fJ "hour_mask" (.int m1) (fJ "minute_mask" (.int m0) []))))) p (.ins aG dx (fJ "month_mask" (.int m3) (fJ "day_marks" dv (fJ "hour_mask" (.int m1) (fJ "minute_mask" (.int m0) [])))))) fa=some (.lst [.int m0,.int m1,dv,.int m3,wv]):=by rw[eW hfp];exact g3
 have g5:(upd (upd (upd (upd (upd H p (.ins aG dx (fJ "minute_mask" (.int m0) []))) p (.ins aG dx (fJ "hour_mask" (.int m1) (fJ "minute_mask" (.int m0) [])))) p (.ins aG dx (fJ "day_marks" dv (fJ "hour_mask" (.int m1) (fJ "minute_mask" (.int m0) []))))) p (.ins aG dx (fJ "month_mask" (.int m3) (fJ "day_marks" dv (fJ "hour_mask" (.int m1) (fJ "minute_mask" (.int m0) [])))))) p (.ins aG dx (fJ "weekday_marks" wv (fJ "month_mask" (.int m3) (fJ "day_marks" dv (fJ "hour_mask" (.int m1) (fJ "minute_mask" (.int m0) []))))))) fa=some (.lst [.int m0,.int m1,dv,.int m3,wv]):=by rw[eW hfp];exact g4
 have l5:∀(f:Str) (v:V),(gQ m0 m1 dv m3 wv 0).lookup f=some v->f≠"time_mask"->(fJ "weekday_marks" wv (fJ "month_mask" (.int m3) (fJ "day_marks" dv (fJ "hour_mask" (.int m1) (fJ "minute_mask" (.int m0) []))))).lookup f=some v:=λf v h hne=>by
  unfold gQ at h;rw[fO,if_neg hne] at h;exact h
 refine⟨(),fa,_,(()),SqL.of g0,rfl,(),p,aG,dx,(),hp,ZZ.aa.cl,ZZ.ar,(by show 0<1000;decide),(),fa,_,(()),SqL.of g1,rfl,(),p,aG,dx,(),eF,ZZ.aa.cl,ZZ.ax,(by show 1<1000;decide),(),fa,_,(()),SqL.of g2,rfl,(),p,aG,dx,(),eF,ZZ.aa.cl,ZZ.be,(by show 2<1000;decide),(),fa,_,(()),SqL.of g3,rfl,(),p,aG,dx,(),eF,ZZ.aa.cl,ZZ.au,(by show 3<1000;decide),(),fa,_,(()),SqL.of g4,rfl,(),p,aG,dx,(),eF,ZZ.aa.cl,ZZ.a1,(by show 4<1000;decide),(),p,aG,dx,_,(),eF,ZZ.aa.cl,ZZ.ax,l5 _ _ (Kw ..) (by decide +kernel),(),p,aG,dx,_,(),eF,ZZ.aa.cl,ZZ.ar,l5 _ _ (JJ ..) (by decide +kernel),m1,m0,rfl,h1,h0,λt HT ht sT=>?_⟩
 refine⟨(),p,aG,dx,(),sT _ _ eF,ZZ.aa.cl,ZZ.ay,(by show 5<1000;decide),q t _ ht eF λb o hb hne=>?_⟩;rw[eW hne];refine sT _ _ ?_;rw[eW hne,eW hne,eW hne,eW hne,eW hne];exact hb
theorem qC:Dm P w mg base ZZ.dr 6 (RI K aG aB aE aF aI aD aA aH aJ):=by
 refine ZZ.dr.dfs U3 (by trivial) ?_;rintro _ _ _ _ s H _ Q E hr⟨p,dx,m0,m1,m3,tm,k,dv,wv,kd,kw,rfl,hp,hk,hm,hd,hw,q⟩;refine⟨_,(eG (eU 2 (eD (n6 ZZ) hr (A1 Y1)) U3.nd) (eG (fA (iu (gW (eD (nk ZZ) hr (A2 (iU (K:=K) Y0) (eV (gx (K:=K)) Y2 eI))))) (eE (eK eI)) fC) (eE (eK (eD (Vc ZZ) hr (aC (iU (K:=K) Y0) (A3 (iU (K:=K) Y0) (eV (gx (K:=K)) Y2 eI) (eV (gx (K:=K)) Y2 eI)))))))),?_⟩
 extract_lets;have ml:=kM hk.1 hk.2;refine⟨(),k,rfl,hk,λt H1 s1 h1=>?_⟩;rw[mY] at h1;have hp1:=s1 _ _ hp;refine⟨(),p,aG,dx,_,(),hp1,ZZ.aa.cl,ZZ.au,FD ..,(),t,_,(()),SqT.of h1,rfl,m3,ki k,rfl,⟨hm,⋯⟩,(),?_⟩;by_cases c:tb m3 (ki k).toNat=true
 ·rw[if_pos c] at q;rw[c];refine fW ⟨(),p,aG,dx,_,(),hp1,ZZ.aa.cl,ZZ.be,anE ..,(),p,aG,dx,_,(),hp1,ZZ.aa.cl,ZZ.a1,YU ..,(),t,_,(()),SqT.of h1,rfl,(),t,_,(()),SqT.of h1,rfl,dv,wv,kd,kw,gI k,k%7,rfl,hd.keep s1,hw.keep s1,ml.2,λH' s'=>q H' (s1.trans s')⟩
 ·have c':tb m3 (ki k).toNat=false:=by simpa using c
  rw[if_neg c] at q;rw[c'];exact gE (q H1 s1)
theorem O2:Dx P w base ZZ.er 9 (X2 K aB aE aF aI aD aA aH aJ):=by
 refine ZZ.er.dfs UO (by trivial) ?_;rintro _ _ _ _ s H _ Q E hr⟨t,pl,rfl,h⟩;refine⟨_,(eG (fA (fB gw Y1 (fN (v:=.int 2) ZZ.e2 ⟨()⟩)) (eE (eK (eD (Sy ZZ) hr (A1 Y0)))) fC) (eG (fA (fB gw Y1 (fN (v:=.int 4) ZZ.cn ⟨()⟩)) (eE (eK (eD (Rm ZZ) hr (A1 Y0)))) fC) (eG (eU 2 (yQ (fN (v:=.ref a_BOUNDS) ZZ.f5 rfl) Y1) UO.nd) (eE (eK (eD (apZ ZZ) hr (A3 Y0 (eV (gx (K:=K)) Y2 eI) (eV (gx (K:=K)) Y2 eI)))))))),?_⟩
 extract_lets;rcases h with ⟨rfl,ko,hT,q⟩ | ⟨rfl,ko,hT,q⟩ | ⟨lo,hi,m,hp,hT,q⟩
 ·cases ko with
  |none=>
   have et:t=[42]:=hT.2.2;exact⟨(),rfl,(),gV (λ_=>⟨(),t,rfl,hT.2.1,(λ_ H' s'=>q _ H' s' rfl (λp e=>nomatch e)),(λc=>absurd et c)⟩) (λc=>absurd rfl c)⟩
  |some ks=>
   exact⟨(),rfl,(),gV (λ_=>⟨(),t,rfl,hT.2.1,(λe=>absurd e hT.2.2.1),(λ_ m qs H' hm s' hl hF=>q _ H' s' ⟨m,qs,rfl,hl,by rw[←hT.2.2.2.2];exact hF,λk hk=>(JI hT.2.2.2.1 k hk).2.2⟩ (λp e=>by cases e;exact hm))⟩) (λc=>absurd rfl c)⟩
 ·cases ko with
  |none=>
   have et:t=[42]:=hT.2.2;exact⟨(),rfl,(),gV (λc=>absurd c (by decide)) (λ_=>⟨(),rfl,(),gV (λ_=>⟨(),t,rfl,hT.2.1,(λ_ H' s'=>q _ H' s' rfl (λp e=>nomatch e)),(λc=>absurd et c)⟩) (λc=>absurd rfl c)⟩)⟩
  |some ks=>
   exact⟨(),rfl,(),gV (λc=>absurd c (by decide)) (λ_=>⟨(),rfl,(),gV (λ_=>⟨(),t,rfl,hT.2.1,(λe=>absurd e hT.2.2.1),(λ_ m qs H' hm s' hl hF=>q _ H' s' ⟨m,qs,rfl,hl,by rw[←hT.2.2.2.2];exact hF,λk hk=>(JI hT.2.2.2.1 k hk).2.2⟩ (λp e=>by cases e;exact hm))⟩) (λc=>absurd rfl c)⟩)⟩
 ·have hl:=hT.len;have hne:pl≠2/\pl≠4:=⋯;rcases hp with ⟨rfl,rfl,rfl⟩ | ⟨rfl,rfl,rfl⟩ | ⟨rfl,rfl,rfl⟩
  ·exact⟨(),rfl,(),gV (λc=>absurd c (by decide)) (λ_=>⟨(),rfl,(),gV (λc=>absurd c (by decide)) (λ_=>⟨(),a_BOUNDS,_,_,(),ZZ.bw,rfl,rfl,(),(),a_BOUNDS_0,_,(()),ZZ.cf _,rfl,(),a_BOUNDS_0,_,(()),ZZ.cf _,rfl,t,_,(),hl,⟨by decide,by decide,by decide⟩,hT.ok,λH' s'=>by rw[hT.is];exact q H' s'⟩)⟩)⟩
  ·exact⟨(),rfl,(),gV (λc=>absurd c (by decide)) (λ_=>⟨(),rfl,(),gV (λc=>absurd c (by decide)) (λ_=>⟨(),a_BOUNDS,_,_,(),ZZ.bw,rfl,rfl,(),(),a_BOUNDS_1,_,(()),ZZ.cg _,rfl,(),a_BOUNDS_1,_,(()),ZZ.cg _,rfl,t,_,(),hl,⟨by decide,by decide,by decide⟩,hT.ok,λH' s'=>by rw[hT.is];exact q H' s'⟩)⟩)⟩
  ·exact⟨(),rfl,(),gV (λc=>absurd c (by decide)) (λ_=>⟨(),rfl,(),gV (λc=>absurd c (by decide)) (λ_=>⟨(),a_BOUNDS,_,_,(),ZZ.bw,rfl,rfl,(),(),a_BOUNDS_3,_,(()),ZZ.ch _,rfl,(),a_BOUNDS_3,_,(()),ZZ.ch _,rfl,t,_,(),hl,⟨by decide,by decide,by decide⟩,hT.ok,λH' s'=>by rw[hT.is];exact q H' s'⟩)⟩)⟩
theorem NO:Dx P w base ZZ.f2 10 (OF K aB aE aF aI aD aA aH aJ):=by
 refine ZZ.f2.dfs Q0 (by trivial) ?_;rintro _ _ _ _ s H _ Q E hr⟨t,pl,rfl,h⟩;refine⟨_,(eE (Zf (eE (eK (eD (O2 ZZ) hr (A2 Y0 Y1)))))),?_⟩;exact⟨(),(),t,pl,rfl,h⟩
theorem NW:Dx P w base ZZ.ff 11 (Lm K aB aE aF aI aD aA aH aJ aG):=by
 refine ZZ.ff.dfs UI (by trivial) ?_;rintro _ _ _ _ s H _ Q E hr⟨w0,w1,w2,w3,w4,m0,m1,m3,kd,kw,rfl,f0,f1,f3,d2,d4,hb,q⟩;refine⟨_,(eG (fA (tW (j6 (iu (gW (gS pk ZZ.ac PyProof.Rows.boot_isinstance (A2 Y0 (l6 ZZ.aj PyProof.Rows.boot_str))))) (ke (fB km (gS uH ZZ.am PySem.boot_len (A1 Y0)) (fN (v:=.int 1600) ZZ.cv ⟨()⟩))))) (eE jV) fC) (eG (eU 1 (n8 Y0 (eZ [32])) UI.nd) (eG (fA (tW (j6 (fB ox (gS (kO (K:=K)) ZZ.am PySem.boot_len (A1 Y1)) (fN (v:=.int 5) ZZ.e3 ⟨()⟩)) (ke (fB (Fk (K:=K)) (eZ []) Y1)))) (eE jV) fC) (eE (eK (jN ZZ.aa (Wz ZZ) hr (A1 (G8 ["place","word"] [] [] (iE ZZ.az Y1) (λ_ _ _ _ _ _=>mD (K:=K) (n:=2) (iz (gN 0 (show ((["place","word"]:List Str)++([]:List Str)).Nodup by decide +kernel)) (iz (gN 1 (show ((["place","word"]:List Str)++([]:List Str)).Nodup by decide +kernel)) k8))) (λ_ _ _ _ _ _=>hZ) (λ_ _ _ _ _ _=>(eD (NO ZZ) hr (A2 Y1 Y0))))))))))),?_⟩
 extract_lets;have n32:∀w∈[w0,w1,w2,w3,w4],32∉w:=λw hw=>by
  simp only[a9,cA,or_false] at hw;rcases hw with rfl | rfl | rfl | rfl | rfl
  ·exact f0.sp
  ·exact f1.sp
  ·exact d2.1.1
  ·exact f3.sp
  ·exact d4.1.1
 have nn:∀w∈[w0,w1,w2,w3,w4],w≠[]:=λw hw=>by
  simp only[a9,cA,or_false] at hw;rcases hw with rfl | rfl | rfl | rfl | rfl
  ·exact f0.ne
  ·exact f1.ne
  ·exact d2.1.2
  ·exact f3.ne
  ·exact d4.1.2
 have hs:=pH 32 [w0,w1,w2,w3,w4] (cE _ _) n32;obtain⟨L,eL⟩:∃L,L=gR 32 [w0,w1,w2,w3,w4]:=⟨()⟩;have hl:L.length<=1600:=by
  have:=f0.len;have:=f1.len;have:=f3.len;have:=d2.2.1.len;have:=d4.2.1.len;rw[eL];show (w0++32::(w1++32::(w2++32::(w3++32::w4)))).length<=1600;simp only[a8,bQ];omega
 rw[←eL] at hs ⊢;refine⟨(),_,.str,.str,rfl,(by decide),rfl,(),iQ rfl ⟨(),L,rfl,(by rw[dN];omega),(()),(),?_⟩⟩;rw[dU (show ¬(1600:Int)<((L.length:Nat):Int) by omega)];refine fW ⟨(),rfl,L,32,rfl,rfl,(by rw[dN];omega),λps hps=>?_⟩;rw[hs];have s0:=eJ hps (.lst ([w0,w1,w2,w3,w4].map λq=>V.str (Tx q)));refine⟨(),ps,(),.inl (SqL.of eF),rfl,(),uI rfl ⟨(),ps,(),.inl (SqL.of eF),rfl,rfl,(),?_⟩⟩;show if qH (.str (Tx [])) ([w0,w1,w2,w3,w4].map λq=>V.str (Tx q))=true then _ else _
 rw[VY nn];refine fW ⟨(),ps,rfl,⟨_,SqL.of eF⟩,axE (xs:=[w0,w1,w2,w3,w4].map λq=>V.str (Tx q)) (λD i l HZ=>i=0/\l=[]∨(∃l',HZ D=some (.lst l'))/\RRf (⟨aB,aE,aF,aI,aD,aA,aH,aJ⟩:Cs) H m0 m1 m3 (gO false kd) (gO true kw) D i l HZ) ?u1 ?u2 (zL 5) (λD _=>.inl ⟨rfl,rfl⟩) (SqL.of eF) ?st ?dn⟩
 case u1=>
  rintro D i l HX l' (h | ⟨hl,h⟩)
  ·exact .inl h
  ·exact .inr ⟨⟨_,eF⟩,h.upd hl⟩
 case u2=>
  rintro D i l HX HY s (h | ⟨⟨l',hl⟩,h⟩)
  ·exact .inl h
  ·exact .inr ⟨⟨l',s _ _ hl⟩,h.keep s⟩
 case st=>
  intro i x l D H2 E' F' hx hR hD s2 hz hE hF;have hR':RRf (⟨aB,aE,aF,aI,aD,aA,aH,aJ⟩:Cs) H m0 m1 m3 (gO false kd) (gO true kw) D i l H2:=by
   rcases hR with ⟨rfl,rfl⟩ | h
   ·rfl
   ·exact h.2
  have up:∀{H5:Hp},Same H2 H5->∃l',H5 D=some (.lst l'):=λs=>⟨_,s _ _ hz⟩;have fr:∀{p:Addr},H2 p=none->p≠D:=λh e=>by rw[e,hz] at h;cases h
  match i,hx,hR' with
  |0,hx,e=>cases hx;exact⟨(),(),w0,0,rfl,.inr (.inr ⟨0,59,m0,.inl ⟨rfl,rfl,rfl⟩,f0,λH' s'=>hE _ _ s' (.inr ⟨up s',by rw[e];rfl⟩)⟩)⟩
  |1,hx,e=>cases hx;exact⟨(),(),w1,1,rfl,.inr (.inr ⟨0,23,m1,.inr (.inl ⟨rfl,rfl,rfl⟩),f1,λH' s'=>hE _ _ s' (.inr ⟨up s',by rw[e];rfl⟩)⟩)⟩
  |2,hx,e=>cases hx;exact⟨(),(),w2,2,rfl,.inl ⟨rfl,kd,d2,λv H' s' hv hn=>hE _ _ s' (.inr ⟨up s',v,by rw[e];rfl,hv,λp ep=>⟨fr (hn p ep),(s0.trans s2).none (hn p ep)⟩⟩)⟩⟩
  |3,hx,⟨dv,e,hd⟩=>cases hx;exact⟨(),(),w3,3,rfl,.inr (.inr ⟨1,12,m3,.inr (.inr ⟨rfl,rfl,rfl⟩),f3,λH' s'=>hE _ _ s' (.inr ⟨up s',dv,by rw[e];rfl,hd.keep s'⟩)⟩)⟩
  |4,hx,⟨dv,e,hd⟩=>cases hx;exact⟨(),(),w4,4,rfl,.inr (.inl ⟨rfl,kw,d4,λv H' s' hv hn=>hE _ _ s' (.inr ⟨up s',dv,v,by rw[e];rfl,hd.keep s',hv,λp ep=>⟨fr (hn p ep),(s0.trans s2).none (hn p ep)⟩⟩)⟩)⟩
  |i+5,hx,_=>cases hx
 case dn=>
  intro D H2 l hR hD s2 hz;rcases hR with ⟨e,_⟩ | ⟨_,hR⟩
  ·cases e
  obtain⟨dv,wv,rfl,hd,hw⟩:=hR;intro x dx nx ndx nex;have n1:=kY (a:=.own x) (b:=.ins aG dx []) nx ndx;refine⟨x,dx,D,m0,m1,m3,dv,wv,rfl,eF,n1 _ _ hz,⟨f0.nn,hb.1⟩,⟨f1.nn,hb.2⟩,λtm H' htm hx' hs'=>⟨rfl,?_⟩⟩;have sX:Same H2 H':=λb o hb'=>hs' b o (n1 _ _ hb') (λe=>by rw[e,nx] at hb';cases hb');exact q x dx dv wv tm H' htm (s0.trans (s2.trans sX)) hx' (hd.1.keep sX) (hw.1.keep sX) ⟨(s0.trans s2).none nx,λp e=>(hd.2 p e).2,λp e=>(hw.2 p e).2⟩
theorem IQ:Dm P w mg base ZZ.es 1 (NZ K aG):=by
 refine ZZ.es.dfs ar3 (by trivial) ?_;rintro _ _ _ _ s H _ Q E hr⟨p,dx,m0,m1,m3,tm,dv,wv,rfl,hp,q⟩;refine⟨_,(eE (eK (iU (K:=K) Y0))),?_⟩;exact⟨(),p,aG,dx,_,(),hp,ZZ.aa.cl,ZZ.ay,Fo ..,q⟩
theorem EZ:Dm P w mg base ZZ.ds 7 (an2 K aG aB aE aF aI aD aA aH aJ):=by
 refine ZZ.ds.dfs U5 (by trivial) ?_;rintro _ _ _ _ s H _ Q E hr⟨p,dx,m0,m1,m3,tm,mo,dv,wv,kd,kw,rfl,hp,hn,hd,hw,q⟩;refine⟨_,(eG (eU 2 (eD (Yl ZZ) hr (A1 Y1)) U5.nd) (eG (eU 3 (eD (rC ZZ) hr (A1 (eV (gx (K:=K)) Y2 eI))) U5.nd) (eG (fA (iu (gW (eD (nk ZZ) hr (A2 (iU (K:=K) Y0) (eV (gx (K:=K)) Y3 eI))))) (eE (eK (eZ [109,111,110,116,104]))) fC) (eG (fA (iu (gW (eD (nk ZZ) hr (A2 (ip ZZ.aa.cl (qC ZZ) hr Y0 (A1 (eD (qb ZZ) hr (A2 (eV (gx (K:=K)) Y3 eI) (eV (gx (K:=K)) Y3 eI))))) (eV (gx (K:=K)) Y3 eI))))) (eE (eK (eZ [100,97,121]))) fC) (eG (fA (iu (gW (eD (nk ZZ) hr (A2 (iU (K:=K) Y0) (eV (gx (K:=K)) Y2 eI))))) (eE (eK (eZ [104,111,117,114]))) fC) (eG (fA (iu (gW (eD (nk ZZ) hr (A2 (iU (K:=K) Y0) (eV (gx (K:=K)) Y2 eI))))) (eE (eK (eZ [109,105,110,117,116,101]))) fC) (eE (eK eN)))))))),?_⟩
 extract_lets;refine⟨(),mo,rfl,λt H1 s1 h1=>⟨(),t,_,(()),SqT.of (h1),rfl,(),λy m k t2 H2 ok e s2 h2=>?_⟩⟩;have s12:=s1.trans s2;have hp2:=s12 _ _ hp;have q':=q y m k;refine⟨(),p,aG,dx,_,(),hp2,ZZ.aa.cl,ZZ.au,FD ..,(),t2,_,(()),SqT.of (h2),rfl,m3,m,rfl,⟨hn.2.2,by have:=ok.1;omega⟩,(),?_⟩;cases c1:tb m3 m.toNat with
 |false=>
  have z:=q' H2 ok e s12;rw[AY c1] at z;exact gE z
 |true=>
  have mk:=m9 (y:=y) ok.1.1 ok.1.2;have kl:=oP (y:=y) ok.1.1 ok.1.2;refine fW ⟨(),p,dx,(),hp2,q9 ..,(),t2,_,(()),SqT.of (h2),rfl,(),t2,_,(()),SqT.of (h2),rfl,y,m,rfl,ok.1,λH3 s3=>?_⟩;refine⟨p,dx,m0,m1,m3,tm,kindOf y m,dv,wv,kd,kw,rfl,s3 _ _ hp2,kl,hn.2.2,hd.keep (s12.trans s3),hw.keep (s12.trans s3),λH4 s4=>?_⟩;rw[mk.1,mk.2,if_pos c1,rE ok e];have s24:=s3.trans s4;have sA:=s12.trans s24;refine⟨(),t2,_,(()),SqT.of (s24 _ _ h2),rfl,_,k,rfl,⟨JK (G1 ok) (qF hd) (qF hw),by have:=ok.2.1;omega⟩,(),?_⟩
  cases c2:tb (iB kd kw (fH y m) ((mo / 1440-k+1+6)%7)) k.toNat with
  |false=>
   have z:=q' H4 ok e sA;rw[AG c1 c2] at z;exact gE z
  |true=>
   refine fW ⟨(),p,aG,dx,_,(),s24 _ _ hp2,ZZ.aa.cl,ZZ.ax,Kw ..,(),t,_,(()),SqT.of ((s2.trans s24) _ _ h1),rfl,m1,(),⟨hn.2.1,⋯⟩,(),?_⟩;cases c3:tb m1 (mo%1440 / 60).toNat with
   |false=>
    have z:=q' H4 ok e sA;rw[A9 c1 c2 c3] at z;exact gE z
   |true=>
    refine fW ⟨(),p,aG,dx,_,(),s24 _ _ hp2,ZZ.aa.cl,ZZ.ar,JJ ..,(),t,_,(()),SqT.of ((s2.trans s24) _ _ h1),rfl,m0,(),⟨hn.1,⋯⟩,(),?_⟩;cases c4:tb m0 (mo%1440%60).toNat with
    |false=>
     have z:=q' H4 ok e sA;rw[ye c1 c2 c3 c4] at z;exact gE z
    |true=>
     have z:=q' H4 ok e sA;rw[vj c1 c2 c3 c4] at z;exact fW z
theorem ar4:Dm P w mg base ZZ.et 8 (OD K aG aB aE aF aI aD aA aH aJ):=by
 refine ZZ.et.dfs Pw (by trivial) ?_;rintro _ _ _ _ s H _ Q E hr⟨p,dx,m0,m1,m3,tm,mo,dv,wv,kd,kw,rfl,hp,hn,hd,hw,q⟩;refine⟨_,(eE (eK (jD jB (ip ZZ.aa.cl (EZ ZZ) hr Y0 (A1 Y1)) eN))),?_⟩;exact⟨(),p,dx,(),hp,GM ..,(),p,dx,m0,m1,m3,tm,mo,dv,wv,kd,kw,rfl,hp,hn,hd,hw,λy m k H' ok e s=>⟨rfl,q y m k H' ok e s⟩⟩
theorem Rw:Dx P w base ZZ.ec 1 (RK K):=by
 refine ZZ.ec.dfs ap3 (by trivial) ?_;rintro _ _ _ _ s H _ Q E hr⟨N,rfl,q⟩;refine⟨_,(eG (fA (fB gw Y1 eI) (eE (eK (ix (A2 (eC fK Y0 eI) eI)))) fC) (eE (eK (ix (A2 Y0 (eC fK Y1 eI)))))),?_⟩;extract_lets;refine⟨(),rfl,(),gV (λc=>?_) (λc=>?_)⟩
 ·refine⟨(),(()),(zL 2),λt ht=>q t _ (eJ ht _) ?_⟩;rw[show (N+1) / 12=N / 12+1 by omega,show (N+1)%12+1=1 by omega];exact eF
 ·refine⟨(),(),(()),(zL 2),λt ht=>q t _ (eJ ht _) ?_⟩;rw[show (N+1) / 12=N / 12 by omega,show (N+1)%12+1=N%12+1+1 by omega];exact eF
theorem LP:Dx P w base ZZ.fg 5 (auL K):=by
 refine ZZ.fg.dfs Ux (by trivial) ?_;rintro _ _ _ _ s H _ Q E hr⟨mo,rfl,q⟩;refine⟨_,(eG (eU 1 (eD (rC ZZ) hr (A1 (eC jy Y0 (fN (v:=.int 1440) ZZ.af ⟨()⟩)))) Ux.nd) (eE (eK (ix (A2 (eV (gx (K:=K)) Y1 eI) (eV (gx (K:=K)) Y1 eI)))))),?_⟩;extract_lets;refine⟨(),(()),⟨by decide,by decide⟩,mo / 1440,rfl,λy m k p H1 ok e s1 hp=>?_⟩;refine⟨(),p,_,(()),SqT.of hp,rfl,(),p,_,(()),SqT.of hp,rfl,(zL 2),λt ht=>?_⟩
 have hm:=ok.1;have e1:(12*y+m-1) / 12=y:=⋯;have e2:(12*y+m-1)%12+1=m:=⋯;have u:=oY (12*y+m-1);unfold mE at u;have d:ky (12*y+m-1)=db y+ahead y m:=by unfold ky;rw[e1,e2]
 rw[e1,e2,d] at u;have hk:=ok.2;have e':db y+ahead y m+k-1=mo / 1440:=e;refine q (12*y+m-1) t _ (s1.trans (eJ ht _)) (by rw[d];omega) (by rw[u];omega) ?_;rw[e1,e2];exact eF
theorem PZ:Dx P w base ZZ.ed 1 (OJ K):=by
 refine ZZ.ed.dfs Uv (by trivial) ?_;rintro _ _ _ _ s H _ Q E hr⟨d,ts,rfl,hS,hl,ht,q⟩;refine⟨_,(eG (eU 1 eI Uv.nd) (eG (jk (iE ZZ.az Y0) (mD (K:=K) (iz (gN 2 Uv.nd) (iz (gN 3 Uv.nd) k8))) (eE (eU 1 (eC kJ Y1 (eC W8 Y3 (eC iJ (fN (v:=.int 1440) ZZ.af ⟨()⟩) Y2))) Uv.nd)) PassesOwn.never) (eE (eK Y1)))),?_⟩;extract_lets;refine⟨(),d,rfl,⟨_,hS⟩,xh (K:=K) (a:=d) (xs:=ts.map V.int) (λi σ H2=>∃(u1 u2:Option V),σ=[some (.ref d),some (.int (lV (λj=>ts.getD j 0) i)),u1,u2]/\Same H H2) ⟨_,(),Same.refl _⟩ (λi σ H2 _ ⟨_,_,_,s2⟩=>s2.seq hS) ?_ ?_⟩
 ·rintro i x σ H2 T hx ⟨u1,u2,rfl,s2⟩ hT;rw[bI] at hx;cases ew:ts[i]? with
  |none=>rw[ew] at hx;cases hx
  |some z=>
   rw[ew] at hx;obtain rfl:V.int z=x:=bG hx;have hz:=ht z (bR ew);have hi:=(cT.mp ew).1;have ez:ts.getD i 0=z:=by rw[List.getD_eq_getElem?_getD,ew];rfl
   have ee:lV (λj=>ts.getD j 0) (i+1)=Builtin.bitOr (lV (λj=>ts.getD j 0) i) (z*2^(1440*i)):=by
    show Builtin.bitOr _ (ts.getD i 0*_)=_;rw[ez]
   refine⟨T,(),SqT.of eF,rfl,_,(),(()),?_⟩;refine⟨(),(),(),(()),.inl ⟨by decide,by decide⟩,(()),⟨⋯,⋯,?_⟩,(()),?_⟩
   ·have:=hz.1;have:=hz.2;have e:((z.natAbs:Nat):Int)<((2^1440:Nat):Int):=by rw[jF];omega
    exact Int.ofNat_lt.mp e
   ·rw[show (1440*(i:Int)).toNat=1440*i by omega];exact⟨_,_,by rw[ee];rfl,s2.trans (eJ hT _)⟩
 ·rintro σ H2 ⟨u1,u2,rfl,s2⟩;rw[aY];exact⟨(),q H2 s2⟩
theorem Iq:Dx P w base ZZ.f8 1 (Ob K):=by
 refine ZZ.f8.dfs R7 (by trivial) ?_;rintro _ _ _ _ s H _ Q E hr⟨m,k,rfl,hm,hk,hj,q⟩;refine⟨_,(eE (eK (eC gB (EM (eC kz Y0 (kQ lF Y0))) eI))),?_⟩;refine⟨(),(),(),(()),rfl,(),rfl,(()),?_⟩;show Q (.int (((Builtin.Int.intBits (Builtin.bitAnd m (-m)):Nat):Int)-1)) H;rw[O3 hm hk hj,TQ,show (((k+1:Nat):Int)-1)=k by omega];exact q
theorem aj8:Dx P w base ZZ.c5 7 (Qc K aB aE aF aI aD aA aH aJ aG):=by
 refine ZZ.c5.dfs Us (by trivial) ?_;rintro _ _ _ _ s H _ Q E hr⟨p,dx,m0,m1,m3,tm,d,dv,wv,kd,kw,rfl,hp,hn,hd,hw,hsh,q⟩;refine⟨_,(eG (eU 2 (eD (rC ZZ) hr (A1 Y1)) Us.nd) (eG (eU 3 (eD (qb ZZ) hr (A2 (eV (gx (K:=K)) Y2 eI) (eV (gx (K:=K)) Y2 eI))) Us.nd) (eG (eU 4 (eC m8 (ip ZZ.aa.cl (qC ZZ) hr Y0 (A1 Y3)) (eV (gx (K:=K)) Y2 eI)) Us.nd) (eG (fA (fB gw Y4 eI) (eE (eK (eC gB (eC fK Y1 (eV (gx (K:=K)) (eD (n6 ZZ) hr (A1 Y3)) eI)) (eV (gx (K:=K)) Y2 eI)))) fC) (eE (eK (eC gB (eC fK Y1 (eD (Iq ZZ) hr (A1 Y4))) eI))))))),?_⟩
 extract_lets;refine⟨(),d,rfl,λy m k t H1 ok e s1 h1=>?_⟩;have mk:=m9 (y:=y) ok.1.1 ok.1.2;have kl:=oP (y:=y) ok.1.1 ok.1.2;refine⟨(),t,_,(()),SqT.of (h1),rfl,(),t,_,(()),SqT.of (h1),rfl,y,m,rfl,ok.1,λH2 s2=>?_⟩;have s12:=s1.trans s2;refine⟨(),p,dx,(),s12 _ _ hp,q9 ..,(),p,dx,m0,m1,m3,tm,kindOf y m,dv,wv,kd,kw,rfl,s12 _ _ hp,kl,hn.2.2,hd.keep s12,hw.keep s12,λH3 s3=>?_⟩;have s13:=s12.trans s3;rw[mk.1,mk.2,rE ok e]
 obtain⟨D,eD⟩:∃D,D=(if tb m3 m.toNat=true then iB kd kw (fH y m) ((d-k+1+6)%7) else 0):=⟨()⟩;rw[←eD];have D0:0<=D/\tb D k.toNat=false:=by
  rw[eD];split
  ·rename_i c;exact⟨JK (G1 ok) (qF hd) (qF hw),hsh y m k ok e c⟩
  ·exact⟨bB 0,i6 _⟩
 have hk:=ok.2;refine⟨(),t,_,(()),SqT.of ((s2.trans s3) _ _ h1),rfl,(()),(by show (0:Int)<=k;omega),?_⟩;refine⟨(),rfl,(),gV (λc=>?_) (λc=>?_)⟩
 ·refine⟨(),(),kindOf y m,rfl,kl,λt2 H4 s4 h4=>?_⟩;rw[mY,mk.1,mk.2] at h4;exact⟨t2,_,(()),SqT.of h4,rfl,(()),(),t,_,(()),SqT.of ((s2.trans (s3.trans s4)) _ _ h1),rfl,(()),q _ _ ⋯ (s13.trans s4)⟩
 ·have X0:0<D / 2^k.toNat:=by
   have:0<=D / 2^k.toNat:=cX D0.1 (bZ (i9 _));omega
  obtain⟨l,hl,hj⟩:=GK X0;have l1:1<=l:=by
   rcases Nat.eq_zero_or_pos l with z | z
   ·rw[z,mX D0.1,Nat.add_zero,D0.2] at hl;cases hl
   ·exact z
  exact⟨(),(),_,l,rfl,X0,hl,hj,(()),(()),q _ _ ⋯ s13⟩
theorem avB:Dx P w base ZZ.fh 8 (Xh K aB aE aF aI aD aA aH aJ aG):=by
 refine ZZ.fh.dfs NN (by trivial) ?_;rintro _ _ _ _ s H _ Q E hr⟨p,dx,tw,m0,m1,m3,tm,d,dv,wv,kd,kw,rfl,hp,hn,hd,hw,hsh,q⟩;refine⟨_,(eG (fA (fB gw Y2 (eZ [109,105,110,117,116,101])) (eE (eK Y1)) fC) (eG (fA (fB gw Y2 (eZ [104,111,117,114])) (eE (eK (eC gB (eC fK (eC gB Y1 (eC g6 Y1 (fN (v:=.int 60) ZZ.al ⟨()⟩))) (fN (v:=.int 60) ZZ.al ⟨()⟩)) eI))) fC) (eE (eK (eC gB (eC fK (eC iJ (fN (v:=.int 1440) ZZ.af ⟨()⟩) (eD (aj8 ZZ) hr (A2 Y0 (eC jy Y1 (fN (v:=.int 1440) ZZ.af ⟨()⟩))))) (fN (v:=.int 1440) ZZ.af ⟨()⟩)) eI))))),?_⟩
 extract_lets;refine⟨(),rfl,(),lx (λc=>?_) (λc=>?_)⟩
 ·exact⟨(),q _ _ (bB _) (λz=>absurd c z) (Same.refl _)⟩
 refine⟨(),rfl,(),lx (λc2=>?_) (λc2=>?_)⟩
 ·exact⟨(),(),(()),(by show (0:Int)<60;decide),(()),(()),(()),q _ _ ⋯ (λ_=>by omega) (Same.refl _)⟩
 ·exact⟨(),(),(()),⟨by decide,by decide⟩,p,dx,m0,m1,m3,tm,d / 1440,dv,wv,kd,kw,rfl,hp,hn,hd,hw,hsh c c2,λr H1 hr1 s1=>⟨(()),.inl ⟨by decide,by decide⟩,(()),(()),q _ _ ⋯ (λ_=>by omega) s1⟩⟩
theorem Nl:Dx P w base ZZ.dt 1 (YE K):=by
 refine ZZ.dt.dfs Pj (by trivial) ?_;rintro _ _ _ _ s H _ Q E hr⟨p,vs',sts,a,b,tm,rfl,hp,hP,hl,q⟩;refine⟨_,(eE (fA (tW (mI (fB (uq hr.units) Y0 (gD aN)) (nP (fB gw (eV (gx (K:=K)) (eV (fR (K:=K)) Y0 (kQ lF eI)) eI) Y3)))) (eE (mU (ix (A3 (eV (gx (K:=K)) (eV (fR (K:=K)) Y0 (kQ lF eI)) eI) Y2 Y3)) (wA Y0 (kQ lF eI)))) (eE (li (oo Y0 (ix (A3 Y1 Y2 Y3))))))),?_⟩;refine⟨(),(zL 0),λl hl0=>⟨p,l,vs',rfl,rfl,SqL.of ((eJ hl0 _) _ _ hp),SqL.of eF,(),?_⟩⟩
 have s0:=eJ hl0 (.lst []);have hp0:=s0 _ _ hp;have app:∀{H1:Hp} (t:Addr),Same H H1->H1 t=none->∀z:jQ,Paired (oy (upd (upd H1 t (.tup [.int z.1,.int z.2.1,.str (Tx z.2.2)])) p (.lst (vs'++[.ref t])))) (vs'++[.ref t]) (sts++[z]):=λ{H1} t s1 ht z=>by
  have tp:t≠p:=λe=>by rw[e,s1 _ _ hp] at ht;cases ht
  have g:∀b xs,H b=some (.tup xs)->upd (upd H1 t (.tup [.int z.1,.int z.2.1,.str (Tx z.2.2)])) p (.lst (vs'++[.ref t])) b=some (.tup xs):=λb xs hb=>by
   rw[eW (λe=>by rw[e,hp] at hb;cases hb)];exact (s1.trans (eJ ht _)) _ _ hb
  exact mZ (Paired.mapP hP λ_ _ y=>yi g y) ⟨t,rfl,by rw[eW tp,eF]⟩
 have oth:∀{H1:Hp} (t:Addr) (o u:HO),Same H H1->H1 t=none->∀q o',q≠p->H q=some o'->upd (upd H1 t o) p u q=some o':=λ{H1} t o u s1 ht q o' nq hq=>by
  rw[eW nq];exact (s1.trans (eJ ht o)) _ _ hq
 by_cases c:vs'=[]
 ·subst c;cases hP;refine fW (fW ⟨(),.inl ⟨rfl,_,SqL.of hp0⟩,(),(),(),(zL 3),λt ht=>⟨p,(()),(eJ ht _) _ _ hp0,(by show 0<sizeLine;decide),q _ _ eF (app t s0 ht (a,b,tm)) (oth t _ _ s0 ht)⟩⟩)
 obtain⟨l0,v,rfl⟩:=Mu c;obtain⟨st0,z,rfl,hP0,t0,rfl,ht0⟩:=Jv hP;rw[KB] at q;rw[dQ c];have ht00:=s0 _ _ ht0;refine gE ⟨(),(),p,_,(()),SqL.of hp0,EA,t0,_,(()),SqT.of ht00,rfl,(),rfl,(),lx (λce=>?_) (λce=>?_)⟩
 ·rw[if_pos ce] at q;refine⟨(),(),p,_,(()),SqL.of hp0,EA,t0,_,(()),SqT.of ht00,rfl,(),(),(zL 3),λt ht=>?_⟩;have s1:=eJ ht (.tup [.int z.1,.int b,.str (Tx tm)]);have tp:t≠p:=λe=>by rw[e,hp0] at ht;cases ht
  refine⟨(),(),p,_,(()),s1 _ _ hp0,Rk,?_⟩;rw[aCC];have g:∀b' xs,H b'=some (.tup xs)->upd (upd (upd H l (.lst [])) t (.tup [.int z.1,.int b,.str (Tx tm)])) p (.lst (l0++[.ref t])) b'=some (.tup xs):=λb' xs hb=>by
   rw[eW (λe=>by rw[e,hp] at hb;cases hb)];exact (s0.trans s1) _ _ hb
  exact q _ _ eF (mZ (Paired.mapP hP0 λ_ _ y=>yi g y) ⟨t,rfl,by rw[eW tp,eF]⟩) (oth t _ _ s0 ht)
 ·rw[if_neg ce] at q;exact⟨(),.inl ⟨rfl,_,SqL.of hp0⟩,(),(),(),(zL 3),λt ht=>⟨p,(()),(eJ ht _) _ _ hp0,(by rw[dN];omega),q _ _ eF (app t s0 ht (a,b,tm)) (oth t _ _ s0 ht)⟩⟩
theorem Oq:Dx P w base ZZ.fi 9 (auU K aB aE aF aI aD aA aH aJ aG):=by
 refine ZZ.fi.dfs UA (by trivial) ?_;rintro _ _ _ _ s H _ Q E hr⟨p,b,e,m0,m1,m3,kd,kw,rfl,hR,hE,hbe,q⟩;refine⟨_,(eG (eU 3 (gD aN) UA.nd) (eG (eU 4 Y1 UA.nd) (eG (y8 (fB kS Y4 Y2) (eG (eU 5 (ip ZZ.aa.cl (EZ ZZ) hr Y0 (A1 Y4)) UA.nd) (eG (eU 6 (gS vQ ZZ.gn PyProof.Rows.boot_min (A2 (eD (avB ZZ) hr (A3 Y0 Y4 Y5)) Y2)) UA.nd) (eG (li (eD (Nl ZZ) hr (aC Y3 (A3 Y4 Y6 Y5)))) (eE (eU 4 (eC fK Y6 eI) UA.nd))))) PassesOwn.never) (eE (eK Y3))))),?_⟩
 extract_lets;have hg:=hR.ok;obtain⟨dx,dv,wv,hp,hn,hb,hd,hw⟩:=hR;refine⟨(zL 0),λl hl=>⟨(),?_⟩⟩;refine xC (λσ H2=>∃(mo:Int) (us:List V) (sts:List jQ) (u5 u6:Option V),σ=[some (.ref p),some (.int b),some (.int e),some (.ref l),some (.int mo),u5,u6]/\H2 l=some (.lst us)/\Paired (oy H2) us sts/\Same H H2/\b<=mo/\(mo<=e->(sts.length:Int)<=2*(mo / 60-b / 60)+jY sts)) (λσ _=>match σ[4]? with | some (some (V.int mo))=>(e+1-mo).toNat | _=>0) ⟨b,[],[],_,(),eF,.nil,eJ hl _,bB _,λ_=>by rw[Int.sub_self];decide⟩ ?_
 rintro σ H2 ⟨mo,us,sts,u5,u6,rfl,h2,hP,s2,hbm,hlen⟩;refine⟨(),(),(()),(),hW (λc=>?_) (λc=>?_)⟩
 ·refine⟨_,λ_ _ h=>h,?_⟩;refine⟨(),p,dx,(),s2 _ _ hp,GM ..,(),p,dx,m0,m1,m3,gP m1 m0,mo,dv,wv,kd,kw,rfl,s2 _ _ hp,hn,hd.keep s2,hw.keep s2,λy m k H3 ok ed s3=>?_⟩;have s23:=s2.trans s3;obtain⟨tw,etw,hday⟩:=NJ (λz=>hE mo hbm c (Ln hn hb hg ok ed z));rw[etw];refine⟨(),(),(),p,dx,tw,m0,m1,m3,gP m1 m0,mo,dv,wv,kd,kw,rfl,s23 _ _ hp,hn,hd.keep s23,hw.keep s23,λn1 n2 y' m' k' ok' e' h3=>?_,λr H4 hr1 hr2 s4=>⟨(),_,(),?_⟩⟩
  ·obtain⟨rfl,rfl,rfl⟩:=En ok ok' (ed.trans e'.symm);exact hday n1 n2 h3
  obtain⟨la,ela⟩:∃la,la=if e<r then e else r:=⟨()⟩
  show iV _ (V.int (if e<r then e else r)) _ _ _;rw[←ela];have hla:mo<=la/\la<=e/\(la<e->la=r):=by
   rw[ela];split<;>omega
  have hlen':=hlen c;have pl:=Ep hP;have l1:=IX sts;have g34:∀b' xs,H2 b'=some (.tup xs)->H4 b'=some (.tup xs):=λb' xs z=>s4 _ _ (s3 _ _ z);refine⟨(),(),(),(),l,us,sts,mo,la,tw,rfl,s4 _ _ (s3 _ _ h2),Paired.mapP hP (λ_ _ z=>yi g34 z),⋯,λH5 us' h5 hP5 oth=>?_⟩;refine⟨(),(()),?_⟩;refine⟨_,(by show (e+1-(la+1)).toNat<(e+1-mo).toNat;omega),rfl,la+1,us',_,_,(),h5,hP5,λq' o hq=>oth q' o (λz=>by rw[z,hl] at hq;cases hq) (s4 _ _ (s23 _ _ hq)),⋯,λz=>Sd hlen' hla.1 λn=>?_⟩
  have:=hr2 n;have:=hla.2.2 ⋯;omega
 ·exact⟨(),q l H2 s2⟩
theorem Ke:Dm P w mg base ZZ.du 7 (GT K aG aB aE aF aI aD aA aH aJ):=by
 refine ZZ.du.dfs U4 (by trivial) ?_;rintro _ _ _ _ s H _ Q E hr⟨p,dx,m0,m1,m3,tm,k,dv,wv,kd,kw,rfl,hp,hk,hm,hd,hw,q⟩;refine⟨_,(hU (eU 2 (ip ZZ.aa.cl (qC ZZ) hr Y0 (A1 Y1)) U4.nd) (hU (eU 3 (eV (gx (K:=K)) (eD (n6 ZZ) hr (A1 Y1)) eI) U4.nd) (eE (eK (jw ["days","self"] [2,0] (vi ZZ.ai (A2 eI (eC fK Y3 eI))) (λ_ _ _ _ _ _=>hZ) (λ_ _ _ _ _ _=>(lG (gW (eD (nk ZZ) hr (A2 Y1 Y0))) (iU (K:=K) Y2) eI))))))),?_⟩
 extract_lets;refine⟨λσ' H'=>σ'=[some (.ref p),some (.int k),some (.int (jH m3 kd kw k)),none]/\Same H H',⟨(),p,dx,(),hp,q9 ..,(),p,dx,m0,m1,m3,tm,k,dv,wv,kd,kw,rfl,hp,hk,hm,hd,hw,λH1 s1=>⟨rfl,s1⟩⟩,?_⟩;rintro σ' H1 ⟨rfl,s1⟩;have ml:=(kM hk.1 hk.2).2.1;refine⟨λσ' H'=>σ'=[some (.ref p),some (.int k),some (.int (jH m3 kd kw k)),some (.int (gI k))]/\Same H1 H',⟨(),k,rfl,hk,λt H2 s2 h2=>⟨t,_,(()),SqT.of (by rw[mY] at h2;exact h2),rfl,rfl,s2⟩⟩,?_⟩
 rintro σ' H2 ⟨rfl,s2⟩;refine⟨(),(()),_,(),⟨by decide,by decide,⋯,⋯⟩,p4 (λi l=>l=((List.range i).map (iG tm m3 kd kw k)).map V.int) (by show (gI k+1-1).toNat<=sizeLine;rw[dN];omega) rfl ?_ ?_⟩
 ·intro i l D H3 E' F' hi hR hD s3 hl hE hF;subst hR;have hp3:=(s1.trans (s2.trans s3)) _ _ hp;have et:(1+(i:Int)).toNat=i+1:=⋯;have fE:∀v:Int,v=iG tm m3 kd kw k i->E' (.int v) H3:=λv ev=>hE _ _ (Same.refl _) (by rw[ev,cC,bA,bA];rfl);refine⟨(),(),jH m3 kd kw k,(),⟨Ez hd hw hk.1 hk.2,⋯⟩,(),?_⟩;rw[et];by_cases c:tb (jH m3 kd kw k) (i+1)=true
  ·rw[c];exact gE ⟨(),p,aG,dx,_,(),hp3,ZZ.aa.cl,ZZ.ay,Fo ..,fE tm (by unfold iG;rw[if_pos c])⟩
  ·rw[show tb (jH m3 kd kw k) (i+1)=false by simpa using c];exact fW (fE 0 (by unfold iG;rw[if_neg c]))
 ·intro D H3 l hR hD s3 hl;subst hR;refine q D H3 ((s1.trans s2).none hD) (s1.trans (s2.trans s3)) ?_;rw[hl];unfold fX;rw[show (gI k+1-1).toNat=(gI k).toNat by omega]
theorem T9{HA:Hp}{f c' a p:Addr}{qual:Str}{params:Arguments}{body:Expr}{scope:Scope}{pm ctv:Value}{o0:Obj}{u0:Value}{m0 m1 m3:Int}{kd kw:Ko}(S:ig "kind" "row" scope)
  (hb:∀(s:Shared) (u:Value),BindsTo s (PySem.W.kla_fn "<lambda>" qual params body scope [("row",a)] pm (.ref c') ctv) ⟨[u],[]⟩ [("kind",u)])
  (hB:∀(A:Around) (outer:List Env) (s:Shared) (H1:Hp),Room 7 (jS P w K mg base ["kind","row"] qual scope s.heap.objs.size f c' [("row",a)] A outer s H1).A->L2.E (jS P w K mg base ["kind","row"] qual scope s.heap.objs.size f c' [("row",a)] A outer s H1) body (nT aG "on_days" (GT K aG aB aE aF aI aD aA aH aJ) [] E0 (mP 1) (jc (mP 0) iP)))
  (hf:HA f=some (hV f (nJ qual params body scope "row" a pm c' ctv))) (hc:HA c'=some (lY c' qual)) (ha:HA a=some (hV a o0)) (ho:o0.data=.cell (some u0)) (r0:RelV (.ref p) u0)
  (hR:RowR (⟨aB,aE,aF,aI,aD,aA,aH,aJ⟩:Cs) aG (gX HA a) p m0 m1 m3 kd kw):wQ P w K mg base 8 HA f (iG (gP m1 m0) m3 kd kw):=by
 refine⟨⟨_,_,_,_,hf⟩,λH1 k Q s1 k0 k1 q=>?_⟩;intro A outer s us hr e0 rv;obtain⟨u,rfl,ru⟩:∃u,us=[u]/\RelV (.int k) u:=by
  cases rv with
  |cons r rn=>cases rn;exact⟨(),r⟩
 obtain⟨dx,dv,wv,hp,hn,hb2,hd,hw⟩:=hR;have se:Same (gX HA a) (gX H1 a):=λb o e=>by
  obtain⟨nb,e⟩:=KC e;rw[ji nb];exact s1 _ _ e
 refine PB S hr e0 (hb s u) ru (s1 _ _ hf) (s1 _ _ hc) (s1 _ _ ha) ho r0 (hB A outer s (gX H1 a) (hr.deeper _)) ?_;refine⟨(),p,dx,(),se _ _ hp,Eb ..,(),p,dx,m0,m1,m3,gP m1 m0,k,dv,wv,kd,kw,rfl,se _ _ hp,⟨k0,k1⟩,hn.2.2,hd.keep se,hw.keep se,λD H' _ s' hD na=>q D _ (λb o e=>?_) ?_⟩
 ·by_cases z:b=a
  ·rw[z] at e ⊢;rw[s1 _ _ ha] at e;rw[eF];exact e
  ·rw[eW z];exact s' _ _ (by rw[ji z];exact e)
 ·rw[eW (λz=>by rw[z,na] at hD;cases hD)];exact hD
theorem Ot:Dx P w base ZZ.ee 9 (Ta P w mg base K):=by
 refine ZZ.ee.dfs Tp (by trivial) ?_;rintro f _ _ _ s H _ Q E hr⟨kn,f,kd,kvs,g,H0,rfl,hk,hkn,hK,hl,hg,h0,s0,hD,q⟩;refine⟨_,(eG (fA (yR hr Y2 Y0) (eE (vZ hr Y0 Y2 (eD (PZ ZZ) hr (A1 (aIK (k:=8) hr Y1 (A1 Y2)))))) fC) (eE (eK (Hz hr Y0 Y2)))),?_⟩;extract_lets;refine⟨(),(),kn,(),DGet.k (k:=.inl kd) hkn,(),?_⟩;cases e:hX kvs (.inl kd) with
 |none=>
  have hF:=Xl s0 hD.1;refine gE ⟨(),f,rfl,hF,(),hF,hD.2 H kd _ s0 hk.1 hk.2 λD H2 s2 h2=>⟨D,fX g kd,rfl,SqL.of h2,aNY g hk.1 hk.2,aM9 hg,λH3 s3=>?_⟩⟩;have s23:=s2.trans s3;refine⟨(),(),kn,(),.inl ⟨kvs,.inl kd,s23 _ _ hkn,rfl,by rw[dN];omega,rfl⟩,?_⟩;exact⟨(),(),kn,(),.inl ⟨_,.inl kd,.inl eF,rfl,(by rw[Iv,if_pos rfl];rfl)⟩,q _ _ eF (aJY hK kd) (rh _ _ _) λb o n hb=>by rw[eW n];exact s23 _ _ hb⟩
 |some v=>
  have ev:=hK kd v e;subst ev;exact fW ⟨(),(),kn,(),.inl ⟨_,.inl kd,.inl hkn,rfl,e.symm⟩,q kvs H hkn hK ⋯ λ_ _ _ hb=>hb⟩
theorem Oh:Dx P w base ZZ.fj 10 (Nk P w mg base K):=by
 refine ZZ.fj.dfs Uq (by trivial) ?_;rintro f _ _ _ s H _ Q E hr⟨f,mo,g,rfl,hg,hD,q,q0⟩;refine⟨_,(eG (eU 2 (eD (LP ZZ) hr (A1 Y1)) Uq.nd) (eG (eU 3 Tc Uq.nd) (eG (jk (mL ZZ.ai (A1 (fN (v:=.int 492) ZZ.dm ⟨()⟩))) (gN 4 Uq.nd) (eG (eU 5 (eC iJ (fN (v:=.int 1440) ZZ.af ⟨()⟩) (eD (GA ZZ) hr (A3 (eV (gx (K:=K)) Y2 eI) (eV (gx (K:=K)) Y2 eI) eI))) Uq.nd) (eG (eU 6 (gS Cj ZZ.e5 PyProof.Rows.boot_max (A2 (eC gB Y1 Y5) eI)) Uq.nd) (eG (eU 7 (eC m8 (eD (Ot ZZ) hr (A3 Y3 Y0 (eD (qb ZZ) hr (A2 (eV (gx (K:=K)) Y2 eI) (eV (gx (K:=K)) Y2 eI))))) Y6) Uq.nd) (eG (fA (fB ox Y7 eI) (eE (eK (eC fK (eC fK Y5 Y6) (eD (Iq ZZ) hr (A1 Y7))))) fC) (eE (eU 2 (eD (Rw ZZ) hr (A2 (eV (gx (K:=K)) Y2 eI) (eV (gx (K:=K)) Y2 eI))) Uq.nd)))))) PassesOwn.never) (eE (eK eN))))),?_⟩
 extract_lets;have hc:=XM hg;refine⟨(),mo,rfl,λM0 t0 H1 s1 a1 a2 ht0=>λkn hkn=>?_⟩;have hkH:H kn=none:=by
  cases z:H kn with
  |none=>rfl
  |some o=>rw[s1 _ _ z] at hkn;cases hkn
 have sk:=eJ hkn (.dK []);refine⟨(),by decide,by decide,vn (λi σ H2=>∃(tt:Addr) (kvs:List (fG×V)) (u4 u5 u6 u7:Option V),σ=[some (.ref f),some (.int mo),some (.ref tt),some (.ref kn),u4,u5,u6,u7]/\H2 tt=some (.tup [.int ((M0+i) / 12),.int ((M0+i)%12+1)])/\H2 kn=some (.dK kvs)/\oE g kvs/\kvs.length<=i/\Same H H2/\∀t,mo<=t->t<SM (M0+i)->¬pP g t) ⟨t0,[],_,_,_,(),by rw[show M0+((0:Nat):Int)=M0 by omega];exact sk _ _ ht0,eF,λ_ _ z=>(by cases z),aX _,s1.trans sk,λt h1 h2=>by rw[show M0+((0:Nat):Int)=M0 by omega] at h2;unfold SM at h2;omega⟩ ?turn ?done⟩
 case done=>
  rintro σ H2 ⟨tt,kvs,u4,u5,u6,u7,rfl,htt,hk2,hK,hl,s2,hno⟩;exact q0 H2 s2
 case turn=>
  rintro i σ H2 hi ⟨tt,kvs,u4,u5,u6,u7,rfl,htt,hk2,hK,hl,s2,hno⟩;obtain⟨M,eM⟩:∃M,M=M0+(i:Int):=⟨()⟩;rw[←eM] at htt hno;have hi2:i<492:=hi;have lm:=tF M;refine⟨(),tt,_,(()),SqT.of (htt),rfl,(),tt,_,(()),SqT.of (htt),rfl,(M / 12),(M%12+1),1,rfl,⟨⟨⋯,⋯⟩,⋯,by have h:28<=fH (M / 12) (M%12+1):=lm.1;omega⟩,λH3 s3=>⟨(()),.inl ⟨by decide,by decide⟩,?_⟩⟩;have eS:1440*(db (M / 12)+ahead (M / 12) (M%12+1)+1-1)=SM M:=by unfold SM ky;omega
  show iV _ (V.int (1440*(db (M / 12)+ahead (M / 12) (M%12+1)+1-1))) _ _ _;rw[eS];refine⟨(),(),(()),_,(),?_⟩;show iV _ (V.int (if 0>mo-SM M then 0 else mo-SM M)) _ _ _;rw[Yv];have s23:=s2.trans s3;refine⟨(),(),(),tt,_,(()),SqT.of (s3 _ _ htt),rfl,(),tt,_,(()),SqT.of (s3 _ _ htt),rfl,(M / 12),(M%12+1),rfl,⟨⋯,⋯⟩,λH4 s4=>?_⟩;have s24:=s23.trans s4;refine⟨kn,f,md M,kvs,g,H,rfl,Xu M,s4 _ _ (s3 _ _ hk2),hK,⋯,hg,hkH,s24,hD,λkvs' H5 h5 hK5 hl5 k5=>?_⟩
  have s5:Same H H5:=λb o hb=>k5 b o (λz=>by rw[z,hkH] at hb;cases hb) (s24 _ _ hb);have nt:tt≠kn:=λz=>by rw[z,hk2] at htt;cases htt
  have ht5:H5 tt=_:=k5 tt _ nt (s4 _ _ (s3 _ _ htt));refine⟨(),(()),(by show (0:Int)<=max (mo-SM M) 0;omega),?_⟩;refine⟨(),rfl,(),EH (λc=>?_) (λc=>?_)⟩
  ·have X0:0<WM g M / 2^(max (mo-SM M) 0).toNat:=by
    have:0<=WM g M / 2^(max (mo-SM M) 0).toNat:=cX (hc.nn M) (bZ (i9 _));have c':¬WM g M / 2^(max (mo-SM M) 0).toNat=0:=c;omega
   obtain⟨l,hl',hj⟩:=GK X0;obtain⟨b1,b2,b3⟩:=YY hc hno hl' hj;have far:=JB M0 492;have a1':SM M0<=mo:=a1;have up:=hc.mono (show M+1<=M0+(492:Nat) by omega);have hb':=hc.bit M _ (by rw[←mX (hc.nn M)];exact hl');refine⟨(),(),(()),(),_,l,rfl,X0,hl',hj,(()),q _ H5 s5 b1 b2 b3 ?_⟩;omega
  ·refine⟨(),tt,_,(()),SqT.of (ht5),rfl,(),tt,_,(()),SqT.of (ht5),rfl,M,rfl,λt6 H6 s6 h6=>?_⟩;refine⟨t6,kvs',_,_,_,(),by rw[show M0+((i+1:Nat):Int)=M+1 by omega];exact h6,s6 _ _ h5,hK5,⋯,s5.trans s6,?_⟩;rw[show M0+((i+1:Nat):Int)=M+1 by omega];exact NT hc hno c
theorem Nr:Df P w K mg base "next_from" 11 ["row","moment"] (arZ K aB aE aF aI aD aA aH aJ aG aR aS):=by
 refine ZZ.eu.dfs Uz (by trivial) ?_;rintro _ A outer s H _ Q E hr⟨p,mo,m0,m1,m3,kd,kw,rfl,hR,hT,q⟩;refine⟨_,(eG (eU 2 (ZP "row" 0 (Oh ZZ) hr (A2 (uj ZZ.d5) Y1)) Uz.nd) (eG (fA (fB jB Y2 eN) (eE (eK (ix (A2 eN (gD aN))))) fC) (eE (eK (ix (A2 Y2 (eD (Oq ZZ) hr (A3 Y0 Y1 (eC gB Y2 eI))))))))),?_⟩;extract_lets;delta rP mN EG jc;refine Ng (tN:=aR) hT.1 hT.2 (λf' HL hL=>⟨(),(),λha o0 u0 ho r0=>?_⟩)
 obtain⟨hf0,sN,⟨c',ctv,hf,hc⟩,t1⟩:=hL;have nf:f'≠_:=λz=>by rw[z,ha] at hf;cases hf
 have nc:c'≠_:=λz=>by rw[z,ha] at hc;cases hc
 have hg:=hR.ok;have tab:∀{H'},Same HL H'->lU H' aR aS:=λs=>nI s ⟨t1,Ih sN hT.2⟩;refine⟨f',mo,iG (gP m1 m0) m3 kd kw,rfl,hg,?hD,λe H' s' ev h1 h2 h3=>⟨s' _ _ eF,?_⟩,λH' s'=>⟨s' _ _ eF,?_⟩⟩
 case hD=>
  refine T9 ZZ ?hS ?hB1 ?hB2 ((eW nf).trans hf) ((eW nc).trans hc) eF ho r0 (RowR.keepN (sN.trans (jm (uA ha (Same.refl _)))) hR)
  case hS=>exact⟨rfl,rfl,rfl,by decide +kernel,rfl,rfl,by decide +kernel,by decide +kernel⟩
  case hB1=>exact λs u=>.of_eq rfl
  case hB2=>exact λA outer s H1 hr=>ip ZZ.aa.cl (Ke ZZ) hr (v_ 1) (aC (v_ 0) aN)
 ·have sE:=uA ha s';have sNE:=sN.trans (jm sE);refine⟨(),rfl,(),hW (λc=>by cases c) (λ_=>?_)⟩;refine⟨(),(),(),(),(()),p,mo,(e-1),m0,m1,m3,kd,kw,rfl,RowR.keepN sNE hR,λt a b=>h2 t a ⋯,⋯,λl H2 s2=>⟨(zL 2),λt ht=>?_⟩⟩;have s3:=s2.trans (eJ ht (.tup [.int e,.ref l]));exact q t l _ (.int e) (sNE.trans (jm s3)) (tab (sE.trans s3)) eF (.inl ⟨e,rfl⟩)
 ·have sE:=uA ha s';have sNE:=sN.trans (jm sE);refine⟨(),rfl,(),hW (λ_=>?_) (λc=>absurd rfl c)⟩;refine⟨(zL 0),λl hl=>⟨(zL 2),λt ht=>?_⟩⟩;have s3:=(eJ hl (.lst [])).trans (eJ ht (.tup [.non,.ref l]));exact q t l _ .non (sNE.trans (jm s3)) (tab (sE.trans s3)) eF (.inr rfl)
theorem MA{k0 n:Nat}:fV P w K mg base aL "tally" (k0+1) ["self"] (fI (⟨(⟨aB,aE,aF,aI,aD,aA,aH,aJ⟩:Cs),aG,eQ aL aQ aM aO aK aP⟩:Bc) jL (n+1) .B):=by
 refine ZZ.bx.dfs Fv (λvs H Q E h=>?_) (λfz cdv Ar outer s H vs Q E hr h=>?_)
 ·obtain⟨A,x,as,b,rfl,_,rfl,q⟩:=h;rfl
 obtain⟨A,x,as,b,rfl,⟨dx,fs,us,bs,g,hx,hs,hp,hl,rfl⟩,rfl,q⟩:=h;obtain⟨rfl,rfl,rfl⟩:=hs;refine⟨_,(eE (eK eI)),?_⟩;cases hp;exact q _ (Same.refl _)
theorem Z3{k0:Nat}:fV P w K mg base aL "tally" (k0+1) ["self"] (fI (⟨(⟨aB,aE,aF,aI,aD,aA,aH,aJ⟩:Cs),aG,eQ aL aQ aM aO aK aP⟩:Bc) jL 0 .B):=ZZ.bx.dfs Fv (λ_ _ _ _ h=>h.elim) (λ_ _ _ _ _ _ _ _ _ _ h=>h.elim)
theorem SR{k0 n:Nat}:fV P w K mg base aQ "tally" (k0+1) ["self"] (fI (⟨(⟨aB,aE,aF,aI,aD,aA,aH,aJ⟩:Cs),aG,eQ aL aQ aM aO aK aP⟩:Bc) jL (n+1) .O):=by
 refine ZZ.ci.dfs KG (λvs H Q E h=>?_) (λfz cdv Ar outer s H vs Q E hr h=>?_)
 ·obtain⟨A,x,as,b,rfl,_,rfl,q⟩:=h;rfl
 obtain⟨A,x,as,b,rfl,⟨dx,fs,us,bs,g,hx,hs,hp,hl,rfl⟩,rfl,q⟩:=h;obtain⟨r,tm,f,rfl,rfl,hR,rfl⟩:=hs;refine⟨_,(eE (eK eI)),?_⟩;cases hp;exact q _ (Same.refl _)
theorem Vw{k0:Nat}:fV P w K mg base aQ "tally" (k0+1) ["self"] (fI (⟨(⟨aB,aE,aF,aI,aD,aA,aH,aJ⟩:Cs),aG,eQ aL aQ aM aO aK aP⟩:Bc) jL 0 .O):=ZZ.ci.dfs KG (λ_ _ _ _ h=>h.elim) (λ_ _ _ _ _ _ _ _ _ _ h=>h.elim)
theorem Xw{k0 n:Nat}(D0:Df P w K mg base "tally_of" k0 ["books"] (nM K (⟨(⟨aB,aE,aF,aI,aD,aA,aH,aJ⟩:Cs),aG,eQ aL aQ aM aO aK aP⟩:Bc) n)):fV P w K mg base aM "tally" (k0+1) ["self"] (fI (⟨(⟨aB,aE,aF,aI,aD,aA,aH,aJ⟩:Cs),aG,eQ aL aQ aM aO aK aP⟩:Bc) jL (n+1) .J):=by
 refine ZZ.bh.dfs JA (λvs H Q E h=>?_) (λfz cdv Ar outer s H vs Q E hr h=>?_)
 ·obtain⟨A,x,as,b,rfl,_,rfl,q⟩:=h;rfl
 obtain⟨A,x,as,b,rfl,⟨dx,fs,us,bs,g,hx,hs,hp,hl,rfl⟩,rfl,q⟩:=h;obtain⟨t,rfl,ht,h0,rfl⟩:=hs;refine⟨_,(eE (eK (j7 D0 hr (A1 (ii Y0))))),?_⟩;exact⟨(),x,aM,dx,_,(),hx,ZZ.ab.cl,ZZ.ak,rfl,A,t,us,bs,rfl,.inr (SqT.of ht),hp,hl,q⟩
theorem R3{k0:Nat}:fV P w K mg base aM "tally" (k0+1) ["self"] (fI (⟨(⟨aB,aE,aF,aI,aD,aA,aH,aJ⟩:Cs),aG,eQ aL aQ aM aO aK aP⟩:Bc) jL 0 .J):=ZZ.bh.dfs JA (λ_ _ _ _ h=>h.elim) (λ_ _ _ _ _ _ _ _ _ _ h=>h.elim)
theorem Pa{k0 n:Nat}(D0:Df P w K mg base "tally_of" k0 ["books"] (nM K (⟨(⟨aB,aE,aF,aI,aD,aA,aH,aJ⟩:Cs),aG,eQ aL aQ aM aO aK aP⟩:Bc) n)):fV P w K mg base aO "tally" (k0+1) ["self"] (fI (⟨(⟨aB,aE,aF,aI,aD,aA,aH,aJ⟩:Cs),aG,eQ aL aQ aM aO aK aP⟩:Bc) jL (n+1) .M):=by
 refine ZZ.b6.dfs JF (λvs H Q E h=>?_) (λfz cdv Ar outer s H vs Q E hr h=>?_)
 ·obtain⟨A,x,as,b,rfl,_,rfl,q⟩:=h;rfl
 obtain⟨A,x,as,b,rfl,⟨dx,fs,us,bs,g,hx,hs,hp,hl,rfl⟩,rfl,q⟩:=h;obtain⟨t,rfl,ht,h0,rfl⟩:=hs;refine⟨_,(eE (eK (j7 D0 hr (A1 (ii Y0))))),?_⟩;exact⟨(),x,aO,dx,_,(),hx,ZZ.ag.cl,ZZ.ap,rfl,A,t,us,bs,rfl,.inr (SqT.of ht),hp,hl,q⟩
theorem Z0{k0:Nat}:fV P w K mg base aO "tally" (k0+1) ["self"] (fI (⟨(⟨aB,aE,aF,aI,aD,aA,aH,aJ⟩:Cs),aG,eQ aL aQ aM aO aK aP⟩:Bc) jL 0 .M):=ZZ.b6.dfs JF (λ_ _ _ _ h=>h.elim) (λ_ _ _ _ _ _ _ _ _ _ h=>h.elim)
theorem QP{k0 n:Nat}(D0:Df P w K mg base "tally_of" k0 ["books"] (nM K (⟨(⟨aB,aE,aF,aI,aD,aA,aH,aJ⟩:Cs),aG,eQ aL aQ aM aO aK aP⟩:Bc) n)):fV P w K mg base aK "tally" (k0+1) ["self"] (fI (⟨(⟨aB,aE,aF,aI,aD,aA,aH,aJ⟩:Cs),aG,eQ aL aQ aM aO aK aP⟩:Bc) jL (n+1) .L):=by
 refine ZZ.bz.dfs Jw (λvs H Q E h=>?_) (λfz cdv Ar outer s H vs Q E hr h=>?_)
 ·obtain⟨A,x,as,b,rfl,_,rfl,q⟩:=h;rfl
 obtain⟨A,x,as,b,rfl,⟨dx,fs,us,bs,g,hx,hs,hp,hl,rfl⟩,rfl,q⟩:=h;obtain⟨u,w',rfl,rfl,rfl⟩:=hs;refine⟨_,(eE (eK (j7 D0 hr (A1 (gD (A2 (ii Y0) (ii Y0))))))),?_⟩;exact⟨(),x,aK,dx,_,(),hx,ZZ.ad.cl,ZZ.as,rfl,(),x,aK,dx,_,(),hx,ZZ.ad.cl,ZZ.an,rfl,(zL 2),λl hl'=>⟨A,l,_,bs,rfl,.inl (SqL.of eF),Paired.mapP hp λ_ _ z=>z.same (eJ hl' _),hl,λH' s'=>q H' ((eJ hl' _).trans s')⟩⟩
theorem Ts{k0:Nat}:fV P w K mg base aK "tally" (k0+1) ["self"] (fI (⟨(⟨aB,aE,aF,aI,aD,aA,aH,aJ⟩:Cs),aG,eQ aL aQ aM aO aK aP⟩:Bc) jL 0 .L):=ZZ.bz.dfs Jw (λ_ _ _ _ h=>h.elim) (λ_ _ _ _ _ _ _ _ _ _ h=>h.elim)
theorem P9{k0 n:Nat}(D0:Df P w K mg base "tally_of" k0 ["books"] (nM K (⟨(⟨aB,aE,aF,aI,aD,aA,aH,aJ⟩:Cs),aG,eQ aL aQ aM aO aK aP⟩:Bc) n)):fV P w K mg base aP "tally" (k0+1) ["self"] (fI (⟨(⟨aB,aE,aF,aI,aD,aA,aH,aJ⟩:Cs),aG,eQ aL aQ aM aO aK aP⟩:Bc) jL (n+1) .T):=by
 refine ZZ.bi.dfs Jh (λvs H Q E h=>?_) (λfz cdv Ar outer s H vs Q E hr h=>?_)
 ·obtain⟨A,x,as,b,rfl,_,rfl,q⟩:=h;rfl
 obtain⟨A,x,as,b,rfl,⟨dx,fs,us,bs,g,hx,hs,hp,hl,rfl⟩,rfl,q⟩:=h;obtain⟨u,rfl,rfl,rfl⟩:=hs;refine⟨_,(eE (eK (j7 D0 hr (A1 (gD (A1 (ii Y0))))))),?_⟩;exact⟨(),x,aP,dx,_,(),hx,ZZ.ae.cl,ZZ.ao,rfl,(zL 1),λl hl'=>⟨A,l,_,bs,rfl,.inl (SqL.of eF),Paired.mapP hp λ_ _ z=>z.same (eJ hl' _),hl,λH' s'=>q H' ((eJ hl' _).trans s')⟩⟩
theorem TN{k0:Nat}:fV P w K mg base aP "tally" (k0+1) ["self"] (fI (⟨(⟨aB,aE,aF,aI,aD,aA,aH,aJ⟩:Cs),aG,eQ aL aQ aM aO aK aP⟩:Bc) jL 0 .T):=ZZ.bi.dfs Jh (λ_ _ _ _ h=>h.elim) (λ_ _ _ _ _ _ _ _ _ _ h=>h.elim)
theorem EQ{k0 n:Nat}(M0:Mo P w K mg base (⟨(⟨aB,aE,aF,aI,aD,aA,aH,aJ⟩:Cs),aG,eQ aL aQ aM aO aK aP⟩:Bc) "tally" ["self"] k0 (fI (⟨(⟨aB,aE,aF,aI,aD,aA,aH,aJ⟩:Cs),aG,eQ aL aQ aM aO aK aP⟩:Bc) jL n)):Df P w K mg base "tally_of" (k0+1) ["books"] (nM K (⟨(⟨aB,aE,aF,aI,aD,aA,aH,aJ⟩:Cs),aG,eQ aL aQ aM aO aK aP⟩:Bc) n):=by
 refine ZZ.fk.dfs TZ (λvs H Q E h=>?_) (λf cdv A outer s H vs Q E hr h=>?_)
 ·obtain⟨A,a,us,bs,rfl,_⟩:=h;rfl
 obtain⟨A',a,us,bs,rfl,hS,hbs,hl,q⟩:=h;refine⟨_,(eE (eK (eC fK eI (gS Jf ZZ.e4 PyProof.Rows.boot_sum (A1 (kR (jw [] [] (iL Y0) (λ_ _ _ _ _ _=>hZ) (λ_ _ _ _ _ _=>(rd (hk:=aX _) M0 hr Y0))) (jw [] [] (iT Y0) (λ_ _ _ _ _ _=>hZ) (λ_ _ _ _ _ _=>(rd (hk:=aX _) M0 hr Y0))))))))),?_⟩;rcases hS with hS | hS
 ·refine .inl ⟨(),a,rfl,⟨_,hS⟩,nY (xs:=us) (λi l=>l=((bs.take i).map (·.1)).map V.int) (by rw[dN];omega) rfl hS (λi v l D H2 E' F' hv hR hD s2 hz hE hF=>?_) (λD H2 l hR hD s2 hz=>?_)⟩
  ·subst hR;obtain⟨b,eb,hb⟩:=KM.Paired.at hbs hv;exact⟨A',v,b,rfl,hb.same s2,rfl,λH5 s5=>hE _ _ s5 (by rw[bL,eb,bA,bA];rfl)⟩
  ·subst hR;rw[Paired.length hbs,bN] at hz;exact⟨D,bs.map (·.1),rfl,SqL.of hz,(()),q H2 s2⟩
 ·refine .inr ⟨(),a,rfl,⟨_,hS⟩,qK (xs:=us) (λi l=>l=((bs.take i).map (·.1)).map V.int) (by rw[dN];omega) rfl hS (λi v l D H2 E' F' hv hR hD s2 hz hE hF=>?_) (λD H2 l hR hD s2 hz=>?_)⟩
  ·subst hR;obtain⟨b,eb,hb⟩:=KM.Paired.at hbs hv;exact⟨A',v,b,rfl,hb.same s2,rfl,λH5 s5=>hE _ _ s5 (by rw[bL,eb,bA,bA];rfl)⟩
  ·subst hR;rw[Paired.length hbs,bN] at hz;exact⟨D,bs.map (·.1),rfl,SqL.of hz,(()),q H2 s2⟩
theorem IV:∀n:Nat,Mo P w K mg base (⟨(⟨aB,aE,aF,aI,aD,aA,aH,aJ⟩:Cs),aG,eQ aL aQ aM aO aK aP⟩:Bc) "tally" ["self"] (2*n+1) (fI (⟨(⟨aB,aE,aF,aI,aD,aA,aH,aJ⟩:Cs),aG,eQ aL aQ aM aO aK aP⟩:Bc) jL n)
 |0=>λi=>by
  cases i with
  |B=>exact⟨ZZ.ah.cl,Z3 ZZ⟩
  |O=>exact⟨ZZ.aq.cl,Vw ZZ⟩
  |J=>exact⟨ZZ.ab.cl,R3 ZZ⟩
  |M=>exact⟨ZZ.ag.cl,Z0 ZZ⟩
  |L=>exact⟨ZZ.ad.cl,Ts ZZ⟩
  |T=>exact⟨ZZ.ae.cl,TN ZZ⟩
 |n+1=>λi=>by
  have D0:=EQ ZZ (IV n);cases i with
  |B=>exact⟨ZZ.ah.cl,MA ZZ⟩
  |O=>exact⟨ZZ.aq.cl,SR ZZ⟩
  |J=>exact⟨ZZ.ab.cl,Xw ZZ D0⟩
  |M=>exact⟨ZZ.ag.cl,Pa ZZ D0⟩
  |L=>exact⟨ZZ.ad.cl,QP ZZ D0⟩
  |T=>exact⟨ZZ.ae.cl,P9 ZZ D0⟩
theorem VR:Df P w K mg base "tally_of" 10 ["books"] (nM K (⟨(⟨aB,aE,aF,aI,aD,aA,aH,aJ⟩:Cs),aG,eQ aL aQ aM aO aK aP⟩:Bc) 4):=EQ ZZ (IV ZZ 4)
theorem SJ{k0 n:Nat}:fV P w K mg base aL "depth" (k0+1) ["self"] (fI (⟨(⟨aB,aE,aF,aI,aD,aA,aH,aJ⟩:Cs),aG,eQ aL aQ aM aO aK aP⟩:Bc) jT (n+1) .B):=by
 refine ZZ.b0.dfs FZ (λvs H Q E h=>?_) (λfz cdv Ar outer s H vs Q E hr h=>?_)
 ·obtain⟨A,x,as,b,rfl,_,rfl,q⟩:=h;rfl
 obtain⟨A,x,as,b,rfl,⟨dx,fs,us,bs,g,hx,hs,hp,hl,rfl⟩,rfl,q⟩:=h;obtain⟨rfl,rfl,rfl⟩:=hs;refine⟨_,(eE (eK eI)),?_⟩;cases hp;exact q _ (Same.refl _)
theorem Wb{k0:Nat}:fV P w K mg base aL "depth" (k0+1) ["self"] (fI (⟨(⟨aB,aE,aF,aI,aD,aA,aH,aJ⟩:Cs),aG,eQ aL aQ aM aO aK aP⟩:Bc) jT 0 .B):=ZZ.b0.dfs FZ (λ_ _ _ _ h=>h.elim) (λ_ _ _ _ _ _ _ _ _ _ h=>h.elim)
theorem asG{k0 n:Nat}:fV P w K mg base aQ "depth" (k0+1) ["self"] (fI (⟨(⟨aB,aE,aF,aI,aD,aA,aH,aJ⟩:Cs),aG,eQ aL aQ aM aO aK aP⟩:Bc) jT (n+1) .O):=by
 refine ZZ.cj.dfs E2 (λvs H Q E h=>?_) (λfz cdv Ar outer s H vs Q E hr h=>?_)
 ·obtain⟨A,x,as,b,rfl,_,rfl,q⟩:=h;rfl
 obtain⟨A,x,as,b,rfl,⟨dx,fs,us,bs,g,hx,hs,hp,hl,rfl⟩,rfl,q⟩:=h;obtain⟨r,tm,f,rfl,rfl,hR,rfl⟩:=hs;refine⟨_,(eE (eK eI)),?_⟩;cases hp;exact q _ (Same.refl _)
theorem Q5{k0:Nat}:fV P w K mg base aQ "depth" (k0+1) ["self"] (fI (⟨(⟨aB,aE,aF,aI,aD,aA,aH,aJ⟩:Cs),aG,eQ aL aQ aM aO aK aP⟩:Bc) jT 0 .O):=ZZ.cj.dfs E2 (λ_ _ _ _ h=>h.elim) (λ_ _ _ _ _ _ _ _ _ _ h=>h.elim)
theorem Qp{k0 n:Nat}(D0:Df P w K mg base "depth_of" k0 ["books"] (nQ K (⟨(⟨aB,aE,aF,aI,aD,aA,aH,aJ⟩:Cs),aG,eQ aL aQ aM aO aK aP⟩:Bc) n)):fV P w K mg base aM "depth" (k0+1) ["self"] (fI (⟨(⟨aB,aE,aF,aI,aD,aA,aH,aJ⟩:Cs),aG,eQ aL aQ aM aO aK aP⟩:Bc) jT (n+1) .J):=by
 refine ZZ.bj.dfs Hi (λvs H Q E h=>?_) (λfz cdv Ar outer s H vs Q E hr h=>?_)
 ·obtain⟨A,x,as,b,rfl,_,rfl,q⟩:=h;rfl
 obtain⟨A,x,as,b,rfl,⟨dx,fs,us,bs,g,hx,hs,hp,hl,rfl⟩,rfl,q⟩:=h;obtain⟨t,rfl,ht,h0,rfl⟩:=hs;refine⟨_,(eE (eK (j7 D0 hr (A1 (ii Y0))))),?_⟩;exact⟨(),x,aM,dx,_,(),hx,ZZ.ab.cl,ZZ.ak,rfl,A,t,us,bs,rfl,.inr (SqT.of ht),hp,hl,h0,q⟩
theorem VE{k0:Nat}:fV P w K mg base aM "depth" (k0+1) ["self"] (fI (⟨(⟨aB,aE,aF,aI,aD,aA,aH,aJ⟩:Cs),aG,eQ aL aQ aM aO aK aP⟩:Bc) jT 0 .J):=ZZ.bj.dfs Hi (λ_ _ _ _ h=>h.elim) (λ_ _ _ _ _ _ _ _ _ _ h=>h.elim)
theorem Yh{k0 n:Nat}(D0:Df P w K mg base "depth_of" k0 ["books"] (nQ K (⟨(⟨aB,aE,aF,aI,aD,aA,aH,aJ⟩:Cs),aG,eQ aL aQ aM aO aK aP⟩:Bc) n)):fV P w K mg base aO "depth" (k0+1) ["self"] (fI (⟨(⟨aB,aE,aF,aI,aD,aA,aH,aJ⟩:Cs),aG,eQ aL aQ aM aO aK aP⟩:Bc) jT (n+1) .M):=by
 refine ZZ.b7.dfs FV (λvs H Q E h=>?_) (λfz cdv Ar outer s H vs Q E hr h=>?_)
 ·obtain⟨A,x,as,b,rfl,_,rfl,q⟩:=h;rfl
 obtain⟨A,x,as,b,rfl,⟨dx,fs,us,bs,g,hx,hs,hp,hl,rfl⟩,rfl,q⟩:=h;obtain⟨t,rfl,ht,h0,rfl⟩:=hs;refine⟨_,(eE (eK (j7 D0 hr (A1 (ii Y0))))),?_⟩;exact⟨(),x,aO,dx,_,(),hx,ZZ.ag.cl,ZZ.ap,rfl,A,t,us,bs,rfl,.inr (SqT.of ht),hp,hl,h0,q⟩
theorem Nf{k0:Nat}:fV P w K mg base aO "depth" (k0+1) ["self"] (fI (⟨(⟨aB,aE,aF,aI,aD,aA,aH,aJ⟩:Cs),aG,eQ aL aQ aM aO aK aP⟩:Bc) jT 0 .M):=ZZ.b7.dfs FV (λ_ _ _ _ h=>h.elim) (λ_ _ _ _ _ _ _ _ _ _ h=>h.elim)
theorem M8{k0 n:Nat}(D0:Df P w K mg base "depth_of" k0 ["books"] (nQ K (⟨(⟨aB,aE,aF,aI,aD,aA,aH,aJ⟩:Cs),aG,eQ aL aQ aM aO aK aP⟩:Bc) n)):fV P w K mg base aK "depth" (k0+1) ["self"] (fI (⟨(⟨aB,aE,aF,aI,aD,aA,aH,aJ⟩:Cs),aG,eQ aL aQ aM aO aK aP⟩:Bc) jT (n+1) .L):=by
 refine ZZ.b1.dfs HN (λvs H Q E h=>?_) (λfz cdv Ar outer s H vs Q E hr h=>?_)
 ·obtain⟨A,x,as,b,rfl,_,rfl,q⟩:=h;rfl
 obtain⟨A,x,as,b,rfl,⟨dx,fs,us,bs,g,hx,hs,hp,hl,rfl⟩,rfl,q⟩:=h;obtain⟨u,w',rfl,rfl,rfl⟩:=hs;refine⟨_,(eE (eK (j7 D0 hr (A1 (gD (A2 (ii Y0) (ii Y0))))))),?_⟩;exact⟨(),x,aK,dx,_,(),hx,ZZ.ad.cl,ZZ.as,rfl,(),x,aK,dx,_,(),hx,ZZ.ad.cl,ZZ.an,rfl,(zL 2),λl hl'=>⟨A,l,_,bs,rfl,.inl (SqL.of eF),Paired.mapP hp λ_ _ z=>z.same (eJ hl' _),hl,Nat.succ_pos _,λH' s'=>q H' ((eJ hl' _).trans s')⟩⟩
theorem ZR{k0:Nat}:fV P w K mg base aK "depth" (k0+1) ["self"] (fI (⟨(⟨aB,aE,aF,aI,aD,aA,aH,aJ⟩:Cs),aG,eQ aL aQ aM aO aK aP⟩:Bc) jT 0 .L):=ZZ.b1.dfs HN (λ_ _ _ _ h=>h.elim) (λ_ _ _ _ _ _ _ _ _ _ h=>h.elim)
theorem QX{k0 n:Nat}(D0:Df P w K mg base "depth_of" k0 ["books"] (nQ K (⟨(⟨aB,aE,aF,aI,aD,aA,aH,aJ⟩:Cs),aG,eQ aL aQ aM aO aK aP⟩:Bc) n)):fV P w K mg base aP "depth" (k0+1) ["self"] (fI (⟨(⟨aB,aE,aF,aI,aD,aA,aH,aJ⟩:Cs),aG,eQ aL aQ aM aO aK aP⟩:Bc) jT (n+1) .T):=by
 refine ZZ.bk.dfs EU (λvs H Q E h=>?_) (λfz cdv Ar outer s H vs Q E hr h=>?_)
 ·obtain⟨A,x,as,b,rfl,_,rfl,q⟩:=h;rfl
 obtain⟨A,x,as,b,rfl,⟨dx,fs,us,bs,g,hx,hs,hp,hl,rfl⟩,rfl,q⟩:=h;obtain⟨u,rfl,rfl,rfl⟩:=hs;refine⟨_,(eE (eK (j7 D0 hr (A1 (gD (A1 (ii Y0))))))),?_⟩;exact⟨(),x,aP,dx,_,(),hx,ZZ.ae.cl,ZZ.ao,rfl,(zL 1),λl hl'=>⟨A,l,_,bs,rfl,.inl (SqL.of eF),Paired.mapP hp λ_ _ z=>z.same (eJ hl' _),hl,Nat.succ_pos _,λH' s'=>q H' ((eJ hl' _).trans s')⟩⟩
theorem N0{k0:Nat}:fV P w K mg base aP "depth" (k0+1) ["self"] (fI (⟨(⟨aB,aE,aF,aI,aD,aA,aH,aJ⟩:Cs),aG,eQ aL aQ aM aO aK aP⟩:Bc) jT 0 .T):=ZZ.bk.dfs EU (λ_ _ _ _ h=>h.elim) (λ_ _ _ _ _ _ _ _ _ _ h=>h.elim)
theorem Iu{k0 n:Nat}(M0:Mo P w K mg base (⟨(⟨aB,aE,aF,aI,aD,aA,aH,aJ⟩:Cs),aG,eQ aL aQ aM aO aK aP⟩:Bc) "depth" ["self"] k0 (fI (⟨(⟨aB,aE,aF,aI,aD,aA,aH,aJ⟩:Cs),aG,eQ aL aQ aM aO aK aP⟩:Bc) jT n)):Df P w K mg base "depth_of" (k0+1) ["books"] (nQ K (⟨(⟨aB,aE,aF,aI,aD,aA,aH,aJ⟩:Cs),aG,eQ aL aQ aM aO aK aP⟩:Bc) n):=by
 refine ZZ.fl.dfs Xy (λvs H Q E h=>?_) (λf cdv A outer s H vs Q E hr h=>?_)
 ·obtain⟨A,a,us,bs,rfl,_⟩:=h;rfl
 obtain⟨A',a,us,bs,rfl,hS,hbs,hl,h0,q⟩:=h;refine⟨_,(eE (eK (eC fK eI (gS aRV ZZ.e5 PyProof.Rows.boot_max (A1 (kR (jw [] [] (iL Y0) (λ_ _ _ _ _ _=>hZ) (λ_ _ _ _ _ _=>(rd (hk:=aX _) M0 hr Y0))) (jw [] [] (iT Y0) (λ_ _ _ _ _ _=>hZ) (λ_ _ _ _ _ _=>(rd (hk:=aX _) M0 hr Y0))))))))),?_⟩;have mx:∀{M:Int},M∈bs.map (·.2.1)->(∀m∈bs.map (·.2.1),m<=M)->M=(bs.map (·.2.1)).foldl max 0:=λh1 h2=>aFO h1 h2 (by
  obtain⟨b,hb,rfl⟩:=bH.mp h1;obtain⟨u,_,hu⟩:=mm hbs b hb;have:=hu.pos;omega)
 rcases hS with hS | hS
 ·refine .inl ⟨(),a,rfl,⟨_,hS⟩,nY (xs:=us) (λi l=>l=((bs.take i).map (·.2.1)).map V.int) (by rw[dN];omega) rfl hS (λi v l D H2 E' F' hv hR hD s2 hz hE hF=>?_) (λD H2 l hR hD s2 hz=>?_)⟩
  ·subst hR;obtain⟨b,eb,hb⟩:=KM.Paired.at hbs hv;exact⟨A',v,b,rfl,hb.same s2,rfl,λH5 s5=>hE _ _ s5 (by rw[bL,eb,bA,bA];rfl)⟩
  ·subst hR;rw[Paired.length hbs,bN] at hz;exact⟨D,bs.map (·.2.1),rfl,SqL.of hz,(by rw[aY,←Paired.length hbs];exact h0),λM hM hle=>⟨(()),by rw[mx hM hle];exact q H2 s2⟩⟩
 ·refine .inr ⟨(),a,rfl,⟨_,hS⟩,qK (xs:=us) (λi l=>l=((bs.take i).map (·.2.1)).map V.int) (by rw[dN];omega) rfl hS (λi v l D H2 E' F' hv hR hD s2 hz hE hF=>?_) (λD H2 l hR hD s2 hz=>?_)⟩
  ·subst hR;obtain⟨b,eb,hb⟩:=KM.Paired.at hbs hv;exact⟨A',v,b,rfl,hb.same s2,rfl,λH5 s5=>hE _ _ s5 (by rw[bL,eb,bA,bA];rfl)⟩
  ·subst hR;rw[Paired.length hbs,bN] at hz;exact⟨D,bs.map (·.2.1),rfl,SqL.of hz,(by rw[aY,←Paired.length hbs];exact h0),λM hM hle=>⟨(()),by rw[mx hM hle];exact q H2 s2⟩⟩
theorem Js:∀n:Nat,Mo P w K mg base (⟨(⟨aB,aE,aF,aI,aD,aA,aH,aJ⟩:Cs),aG,eQ aL aQ aM aO aK aP⟩:Bc) "depth" ["self"] (2*n+1) (fI (⟨(⟨aB,aE,aF,aI,aD,aA,aH,aJ⟩:Cs),aG,eQ aL aQ aM aO aK aP⟩:Bc) jT n)
 |0=>λi=>by
  cases i with
  |B=>exact⟨ZZ.ah.cl,Wb ZZ⟩
  |O=>exact⟨ZZ.aq.cl,Q5 ZZ⟩
  |J=>exact⟨ZZ.ab.cl,VE ZZ⟩
  |M=>exact⟨ZZ.ag.cl,Nf ZZ⟩
  |L=>exact⟨ZZ.ad.cl,ZR ZZ⟩
  |T=>exact⟨ZZ.ae.cl,N0 ZZ⟩
 |n+1=>λi=>by
  have D0:=Iu ZZ (Js n);cases i with
  |B=>exact⟨ZZ.ah.cl,SJ ZZ⟩
  |O=>exact⟨ZZ.aq.cl,asG ZZ⟩
  |J=>exact⟨ZZ.ab.cl,Qp ZZ D0⟩
  |M=>exact⟨ZZ.ag.cl,Yh ZZ D0⟩
  |L=>exact⟨ZZ.ad.cl,M8 ZZ D0⟩
  |T=>exact⟨ZZ.ae.cl,QX ZZ D0⟩
theorem PP:Df P w K mg base "depth_of" 10 ["books"] (nQ K (⟨(⟨aB,aE,aF,aI,aD,aA,aH,aJ⟩:Cs),aG,eQ aL aQ aM aO aK aP⟩:Bc) 4):=Iu ZZ (Js ZZ 4)
theorem vv:Dx P w base ZZ.f3 11 (S2 K aB aE aF aI aD aA aH aJ aG aL aQ aM aO aK aP):=by
 refine ZZ.f3.dfs YZ (by trivial) ?_;rintro _ _ _ _ s H _ Q E hr⟨A',a,us,bs,rfl,hS,⟨hbs,hl,h0,hok⟩,q⟩;refine⟨_,(eG (fA (iu (gW (gS sM ZZ.cx boot_all (A1 (jw [] [] (kN (K:=K) Y0) (λ_ _ _ _ _ _=>hZ) (λ_ _ _ _ _ _=>(gS (AM (K:=K)) ZZ.ac PyProof.Rows.boot_isinstance (A2 Y0 (fN (v:=.ref aL) ZZ.ah.at_ rfl))))))))) (eE jV) fC) (eG (fA (fB km (eD (VR ZZ) hr (A1 Y0)) (fN (v:=.int 24) ZZ.d2 ⟨()⟩)) (eE jV) fC) (eG (fA (fB km (eD (PP ZZ) hr (A1 Y0)) (fN (v:=.int 5) ZZ.d3 ⟨()⟩)) (eE jV) fC) (eE (eK (jx A8 ZZ.ge PyProof.Rows.boot_tuple (A1 Y0))))))),?_⟩
 extract_lets;have bf:∀i,BF K ((⟨(⟨aB,aE,aF,aI,aD,aA,aH,aJ⟩:Cs),aG,eQ aL aQ aM aO aK aP⟩:Bc).k .B) ((⟨(⟨aB,aE,aF,aI,aD,aA,aH,aJ⟩:Cs),aG,eQ aL aQ aM aO aK aP⟩:Bc).k i) true:=λi=>by cases i with
  |B=>exact⟨ZZ.f9,ZZ.ah.cl,ZZ.gb⟩
  |O=>exact⟨ZZ.gl,ZZ.aq.cl,ZZ.gm⟩
  |J=>exact⟨ZZ.fo,ZZ.ab.cl,ZZ.fq⟩
  |M=>exact⟨ZZ.gg,ZZ.ag.cl,ZZ.gh⟩
  |L=>exact⟨ZZ.ga,ZZ.ad.cl,ZZ.gc⟩
  |T=>exact⟨ZZ.fp,ZZ.ae.cl,ZZ.fr⟩
 obtain⟨bl,hbl,eb⟩:∃bl,Paired (BS K aL H) us bl/\bl.all id=true:=Kf λv hv=>by
  obtain⟨b,hb⟩:=Ei hbs v hv;exact hb.isB bf
 refine⟨(),a,rfl,⟨_,hS⟩,nY (xs:=us) (λi l=>l=(bl.take i).map V.bl) (by rw[dN];omega) rfl hS (λi v l D H2 E' F' hv hR hD s2 hz hE hF=>?_) (λD H2 l hR hD s2 hz=>?_)⟩
 ·subst hR;obtain⟨b,eb',t,ht,hk⟩:=KM.Paired.at hbl hv;exact⟨(),v,t,aL,b,rfl,MH s2 ht,hk,hE _ _ (Same.refl _) (by rw[bL,eb',bA];rfl)⟩
 subst hR;refine⟨D,bl,rfl,SqL.of (by rw[hz,Paired.length hbl,bN]),(),?_⟩;rw[eb];refine fW ⟨(),A',a,us,bs,rfl,.inl (s2.seq hS),Paired.mapP hbs λ_ _ z=>z.same s2,hl,λH3 s3=>⟨(()),(),hW (λc=>absurd hok.1 ⋯) (λc=>?_)⟩⟩;have s23:=s2.trans s3;refine⟨(),A',a,us,bs,rfl,.inl (s23.seq hS),Paired.mapP hbs λ_ _ z=>z.same s23,hl,h0,λH4 s4=>⟨(()),(),hW (λc4=>absurd hok.2 ⋯) (λc4=>?_)⟩⟩;exact⟨(),a,us,rfl,.inl ⟨(s23.trans s4).seq hS,λt ht=>q t _ ((s23.trans s4).trans (eJ ht _)) eF⟩⟩
theorem FC:Dx P w base ZZ.dg 12 (al7 K aB aE aF aI aD aA aH aJ aG aL aQ aM aO aK aP):=by
 refine ZZ.dg.dfs M7 (by trivial) ?_;rintro _ _ _ _ s H _ Q E hr⟨A',a,us,bs,rfl,hS,hb,q⟩;refine⟨_,(eG (fA (tW (j6 (iu (gW (gS pk ZZ.ac PyProof.Rows.boot_isinstance (A2 Y0 (l6 ZZ.co PyProof.Rows.boot_list))))) (ke (iu (Ii kS kS eI (gS (kO (K:=K)) ZZ.am PySem.boot_len (A1 Y0)) (fN (v:=.int 8) ZZ.d4 ⟨()⟩)))))) (eE jV) fC) (eE (eK (eD (vv ZZ) hr (A1 Y0))))),?_⟩;extract_lets;have hl:=hb.2.1
 have h0:=hb.2.2.1;refine⟨(),.ref a,.list,.list,rfl,(by decide),.inl ⟨rfl,us,hS⟩,(),fW ⟨(),a,us,rfl,.inl hS,(()),(),?_⟩⟩;rw[dQ (show (1:Int)<=((us.length:Nat):Int) by omega)];refine gE ⟨(()),(),?_⟩;rw[dQ (show ((us.length:Nat):Int)<=8 by omega)];exact fW ⟨(),A',a,us,bs,rfl,hS,hb,q⟩
theorem Xz:Dm P w mg base ZZ.dv 1 (Nm K aQ aB aE aF aI aD aA aH aJ aG aL aQ aM aO aK aP):=by
 refine ZZ.dv.dfs WY (by trivial) ?_;rintro _ _ _ _ s H _ Q E hr⟨p,dx,x,dr,fr,rfl,hp,hx,q⟩;refine⟨_,(eG (fA (iu (gW (gS IC ZZ.ac PyProof.Rows.boot_isinstance (A2 Y1 (fN (v:=.ref aG) ZZ.aa.at_ rfl))))) (eE jV) fC) (eE (iY Y0 Y1))),?_⟩;extract_lets;exact⟨(),.ref x,_,aG,true,rfl,ZZ.gi.ty ZZ.aa.cl hx,ZZ.gj,(),fW ⟨(),(),p,aQ,dx,(),hp,ZZ.aq.cl,ZZ.bs,(by show 0<1000;decide),q⟩⟩
theorem K6:Dm P w mg base ZZ.cs 13 (Qa K aM aB aE aF aI aD aA aH aJ aG aL aQ aM aO aK aP):=by
 refine ZZ.cs.dfs ahO (by trivial) ?_;rintro _ _ _ _ s H _ Q E hr⟨p,dx,a,A',us,bs,rfl,hp,hS,hb,q⟩;refine⟨_,(eE (iY Y0 (eD (FC ZZ) hr (A1 Y1)))),?_⟩;exact⟨(),A',a,us,bs,rfl,hS,hb,λt H' s' ht=>⟨(),p,aM,dx,(),s' _ _ hp,ZZ.ab.cl,ZZ.ak,(by show 0<1000;decide),q t _ eF (by rw[eW (λe=>by rw[e,s' _ _ hp] at ht;cases ht)];exact ht) λb o hb ne=>by rw[eW ne];exact s' _ _ hb⟩⟩
theorem IP:Dm P w mg base ZZ.dh 13 (LO K aO aB aE aF aI aD aA aH aJ aG aL aQ aM aO aK aP):=by
 refine ZZ.dh.dfs Zk (by trivial) ?_;rintro _ _ _ _ s H _ Q E hr⟨p,dx,a,A',us,bs,rfl,hp,hS,hb,q⟩;refine⟨_,(eE (iY Y0 (eD (FC ZZ) hr (A1 Y1)))),?_⟩;exact⟨(),A',a,us,bs,rfl,hS,hb,λt H' s' ht=>⟨(),p,aO,dx,(),s' _ _ hp,ZZ.ag.cl,ZZ.ap,(by show 0<1000;decide),q t _ eF (by rw[eW (λe=>by rw[e,s' _ _ hp] at ht;cases ht)];exact ht) λb o hb ne=>by rw[eW ne];exact s' _ _ hb⟩⟩
theorem My:Dm P w mg base ZZ.c6 12 (YC K aK aB aE aF aI aD aA aH aJ aG aL aQ aM aO aK aP):=by
 refine ZZ.c6.dfs ajT (by trivial) ?_;rintro _ _ _ _ s H _ Q E hr⟨p,dx,A',u,w',bs,rfl,hp,hb,q⟩;refine⟨_,(eG (li (eD (vv ZZ) hr (A1 (gD (A2 Y1 Y2))))) (eG (iY Y0 Y1) (eE (iY Y0 Y2)))),?_⟩;extract_lets;exact⟨(),(),(zL 2),λl hl=>⟨A',l,[u,w'],bs,rfl,SqL.of eF,hb.same (eJ hl _),λt H' s' ht=>⟨(),(),p,aK,dx,(),(s' _ _ (eJ hl _ _ _ hp)),ZZ.ad.cl,ZZ.as,(by show 0<1000;decide),(),(),p,aK,dx,(),eF,ZZ.ad.cl,ZZ.an,(by show 1<1000;decide),q _ eF λb o hb ne=>by rw[eW ne,eW ne];exact s' _ _ (eJ hl _ _ _ hb)⟩⟩⟩
theorem ahJ:Dm P w mg base ZZ.ct 12 (ah2 K aP aB aE aF aI aD aA aH aJ aG aL aQ aM aO aK aP):=by
 refine ZZ.ct.dfs ah1 (by trivial) ?_;rintro _ _ _ _ s H _ Q E hr⟨p,dx,A',u,bs,rfl,hp,hb,q⟩;refine⟨_,(eG (li (eD (vv ZZ) hr (A1 (gD (A1 Y1))))) (eE (iY Y0 Y1))),?_⟩;extract_lets;exact⟨(),(zL 1),λl hl=>⟨A',l,[u],bs,rfl,SqL.of eF,hb.same (eJ hl _),λt H' s' ht=>⟨(),(),p,aP,dx,(),(s' _ _ (eJ hl _ _ _ hp)),ZZ.ae.cl,ZZ.ao,(by show 0<1000;decide),q _ eF λb o hb ne=>by rw[eW ne];exact s' _ _ (eJ hl _ _ _ hb)⟩⟩⟩
theorem uw:Dx P w base ZZ.c7 4 (W9 K):=by
 refine ZZ.c7.dfs OZ (by trivial) ?_;rintro _ _ _ _ s H _ Q E hr⟨i,k,rfl,hk,q⟩;refine⟨_,(eE (eK (eC yP (gD (A1 Y0)) (eV (gx (K:=K)) (eD (n6 ZZ) hr (A1 Y1)) eI)))),?_⟩;have ml:=(kM hk.1 hk.2).2.1;refine⟨(),(zL 1),λl hl=>⟨(),k,rfl,hk,λt H2 s2 h2=>⟨t,_,(()),SqT.of (by rw[mY] at h2;exact h2),rfl,l,(()),s2 _ _ eF,⋯,⋯,(by rw[dN];show 1*_<=_;omega),λp hp=>q p _ (((eJ hl _).trans s2).none hp) ((eJ hl _).trans (s2.trans (eJ hp _))) ?_⟩⟩⟩
 rw[Cy];exact eF
theorem KH:Dx P w base ZZ.ev 1 (Vx K):=by
 refine ZZ.ev.dfs WQ (by trivial) ?_;rintro _ _ _ _ s H _ Q E hr⟨rfl,q⟩;refine⟨_,(eE (eK (eC gB (eC j5 eI (fN (v:=.int 1440) ZZ.af ⟨()⟩)) eI))),?_⟩;exact⟨(()),⟨by decide,by decide,by decide⟩,(()),q⟩
theorem ajY{k0 n:Nat}:fV P w K mg base aL "on_days" (k0+13) ["self","kind"] (fI (⟨(⟨aB,aE,aF,aI,aD,aA,aH,aJ⟩:Cs),aG,eQ aL aQ aM aO aK aP⟩:Bc) iF (n+1) .B):=by
 refine ZZ.bl.dfs F3 (λvs H Q E h=>?_) (λfz cdv Ar outer s H vs Q E hr h=>?_)
 ·obtain⟨A,x,as,b,rfl,_,k,rfl,hk,q⟩:=h;rfl
 obtain⟨A,x,as,b,rfl,⟨dx,fs,us,bs,g,hx,hs,hp,hl,rfl⟩,k,rfl,hk,q⟩:=h;obtain⟨rfl,rfl,rfl⟩:=hs;refine⟨_,(eE (eK (eD (hk:=by omega) (uw ZZ) hr (A2 eI Y1)))),?_⟩;cases hp;exact⟨(),0,k,rfl,hk,q⟩
theorem agE{k0:Nat}:fV P w K mg base aL "on_days" (k0+1) ["self","kind"] (fI (⟨(⟨aB,aE,aF,aI,aD,aA,aH,aJ⟩:Cs),aG,eQ aL aQ aM aO aK aP⟩:Bc) iF 0 .B):=ZZ.bl.dfs F3 (λ_ _ _ _ h=>h.elim) (λ_ _ _ _ _ _ _ _ _ _ h=>h.elim)
theorem aoC{k0 n:Nat}:fV P w K mg base aQ "on_days" (k0+13) ["self","kind"] (fI (⟨(⟨aB,aE,aF,aI,aD,aA,aH,aJ⟩:Cs),aG,eQ aL aQ aM aO aK aP⟩:Bc) iF (n+1) .O):=by
 refine ZZ.b2.dfs Hg (λvs H Q E h=>?_) (λfz cdv Ar outer s H vs Q E hr h=>?_)
 ·obtain⟨A,x,as,b,rfl,_,k,rfl,hk,q⟩:=h;rfl
 obtain⟨A,x,as,b,rfl,⟨dx,fs,us,bs,g,hx,hs,hp,hl,rfl⟩,k,rfl,hk,q⟩:=h;obtain⟨r,tm,f,rfl,rfl,hR,rfl⟩:=hs;refine⟨_,(eE (eK (ip (hk:=by omega) ZZ.aa.cl (Ke ZZ) hr (ii Y0) (A1 Y1)))),?_⟩;cases hp;obtain⟨xr,m0,m1,m3,kd,kw,rfl,⟨dr,dv,wv,hr',hn,hb,hd,hw,_⟩,rfl,rfl⟩:=hR;exact⟨(),x,aQ,dx,_,(),hx,ZZ.aq.cl,ZZ.bs,rfl,xr,dr,(),hr',Eb ..,(),xr,dr,m0,m1,m3,gP m1 m0,k,dv,wv,kd,kw,rfl,hr',hk,hn.2.2,hd,hw,q⟩
theorem X8{k0:Nat}:fV P w K mg base aQ "on_days" (k0+1) ["self","kind"] (fI (⟨(⟨aB,aE,aF,aI,aD,aA,aH,aJ⟩:Cs),aG,eQ aL aQ aM aO aK aP⟩:Bc) iF 0 .O):=ZZ.b2.dfs Hg (λ_ _ _ _ h=>h.elim) (λ_ _ _ _ _ _ _ _ _ _ h=>h.elim)
theorem N5{k0 n:Nat}(M0:Mo P w K mg base (⟨(⟨aB,aE,aF,aI,aD,aA,aH,aJ⟩:Cs),aG,eQ aL aQ aM aO aK aP⟩:Bc) "on_days" ["self","kind"] (k0+12) (fI (⟨(⟨aB,aE,aF,aI,aD,aA,aH,aJ⟩:Cs),aG,eQ aL aQ aM aO aK aP⟩:Bc) iF n)):fV P w K mg base aM "on_days" (k0+13) ["self","kind"] (fI (⟨(⟨aB,aE,aF,aI,aD,aA,aH,aJ⟩:Cs),aG,eQ aL aQ aM aO aK aP⟩:Bc) iF (n+1) .J):=by
 refine ZZ.a8.dfs U0 (λvs H Q E h=>?_) (λfz cdv Ar outer s H vs Q E hr h=>?_)
 ·obtain⟨A,x,as,b,rfl,_,k,rfl,hk,q⟩:=h;rfl
 obtain⟨A,x,as,b,rfl,⟨dx,fs,us,bs,g,hx,hs,hp,hl,rfl⟩,k,rfl,hk,q⟩:=h;obtain⟨t,rfl,ht,h0,rfl⟩:=hs;refine⟨_,(hU (eU 2 (eD (hk:=by omega) (uw ZZ) hr (A2 eI Y1)) U0.nd) (eG (jk (iT (ii Y0)) (gN 3 U0.nd) (eE (Gh 2 ["times","others"] [] [] (iZ ZZ.cy Y2 (kr M0 hr Y3 kh Y1)) (λ_ _ _ _ _ _=>mD (K:=K) (n:=2) (iz (gN 0 (show ((["times","others"]:List Str)++([]:List Str)).Nodup by decide +kernel)) (iz (gN 1 (show ((["times","others"]:List Str)++([]:List Str)).Nodup by decide +kernel)) k8))) (λ_ _ _ _ _ _=>hZ) (λ_ _ _ _ _ _=>(eC kJ Y0 Y1)) U0.nd)) PassesOwn.never) (eE (eK Y2)))),?_⟩
 extract_lets;refine⟨λσ' H'=>∃D,σ'=[some (.ref x),some (.int k),some (.ref D),none]/\H D=none/\Same H H'/\H' D=some (.lst ((fX (iO []) k).map V.int)),?first,?_⟩
 case first=>exact⟨(),0,k,rfl,hk,λD H1 nD s1 h1=>⟨D,rfl,nD,s1,h1⟩⟩
 rintro σ' H1 ⟨D,rfl,nD,s1,hD⟩;refine⟨(),x,aM,dx,_,(),s1 _ _ hx,ZZ.ab.cl,ZZ.ak,rfl,t,rfl,⟨_,SqT.of (s1 _ _ ht)⟩,pQ (K:=K) (a:=t) (xs:=us) (λi σ H2=>∃(D:Addr) (v3:Option V),σ=[some (.ref x),some (.int k),some (.ref D),v3]/\H D=none/\Same H1 H2/\H2 D=some (.lst ((fX (iO ((bs.map (·.2.2)).take i)) k).map V.int))) ⟨D,(),nD,Same.refl _,hD⟩ (λi σ H2 _ ⟨_,_,_,_,s2,_⟩=>SqT.of ((s1.trans s2) _ _ ht)) ?turn ?done⟩
 case done=>
  rintro σ H2 ⟨D,v3,rfl,nD,s2,hD⟩;rw[Paired.length hp,←aY (f:=λb:Bt=>b.2.2),bN] at hD;exact⟨(),q D H2 nD (s1.trans s2) hD⟩
 case turn=>
  rintro i v σ H2 hv ⟨D,v3,rfl,nD,s2,hD⟩;obtain⟨b,eb,hb⟩:=KM.Paired.at hp hv;have eg:(bs.map (·.2.2))[i]? =some b.2.2:=by rw[bI,eb];rfl
  refine⟨(),(),A,_,b,rfl,hb.same (s1.trans s2),k,rfl,hk,λD2 H3 _ s3 h3=>⟨D,D2,rfl,rfl,⟨_,SqL.of (s3 _ _ hD)⟩,⟨_,SqL.of h3⟩,xm (xs:=(fX (iO ((bs.map (·.2.2)).take i)) k).map V.int) (ys:=(fX b.2.2 k).map V.int) (λj l=>l=((List.range j).map (iO ((bs.map (·.2.2)).take (i+1)) k)).map V.int) (by rw[aY,iw,dN];have:=oH hk.1 hk.2;omega) (by rw[aY,aY,iw,iw]) rfl (SqL.of (s3 _ _ hD)) (SqL.of h3) (λj a b l D3 H4 E' F' ha hb hR hD3 s4 hl hE hF=>?_) (λD3 H4 l hR hD3 s4 hl=>?_)⟩⟩
  ·subst hR;obtain⟨rfl,_⟩:=lL ha;obtain⟨rfl,_⟩:=lL hb;refine⟨(),(),(()),hE _ _ (Same.refl _) ?_⟩;rw[cC,bA,bA];show _=_++[V.int (iO ((bs.map (·.2.2)).take (i+1)) k j)];rw[Br eg]
  ·subst hR;exact⟨D3,(),(s1.trans (s2.trans s3)).none hD3,s2.trans (s3.trans s4),by rw[hl,aY,iw];rfl⟩
theorem aeY{k0:Nat}:fV P w K mg base aM "on_days" (k0+1) ["self","kind"] (fI (⟨(⟨aB,aE,aF,aI,aD,aA,aH,aJ⟩:Cs),aG,eQ aL aQ aM aO aK aP⟩:Bc) iF 0 .J):=ZZ.a8.dfs U0 (λ_ _ _ _ h=>h.elim) (λ_ _ _ _ _ _ _ _ _ _ h=>h.elim)
theorem ZU{k0 n:Nat}(M0:Mo P w K mg base (⟨(⟨aB,aE,aF,aI,aD,aA,aH,aJ⟩:Cs),aG,eQ aL aQ aM aO aK aP⟩:Bc) "on_days" ["self","kind"] (k0+12) (fI (⟨(⟨aB,aE,aF,aI,aD,aA,aH,aJ⟩:Cs),aG,eQ aL aQ aM aO aK aP⟩:Bc) iF n)):fV P w K mg base aO "on_days" (k0+13) ["self","kind"] (fI (⟨(⟨aB,aE,aF,aI,aD,aA,aH,aJ⟩:Cs),aG,eQ aL aQ aM aO aK aP⟩:Bc) iF (n+1) .M):=by
 refine ZZ.br.dfs U1 (λvs H Q E h=>?_) (λfz cdv Ar outer s H vs Q E hr h=>?_)
 ·obtain⟨A,x,as,b,rfl,_,k,rfl,hk,q⟩:=h;rfl
 obtain⟨A,x,as,b,rfl,⟨dx,fs,us,bs,g,hx,hs,hp,hl,rfl⟩,k,rfl,hk,q⟩:=h;obtain⟨t,rfl,ht,h0,rfl⟩:=hs;refine⟨_,(hU (eU 2 (eD (hk:=by omega) (uw ZZ) hr (A2 (JG (hk:=by omega) (KH ZZ) hr) Y1)) U1.nd) (eG (jk (iT (ii Y0)) (gN 3 U1.nd) (eE (Gh 2 ["times","others"] [] [] (iZ ZZ.cy Y2 (kr M0 hr Y3 kh Y1)) (λ_ _ _ _ _ _=>mD (K:=K) (n:=2) (iz (gN 0 (show ((["times","others"]:List Str)++([]:List Str)).Nodup by decide +kernel)) (iz (gN 1 (show ((["times","others"]:List Str)++([]:List Str)).Nodup by decide +kernel)) k8))) (λ_ _ _ _ _ _=>hZ) (λ_ _ _ _ _ _=>(eC kz Y0 Y1)) U1.nd)) PassesOwn.never) (eE (eK Y2)))),?_⟩
 extract_lets;refine⟨λσ' H'=>∃D,σ'=[some (.ref x),some (.int k),some (.ref D),none]/\H D=none/\Same H H'/\H' D=some (.lst ((fX (iM []) k).map V.int)),?first,?_⟩
 case first=>exact⟨rfl,(),allT,k,rfl,hk,λD H1 nD s1 h1=>⟨D,rfl,nD,s1,h1⟩⟩
 rintro σ' H1 ⟨D,rfl,nD,s1,hD⟩;refine⟨(),x,aO,dx,_,(),s1 _ _ hx,ZZ.ag.cl,ZZ.ap,rfl,t,rfl,⟨_,SqT.of (s1 _ _ ht)⟩,pQ (K:=K) (a:=t) (xs:=us) (λi σ H2=>∃(D:Addr) (v3:Option V),σ=[some (.ref x),some (.int k),some (.ref D),v3]/\H D=none/\Same H1 H2/\H2 D=some (.lst ((fX (iM ((bs.map (·.2.2)).take i)) k).map V.int))) ⟨D,(),nD,Same.refl _,hD⟩ (λi σ H2 _ ⟨_,_,_,_,s2,_⟩=>SqT.of ((s1.trans s2) _ _ ht)) ?turn ?done⟩
 case done=>
  rintro σ H2 ⟨D,v3,rfl,nD,s2,hD⟩;rw[Paired.length hp,←aY (f:=λb:Bt=>b.2.2),bN] at hD;exact⟨(),q D H2 nD (s1.trans s2) hD⟩
 case turn=>
  rintro i v σ H2 hv ⟨D,v3,rfl,nD,s2,hD⟩;obtain⟨b,eb,hb⟩:=KM.Paired.at hp hv;have eg:(bs.map (·.2.2))[i]? =some b.2.2:=by rw[bI,eb];rfl
  refine⟨(),(),A,_,b,rfl,hb.same (s1.trans s2),k,rfl,hk,λD2 H3 _ s3 h3=>⟨D,D2,rfl,rfl,⟨_,SqL.of (s3 _ _ hD)⟩,⟨_,SqL.of h3⟩,xm (xs:=(fX (iM ((bs.map (·.2.2)).take i)) k).map V.int) (ys:=(fX b.2.2 k).map V.int) (λj l=>l=((List.range j).map (iM ((bs.map (·.2.2)).take (i+1)) k)).map V.int) (by rw[aY,iw,dN];have:=oH hk.1 hk.2;omega) (by rw[aY,aY,iw,iw]) rfl (SqL.of (s3 _ _ hD)) (SqL.of h3) (λj a b l D3 H4 E' F' ha hb hR hD3 s4 hl hE hF=>?_) (λD3 H4 l hR hD3 s4 hl=>?_)⟩⟩
  ·subst hR;obtain⟨rfl,_⟩:=lL ha;obtain⟨rfl,_⟩:=lL hb;refine⟨(),(),(()),hE _ _ (Same.refl _) ?_⟩;rw[cC,bA,bA];show _=_++[V.int (iM ((bs.map (·.2.2)).take (i+1)) k j)];rw[wJ eg]
  ·subst hR;exact⟨D3,(),(s1.trans (s2.trans s3)).none hD3,s2.trans (s3.trans s4),by rw[hl,aY,iw];rfl⟩
theorem WE{k0:Nat}:fV P w K mg base aO "on_days" (k0+1) ["self","kind"] (fI (⟨(⟨aB,aE,aF,aI,aD,aA,aH,aJ⟩:Cs),aG,eQ aL aQ aM aO aK aP⟩:Bc) iF 0 .M):=ZZ.br.dfs U1 (λ_ _ _ _ h=>h.elim) (λ_ _ _ _ _ _ _ _ _ _ h=>h.elim)
theorem T3{k0 n:Nat}(M0:Mo P w K mg base (⟨(⟨aB,aE,aF,aI,aD,aA,aH,aJ⟩:Cs),aG,eQ aL aQ aM aO aK aP⟩:Bc) "on_days" ["self","kind"] (k0+12) (fI (⟨(⟨aB,aE,aF,aI,aD,aA,aH,aJ⟩:Cs),aG,eQ aL aQ aM aO aK aP⟩:Bc) iF n)):fV P w K mg base aK "on_days" (k0+13) ["self","kind"] (fI (⟨(⟨aB,aE,aF,aI,aD,aA,aH,aJ⟩:Cs),aG,eQ aL aQ aM aO aK aP⟩:Bc) iF (n+1) .L):=by
 refine ZZ.bm.dfs Jp (λvs H Q E h=>?_) (λfz cdv Ar outer s H vs Q E hr h=>?_)
 ·obtain⟨A,x,as,b,rfl,_,k,rfl,hk,q⟩:=h;rfl
 obtain⟨A,x,as,b,rfl,⟨dx,fs,us,bs,g,hx,hs,hp,hl,rfl⟩,k,rfl,hk,q⟩:=h;obtain⟨u,w',rfl,rfl,rfl⟩:=hs;refine⟨_,(eE (eK (G8 ["times","others"] [] [] (iZ ZZ.cy (kr M0 hr (ii Y0) (ou kh) Y1) (kr M0 hr (ii Y0) (ou kh) Y1)) (λ_ _ _ _ _ _=>mD (K:=K) (n:=2) (iz (gN 0 (show ((["times","others"]:List Str)++([]:List Str)).Nodup by decide +kernel)) (iz (gN 1 (show ((["times","others"]:List Str)++([]:List Str)).Nodup by decide +kernel)) k8))) (λ_ _ _ _ _ _=>hZ) (λ_ _ _ _ _ _=>(eC kz Y0 (kQ yZ Y1)))))),?_⟩
 obtain⟨b1,b2,rfl,h1,h2⟩:=EF hp;refine⟨(),x,aK,dx,_,(),hx,ZZ.ad.cl,ZZ.as,rfl,A,_,b1,rfl,h1,k,rfl,hk,λD1 H1 _ s1 e1=>⟨(),x,aK,dx,_,(),s1 _ _ hx,ZZ.ad.cl,ZZ.an,rfl,A,_,b2,rfl,h2.same s1,k,rfl,hk,λD2 H2 _ s2 e2=>⟨D1,D2,rfl,rfl,⟨_,SqL.of (s2 _ _ e1)⟩,⟨_,SqL.of e2⟩,xm (xs:=(fX b1.2.2 k).map V.int) (ys:=(fX b2.2.2 k).map V.int) (λj l=>l=((List.range j).map (qT b1.2.2 b2.2.2 k)).map V.int) (by rw[aY,iw,dN];have:=oH hk.1 hk.2;omega) (by rw[aY,aY,iw,iw]) rfl (SqL.of (s2 _ _ e1)) (SqL.of e2) (λj u v l D3 H4 E' F' ha hb hR hD3 s4 hl hE hF=>?_) (λD3 H4 l hR hD3 s4 hl=>?_)⟩⟩⟩
 ·subst hR;obtain⟨rfl,_⟩:=lL ha;obtain⟨rfl,_⟩:=lL hb;refine⟨(),(),(),(()),hE _ _ (Same.refl _) ?_⟩;rw[cC,bA,bA];rfl
 ·subst hR;exact q D3 H4 ((s1.trans s2).none hD3) (s1.trans (s2.trans s4)) (by rw[hl,aY,iw];rfl)
theorem XY{k0:Nat}:fV P w K mg base aK "on_days" (k0+1) ["self","kind"] (fI (⟨(⟨aB,aE,aF,aI,aD,aA,aH,aJ⟩:Cs),aG,eQ aL aQ aM aO aK aP⟩:Bc) iF 0 .L):=ZZ.bm.dfs Jp (λ_ _ _ _ h=>h.elim) (λ_ _ _ _ _ _ _ _ _ _ h=>h.elim)
theorem Pb{k0 n:Nat}(M0:Mo P w K mg base (⟨(⟨aB,aE,aF,aI,aD,aA,aH,aJ⟩:Cs),aG,eQ aL aQ aM aO aK aP⟩:Bc) "on_days" ["self","kind"] (k0+12) (fI (⟨(⟨aB,aE,aF,aI,aD,aA,aH,aJ⟩:Cs),aG,eQ aL aQ aM aO aK aP⟩:Bc) iF n)):fV P w K mg base aP "on_days" (k0+13) ["self","kind"] (fI (⟨(⟨aB,aE,aF,aI,aD,aA,aH,aJ⟩:Cs),aG,eQ aL aQ aM aO aK aP⟩:Bc) iF (n+1) .T):=by
 refine ZZ.a9.dfs HP (λvs H Q E h=>?_) (λfz cdv Ar outer s H vs Q E hr h=>?_)
 ·obtain⟨A,x,as,b,rfl,_,k,rfl,hk,q⟩:=h;rfl
 obtain⟨A,x,as,b,rfl,⟨dx,fs,us,bs,g,hx,hs,hp,hl,rfl⟩,k,rfl,hk,q⟩:=h;obtain⟨u,rfl,rfl,rfl⟩:=hs;refine⟨_,(eE (eK (jw [] [] (iL (kr M0 hr (ii Y0) (ou kh) Y1)) (λ_ _ _ _ _ _=>hZ) (λ_ _ _ _ _ _=>(eC Dt (JG (hk:=by omega) (KH ZZ) hr) Y0))))),?_⟩;obtain⟨b1,rfl,h1⟩:=Bw hp;refine⟨(),x,aP,dx,_,(),hx,ZZ.ae.cl,ZZ.ao,rfl,A,_,b1,rfl,h1,k,rfl,hk,λD1 H1 _ s1 e1=>⟨D1,rfl,⟨_,SqL.of e1⟩,nY (xs:=(fX b1.2.2 k).map V.int) (λj l=>l=((List.range j).map (qx b1.2.2 k)).map V.int) (by rw[aY,iw,dN];have:=oH hk.1 hk.2;omega) rfl (SqL.of e1) (λj u l D3 H4 E' F' ha hR hD3 s4 hl hE hF=>?_) (λD3 H4 l hR hD3 s4 hl=>?_)⟩⟩
 ·subst hR;obtain⟨rfl,_⟩:=lL ha;refine⟨rfl,(),(()),hE _ _ (Same.refl _) ?_⟩;rw[cC,bA,bA];rfl
 ·subst hR;exact q D3 H4 (s1.none hD3) (s1.trans s4) (by rw[hl,aY,iw];rfl)
theorem SI{k0:Nat}:fV P w K mg base aP "on_days" (k0+1) ["self","kind"] (fI (⟨(⟨aB,aE,aF,aI,aD,aA,aH,aJ⟩:Cs),aG,eQ aL aQ aM aO aK aP⟩:Bc) iF 0 .T):=ZZ.a9.dfs HP (λ_ _ _ _ h=>h.elim) (λ_ _ _ _ _ _ _ _ _ _ h=>h.elim)
theorem nG:∀n:Nat,Mo P w K mg base (⟨(⟨aB,aE,aF,aI,aD,aA,aH,aJ⟩:Cs),aG,eQ aL aQ aM aO aK aP⟩:Bc) "on_days" ["self","kind"] (n+12) (fI (⟨(⟨aB,aE,aF,aI,aD,aA,aH,aJ⟩:Cs),aG,eQ aL aQ aM aO aK aP⟩:Bc) iF n)
 |0=>λi=>by
  cases i with
  |B=>exact⟨ZZ.ah.cl,agE ZZ (k0:=11)⟩
  |O=>exact⟨ZZ.aq.cl,X8 ZZ (k0:=11)⟩
  |J=>exact⟨ZZ.ab.cl,aeY ZZ (k0:=11)⟩
  |M=>exact⟨ZZ.ag.cl,WE ZZ (k0:=11)⟩
  |L=>exact⟨ZZ.ad.cl,XY ZZ (k0:=11)⟩
  |T=>exact⟨ZZ.ae.cl,SI ZZ (k0:=11)⟩
 |n+1=>λi=>by
  have M0:=nG n;cases i with
  |B=>exact⟨ZZ.ah.cl,ajY ZZ (k0:=n)⟩
  |O=>exact⟨ZZ.aq.cl,aoC ZZ (k0:=n)⟩
  |J=>exact⟨ZZ.ab.cl,N5 ZZ (k0:=n) M0⟩
  |M=>exact⟨ZZ.ag.cl,ZU ZZ (k0:=n) M0⟩
  |L=>exact⟨ZZ.ad.cl,T3 ZZ (k0:=n) M0⟩
  |T=>exact⟨ZZ.ae.cl,Pb ZZ (k0:=n) M0⟩
theorem Wp:fV P w K mg base aL "on_days" 16 ["self","kind"] (fI (⟨(⟨aB,aE,aF,aI,aD,aA,aH,aJ⟩:Cs),aG,eQ aL aQ aM aO aK aP⟩:Bc) iF 4 .B):=(nG ZZ 4 .B).2
theorem aiT:fV P w K mg base aM "on_days" 16 ["self","kind"] (fI (⟨(⟨aB,aE,aF,aI,aD,aA,aH,aJ⟩:Cs),aG,eQ aL aQ aM aO aK aP⟩:Bc) iF 4 .J):=(nG ZZ 4 .J).2
theorem N7:fV P w K mg base aO "on_days" 16 ["self","kind"] (fI (⟨(⟨aB,aE,aF,aI,aD,aA,aH,aJ⟩:Cs),aG,eQ aL aQ aM aO aK aP⟩:Bc) iF 4 .M):=(nG ZZ 4 .M).2
theorem Pk{k0 n:Nat}:fV P w K mg base aL "holds" (k0+13) ["self","moment"] (fI (⟨(⟨aB,aE,aF,aI,aD,aA,aH,aJ⟩:Cs),aG,eQ aL aQ aM aO aK aP⟩:Bc) jn (n+1) .B):=by
 refine ZZ.b3.dfs JL (λvs H Q E h=>?_) (λfz cdv Ar outer s H vs Q E hr h=>?_)
 ·obtain⟨A,x,as,b,rfl,_,mo,y,m,k,rfl,ok,e,q⟩:=h;rfl
 obtain⟨A,x,as,b,rfl,⟨dx,fs,us,bs,g,hx,hs,hp,hl,rfl⟩,mo,y,m,k,rfl,ok,e,q⟩:=h;obtain⟨rfl,rfl,rfl⟩:=hs;refine⟨_,(eE (eK eB)),?_⟩;cases hp;have z:=q H (Same.refl _);rw[show ir (g9 (λ_=>zF) []).2.2 mo y m k=false from TR] at z;exact z
theorem Zn{k0:Nat}:fV P w K mg base aL "holds" (k0+1) ["self","moment"] (fI (⟨(⟨aB,aE,aF,aI,aD,aA,aH,aJ⟩:Cs),aG,eQ aL aQ aM aO aK aP⟩:Bc) jn 0 .B):=ZZ.b3.dfs JL (λ_ _ _ _ h=>h.elim) (λ_ _ _ _ _ _ _ _ _ _ h=>h.elim)
theorem Tf{k0 n:Nat}:fV P w K mg base aQ "holds" (k0+13) ["self","moment"] (fI (⟨(⟨aB,aE,aF,aI,aD,aA,aH,aJ⟩:Cs),aG,eQ aL aQ aM aO aK aP⟩:Bc) jn (n+1) .O):=by
 refine ZZ.ck.dfs K5 (λvs H Q E h=>?_) (λfz cdv Ar outer s H vs Q E hr h=>?_)
 ·obtain⟨A,x,as,b,rfl,_,mo,y,m,k,rfl,ok,e,q⟩:=h;rfl
 obtain⟨A,x,as,b,rfl,⟨dx,fs,us,bs,g,hx,hs,hp,hl,rfl⟩,mo,y,m,k,rfl,ok,e,q⟩:=h;obtain⟨r,tm,f,rfl,rfl,hR,rfl⟩:=hs;refine⟨_,(eE (eK (ip (hk:=by omega) ZZ.aa.cl (ar4 ZZ) hr (ii Y0) (A1 Y1)))),?_⟩;cases hp;obtain⟨xr,m0,m1,m3,kd,kw,rfl,⟨dr,dv,wv,hr',hn,hb,hd,hw,_⟩,rfl,rfl⟩:=hR;refine⟨(),x,aQ,dx,_,(),hx,ZZ.aq.cl,ZZ.bs,rfl,xr,dr,(),hr',Ox ..,(),xr,dr,m0,m1,m3,gP m1 m0,mo,dv,wv,kd,kw,rfl,hr',hn,hd,hw,λy' m' k' H' ok' e' s'=>?_⟩
 obtain⟨rfl,rfl,rfl⟩:=En ok ok' (e.trans e'.symm);rw[aK0 hn hb ok e];exact q H' s'
theorem Vu{k0:Nat}:fV P w K mg base aQ "holds" (k0+1) ["self","moment"] (fI (⟨(⟨aB,aE,aF,aI,aD,aA,aH,aJ⟩:Cs),aG,eQ aL aQ aM aO aK aP⟩:Bc) jn 0 .O):=ZZ.ck.dfs K5 (λ_ _ _ _ h=>h.elim) (λ_ _ _ _ _ _ _ _ _ _ h=>h.elim)
theorem QV{k0 n:Nat}(M0:Mo P w K mg base (⟨(⟨aB,aE,aF,aI,aD,aA,aH,aJ⟩:Cs),aG,eQ aL aQ aM aO aK aP⟩:Bc) "holds" ["self","moment"] (k0+12) (fI (⟨(⟨aB,aE,aF,aI,aD,aA,aH,aJ⟩:Cs),aG,eQ aL aQ aM aO aK aP⟩:Bc) jn n)):fV P w K mg base aM "holds" (k0+13) ["self","moment"] (fI (⟨(⟨aB,aE,aF,aI,aD,aA,aH,aJ⟩:Cs),aG,eQ aL aQ aM aO aK aP⟩:Bc) jn (n+1) .J):=by
 refine ZZ.bn.dfs G4 (λvs H Q E h=>?_) (λfz cdv Ar outer s H vs Q E hr h=>?_)
 ·obtain⟨A,x,as,b,rfl,_,mo,y,m,k,rfl,ok,e,q⟩:=h;rfl
 obtain⟨A,x,as,b,rfl,⟨dx,fs,us,bs,g,hx,hs,hp,hl,rfl⟩,mo,y,m,k,rfl,ok,e,q⟩:=h;obtain⟨t,rfl,ht,h0,rfl⟩:=hs;refine⟨_,(eE (eK (gS Dp ZZ.go boot_any (A1 (jw ["moment"] [1] (iT (ii Y0)) (λ_ _ _ _ _ _=>hZ) (λ_ _ _ _ _ _=>(kr (hk:=by omega) M0 hr Y0 kh Y1))))))),?_⟩;refine⟨(),x,aM,dx,_,(),hx,ZZ.ab.cl,ZZ.ak,rfl,t,rfl,⟨_,SqT.of ht⟩,qK (xs:=us) (λi l=>l=((bs.take i).map λb=>ir b.2.2 mo y m k).map V.bl) (by rw[dN];omega) rfl (SqT.of ht) (λi v l D H2 E' F' hv hR hD s2 hz hE hF=>?_) (λD H2 l hR hD s2 hz=>?_)⟩
 ·subst hR;obtain⟨b,eb,hb⟩:=KM.Paired.at hp hv;exact⟨(),A,_,b,rfl,hb.same s2,mo,y,m,k,rfl,ok,e,λH5 s5=>hE _ _ s5 (by rw[bL,eb,bA,bA];rfl)⟩
 ·subst hR;rw[Paired.length hp,bN] at hz;refine⟨D,(),SqL.of hz,?_⟩;have z:=q H2 s2;rw[show ir (g9 iO bs).2.2 mo y m k=_ from Oo (FA hp),List.any_map] at z;rw[List.any_map];exact z
theorem OY{k0:Nat}:fV P w K mg base aM "holds" (k0+1) ["self","moment"] (fI (⟨(⟨aB,aE,aF,aI,aD,aA,aH,aJ⟩:Cs),aG,eQ aL aQ aM aO aK aP⟩:Bc) jn 0 .J):=ZZ.bn.dfs G4 (λ_ _ _ _ h=>h.elim) (λ_ _ _ _ _ _ _ _ _ _ h=>h.elim)
theorem WP{k0 n:Nat}(M0:Mo P w K mg base (⟨(⟨aB,aE,aF,aI,aD,aA,aH,aJ⟩:Cs),aG,eQ aL aQ aM aO aK aP⟩:Bc) "holds" ["self","moment"] (k0+12) (fI (⟨(⟨aB,aE,aF,aI,aD,aA,aH,aJ⟩:Cs),aG,eQ aL aQ aM aO aK aP⟩:Bc) jn n)):fV P w K mg base aO "holds" (k0+13) ["self","moment"] (fI (⟨(⟨aB,aE,aF,aI,aD,aA,aH,aJ⟩:Cs),aG,eQ aL aQ aM aO aK aP⟩:Bc) jn (n+1) .M):=by
 refine ZZ.b8.dfs ER (λvs H Q E h=>?_) (λfz cdv Ar outer s H vs Q E hr h=>?_)
 ·obtain⟨A,x,as,b,rfl,_,mo,y,m,k,rfl,ok,e,q⟩:=h;rfl
 obtain⟨A,x,as,b,rfl,⟨dx,fs,us,bs,g,hx,hs,hp,hl,rfl⟩,mo,y,m,k,rfl,ok,e,q⟩:=h;obtain⟨t,rfl,ht,h0,rfl⟩:=hs;refine⟨_,(eE (eK (gS sM ZZ.cx boot_all (A1 (jw ["moment"] [1] (iT (ii Y0)) (λ_ _ _ _ _ _=>hZ) (λ_ _ _ _ _ _=>(kr (hk:=by omega) M0 hr Y0 kh Y1))))))),?_⟩;refine⟨(),x,aO,dx,_,(),hx,ZZ.ag.cl,ZZ.ap,rfl,t,rfl,⟨_,SqT.of ht⟩,qK (xs:=us) (λi l=>l=((bs.take i).map λb=>ir b.2.2 mo y m k).map V.bl) (by rw[dN];omega) rfl (SqT.of ht) (λi v l D H2 E' F' hv hR hD s2 hz hE hF=>?_) (λD H2 l hR hD s2 hz=>?_)⟩
 ·subst hR;obtain⟨b,eb,hb⟩:=KM.Paired.at hp hv;exact⟨(),A,_,b,rfl,hb.same s2,mo,y,m,k,rfl,ok,e,λH5 s5=>hE _ _ s5 (by rw[bL,eb,bA,bA];rfl)⟩
 ·subst hR;rw[Paired.length hp,bN] at hz;refine⟨D,(),SqL.of hz,?_⟩;have z:=q H2 s2;rw[show ir (g9 iM bs).2.2 mo y m k=_ from aI0 (FA hp),List.all_map] at z;rw[List.all_map];exact z
theorem Oc{k0:Nat}:fV P w K mg base aO "holds" (k0+1) ["self","moment"] (fI (⟨(⟨aB,aE,aF,aI,aD,aA,aH,aJ⟩:Cs),aG,eQ aL aQ aM aO aK aP⟩:Bc) jn 0 .M):=ZZ.b8.dfs ER (λ_ _ _ _ h=>h.elim) (λ_ _ _ _ _ _ _ _ _ _ h=>h.elim)
theorem Pc{k0 n:Nat}(M0:Mo P w K mg base (⟨(⟨aB,aE,aF,aI,aD,aA,aH,aJ⟩:Cs),aG,eQ aL aQ aM aO aK aP⟩:Bc) "holds" ["self","moment"] (k0+12) (fI (⟨(⟨aB,aE,aF,aI,aD,aA,aH,aJ⟩:Cs),aG,eQ aL aQ aM aO aK aP⟩:Bc) jn n)):fV P w K mg base aK "holds" (k0+13) ["self","moment"] (fI (⟨(⟨aB,aE,aF,aI,aD,aA,aH,aJ⟩:Cs),aG,eQ aL aQ aM aO aK aP⟩:Bc) jn (n+1) .L):=by
 refine ZZ.b4.dfs HI (λvs H Q E h=>?_) (λfz cdv Ar outer s H vs Q E hr h=>?_)
 ·obtain⟨A,x,as,b,rfl,_,mo,y,m,k,rfl,ok,e,q⟩:=h;rfl
 obtain⟨A,x,as,b,rfl,⟨dx,fs,us,bs,g,hx,hs,hp,hl,rfl⟩,mo,y,m,k,rfl,ok,e,q⟩:=h;obtain⟨u,w',rfl,rfl,rfl⟩:=hs;refine⟨_,(eE (eK (mH (kr M0 hr (ii Y0) (ou kh) Y1) (kB (qP (kr M0 hr (ii Y0) (ou kh) Y1)))))),?_⟩;obtain⟨b1,b2,rfl,h1,h2⟩:=EF hp;have q':∀H',Same H H'->Q (.bl (ir b1.2.2 mo y m k&& !ir b2.2.2 mo y m k)) H':=λH' s'=>by
  have z:=q H' s';rw[show ir (g9 mz [b1,b2]).2.2 mo y m k=_ from Nv h1.ok h2.ok] at z;exact z
 refine⟨(),x,aK,dx,_,(),hx,ZZ.ad.cl,ZZ.as,rfl,A,_,b1,rfl,h1,mo,y,m,k,rfl,ok,e,λH1 s1=>⟨(),?_⟩⟩;cases c1:ir b1.2.2 mo y m k with
 |false=>
  rw[c1] at q';exact fW (q' H1 s1)
 |true=>
  rw[c1] at q';exact gE ⟨(),x,aK,dx,_,(),s1 _ _ hx,ZZ.ad.cl,ZZ.an,rfl,A,_,b2,rfl,h2.same s1,mo,y,m,k,rfl,ok,e,λH2 s2=>⟨(),q' H2 (s1.trans s2)⟩⟩
theorem QW{k0:Nat}:fV P w K mg base aK "holds" (k0+1) ["self","moment"] (fI (⟨(⟨aB,aE,aF,aI,aD,aA,aH,aJ⟩:Cs),aG,eQ aL aQ aM aO aK aP⟩:Bc) jn 0 .L):=ZZ.b4.dfs HI (λ_ _ _ _ h=>h.elim) (λ_ _ _ _ _ _ _ _ _ _ h=>h.elim)
theorem O5{k0 n:Nat}(M0:Mo P w K mg base (⟨(⟨aB,aE,aF,aI,aD,aA,aH,aJ⟩:Cs),aG,eQ aL aQ aM aO aK aP⟩:Bc) "holds" ["self","moment"] (k0+12) (fI (⟨(⟨aB,aE,aF,aI,aD,aA,aH,aJ⟩:Cs),aG,eQ aL aQ aM aO aK aP⟩:Bc) jn n)):fV P w K mg base aP "holds" (k0+13) ["self","moment"] (fI (⟨(⟨aB,aE,aF,aI,aD,aA,aH,aJ⟩:Cs),aG,eQ aL aQ aM aO aK aP⟩:Bc) jn (n+1) .T):=by
 refine ZZ.bo.dfs Gu (λvs H Q E h=>?_) (λfz cdv Ar outer s H vs Q E hr h=>?_)
 ·obtain⟨A,x,as,b,rfl,_,mo,y,m,k,rfl,ok,e,q⟩:=h;rfl
 obtain⟨A,x,as,b,rfl,⟨dx,fs,us,bs,g,hx,hs,hp,hl,rfl⟩,mo,y,m,k,rfl,ok,e,q⟩:=h;obtain⟨u,rfl,rfl,rfl⟩:=hs;refine⟨_,(eE (eK (qP (kr M0 hr (ii Y0) (ou kh) Y1)))),?_⟩;obtain⟨b1,rfl,h1⟩:=Bw hp;refine⟨(),x,aP,dx,_,(),hx,ZZ.ae.cl,ZZ.ao,rfl,A,_,b1,rfl,h1,mo,y,m,k,rfl,ok,e,λH1 s1=>⟨(),?_⟩⟩;have z:=q H1 s1;rw[show ir (g9 lE [b1]).2.2 mo y m k=_ from Xj h1.ok] at z;exact z
theorem NE{k0:Nat}:fV P w K mg base aP "holds" (k0+1) ["self","moment"] (fI (⟨(⟨aB,aE,aF,aI,aD,aA,aH,aJ⟩:Cs),aG,eQ aL aQ aM aO aK aP⟩:Bc) jn 0 .T):=ZZ.bo.dfs Gu (λ_ _ _ _ h=>h.elim) (λ_ _ _ _ _ _ _ _ _ _ h=>h.elim)
theorem ET:∀n:Nat,Mo P w K mg base (⟨(⟨aB,aE,aF,aI,aD,aA,aH,aJ⟩:Cs),aG,eQ aL aQ aM aO aK aP⟩:Bc) "holds" ["self","moment"] (n+12) (fI (⟨(⟨aB,aE,aF,aI,aD,aA,aH,aJ⟩:Cs),aG,eQ aL aQ aM aO aK aP⟩:Bc) jn n)
 |0=>λi=>by
  cases i with
  |B=>exact⟨ZZ.ah.cl,Zn ZZ (k0:=11)⟩
  |O=>exact⟨ZZ.aq.cl,Vu ZZ (k0:=11)⟩
  |J=>exact⟨ZZ.ab.cl,OY ZZ (k0:=11)⟩
  |M=>exact⟨ZZ.ag.cl,Oc ZZ (k0:=11)⟩
  |L=>exact⟨ZZ.ad.cl,QW ZZ (k0:=11)⟩
  |T=>exact⟨ZZ.ae.cl,NE ZZ (k0:=11)⟩
 |n+1=>λi=>by
  have M0:=ET n;cases i with
  |B=>exact⟨ZZ.ah.cl,Pk ZZ (k0:=n)⟩
  |O=>exact⟨ZZ.aq.cl,Tf ZZ (k0:=n)⟩
  |J=>exact⟨ZZ.ab.cl,QV ZZ (k0:=n) M0⟩
  |M=>exact⟨ZZ.ag.cl,WP ZZ (k0:=n) M0⟩
  |L=>exact⟨ZZ.ad.cl,Pc ZZ (k0:=n) M0⟩
  |T=>exact⟨ZZ.ae.cl,O5 ZZ (k0:=n) M0⟩
theorem nR:Dx P w base ZZ.di 1 (ZA K):=by
 refine ZZ.di.dfs amF (by trivial) ?_;rintro _ _ _ _ s H _ Q E hr⟨a,k,rfl,⟨ns,hS⟩,⟨h0,h9⟩,q⟩;refine⟨_,(eG (fA (fB qh Y1 (gS (kO (K:=K)) ZZ.am PySem.boot_len (A1 Y0))) (eE (eK (eV (fR (K:=K)) Y0 Y1))) fC) (eE (eK (eC g6 (eC iJ (eC nH (eC fK Y1 eI) eI) eI) eI)))),?_⟩;extract_lets;refine⟨(),(),a,(),.inl hS,(()),(),?_⟩;refine hW (λc=>?_) (λc=>?_)
 ·rw[aY] at c;have hk:k.toNat<ns.length:=⋯;have ek:k=((k.toNat:Nat):Int):=⋯;have e:ie (ns.map V.int) k=some (.int ns[k.toNat]):=by
   have z:ie (ns.map V.int) ((k.toNat:Nat):Int)=some (.int ns[k.toNat]):=kT (by rw[bI,cD hk];rfl);rw[←ek] at z;exact z
  refine⟨(),(),a,_,(()),hS,e,?_⟩;exact q _
 ·refine⟨(),(()),(()),⟨by decide,by decide,(by show (k+2).natAbs<2^64;omega)⟩,(()),.inr ⟨by decide,by decide⟩,(()),(by show (0:Int)<15485863;decide),?_⟩;exact q _
theorem QN:Dx P w base ZZ.ew 1 (ZM K):=by
 refine ZZ.ew.dfs Uh (by trivial) ?_;rintro _ _ _ _ s H _ Q E hr⟨n,rfl,q⟩;refine⟨_,(eG (eU 1 (eC g6 (eC iJ (eC fK (eC g6 Y0 (eC nH eI eI)) eI) eI) eI) Uh.nd) (eG (eU 2 (eC g6 (eC iJ Y1 (eC fK (eC g6 Y1 eI) eI)) eI) Uh.nd) (eE (eK (eC g6 (eC iJ Y2 (eC fK (eC g6 Y2 eI) eI)) eI))))),?_⟩;extract_lets;refine⟨(),(()),⟨by decide,by decide,by decide⟩,(()),(by rw[OE];show (0:Int)<_;decide),(()),(()),.inr ⟨by decide,by decide⟩,(()),(by show (0:Int)<4294967291;decide),?_⟩
 refine⟨(),(),(()),(by show (0:Int)<65521;decide),(()),(()),Fg (by decide) (by decide),(()),(by show (0:Int)<999999937;decide),?_⟩;refine⟨(),(),(()),(by show (0:Int)<32749;decide),(()),(()),Fg (by decide) (by decide),(()),(by show (0:Int)<2147483629;decide),?_⟩;exact q _ (cV _ (by decide)) (cW _ (by decide))
theorem oS:Dx P w base ZZ.dw 2 (anD K):=by
 refine ZZ.dw.dfs U8 (by trivial) ?_;rintro _ _ _ _ s H _ Q E hr⟨c,a,b,ss,rfl,hS,hz,hl,q⟩;refine⟨_,(eG (eU 3 (gD aN) U8.nd) (eG (eU 2 (vP Y2 (kB (jD qh (gS KP ZZ.e6 PyProof.Rows.boot_abs (A1 Y0)) (eC nH eI eI)))) U8.nd) (eG (jk (kN (K:=K) Y1) (gN 4 U8.nd) (eE (fA (gW Y2) (eG (eU 0 (eD (QN ZZ) hr (A1 Y0)) U8.nd) (eE (li (oo Y3 (eC g6 (eC jy Y0 eI) Y4))))) (eG (li (oo Y3 (eC g6 Y0 Y4))) (eE (eU 0 (eC jy Y0 Y4) U8.nd))))) PassesOwn.never) (eE (eK Y3))))),?_⟩
 extract_lets;refine⟨(zL 0),λfl hfl=>?_⟩;refine⟨(),(),xE (λ_=>?_) (λ_=>⟨(),(),(()),⟨by decide,by decide,by decide⟩,(()),?_⟩)⟩
 all_goals
  refine⟨(),a,rfl,⟨_,(eJ hfl _).seq hS⟩,mw (K:=K) (a:=a) (xs:=ss.map V.int) (λi σ H2=>∃(c':Int) (b':Bool) (u:Option V) (ds:List Int),σ=[some (.int c'),some (.ref a),some (.bl b'),some (.ref fl),u]/\Same H H2/\H2 fl=some (.lst (ds.map V.int))/\Digs ds (ss.take i)) ⟨_,_,_,[],rfl,eJ hfl _,eF,.nil⟩ (λi σ H2 _ ⟨_,_,_,_,_,s2,_⟩=>s2.seq hS) ?_ ?_⟩
  ·rintro i x σ H2 hx ⟨c',b',u,ds,rfl,s2,hf,hd⟩;rw[bI] at hx;cases e:ss[i]? with
   |none=>rw[e] at hx;cases hx
   |some z=>
    rw[e] at hx;obtain rfl:V.int z=x:=bG hx;have hzz:=hz z (bR e);have et:ss.take (i+1)=ss.take i++[z]:=by rw[bL,e];rfl
    have hdl:(ds.map V.int).length<sizeLine:=by
     have q1:=hd.len;rw[cF] at q1;rw[aY,dN];omega
    have app:∀d:Int,(ds.map V.int)++[V.int d]=(ds++[d]).map V.int:=λd=>by rw[bA];rfl
    refine⟨(),(),?_⟩;cases b' with
    |true=>
     refine gE ⟨(),(),λr hr0 hr1=>?_⟩;refine⟨(),.inl ⟨rfl,_,SqL.of hf⟩,(),(()),⟨by decide,by decide⟩,(),(()),hzz.1,fl,(()),hf,hdl,?_⟩;refine⟨_,_,_,ds++[r / 8%z],rfl,kA hfl s2,by rw[app];exact eF,?_⟩;rw[et];exact hd.snoc (cV _ (Int.ne_of_gt hzz.1)) (cW _ hzz.1)
    |false=>
     refine fW ⟨(),.inl ⟨rfl,_,SqL.of hf⟩,(),(),(()),hzz.1,fl,(()),hf,hdl,?_⟩;refine⟨(),(),(()),hzz,?_⟩;refine⟨_,_,_,ds++[c'%z],rfl,kA hfl s2,by rw[app];exact eF,?_⟩;rw[et];exact hd.snoc (cV _ (Int.ne_of_gt hzz.1)) (cW _ hzz.1)
  ·rintro σ H2 ⟨c',b',u,ds,rfl,s2,hf,hd⟩;rw[aY,bN] at hd;exact⟨(),q ds fl H2 s2 hf hd⟩
theorem Pl:Dx P w base ZZ.ef 1 (aqE K):=by
 refine ZZ.ef.dfs SF (by trivial) ?_;rintro _ _ _ _ s H _ Q E hr⟨i,rfl,q⟩;refine⟨_,(eE (eK (mH (gS EE ZZ.ac PyProof.Rows.boot_isinstance (A2 Y0 (l6 ZZ.cw PyProof.Rows.boot_int))) (kB (qP (gS EJ ZZ.ac PyProof.Rows.boot_isinstance (A2 Y0 (l6 ZZ.d6 PyProof.Rows.boot_bool)))))))),?_⟩;refine⟨(),(),(),?_⟩;refine gE ?_;refine⟨(),(),(),?_⟩;exact q
theorem zS:Dx P w base ZZ.eg 1 (Nx K):=by
 refine ZZ.eg.dfs Ua (by trivial) ?_;rintro _ _ A _ s H _ Q E hr⟨p,d0,d1,d2,d3,lo,hi,rfl,hp,h0,h3,hb,q⟩;refine⟨_,(eG (eU 3 (eC fK Y1 (eC g6 (eV (fR (K:=K)) Y0 eI) (eC fK (eC gB Y2 Y1) eI))) Ua.nd) (hU (eU 4 (eC fK Y3 (eC g6 (eV (fR (K:=K)) Y0 eI) (eC fK (eC gB Y2 Y3) eI))) Ua.nd) (eG (eU 5 (jx j9 ZZ.aj PyProof.Rows.boot_str (A1 (eC fK eI (eV (fR (K:=K)) Y0 eI)))) Ua.nd) (eG (eU 6 (gD (aC (eZ [42]) (aC (jx j9 ZZ.aj PyProof.Rows.boot_str (A1 Y3)) (aC (eC jj (eC jj (jx j9 ZZ.aj PyProof.Rows.boot_str (A1 Y3)) (eZ [45])) (jx j9 ZZ.aj PyProof.Rows.boot_str (A1 Y4))) (A3 (eC jj (eZ [42,47]) Y5) (eC jj (eC jj (jx j9 ZZ.aj PyProof.Rows.boot_str (A1 Y3)) (eZ [44])) (jx j9 ZZ.aj PyProof.Rows.boot_str (A1 Y4))) (jx j9 ZZ.aj PyProof.Rows.boot_str (A1 Y4))))))) Ua.nd) (eG (li (oo Y6 (eC jj (eC jj (eC jj (eC jj (jx j9 ZZ.aj PyProof.Rows.boot_str (A1 Y3)) (eZ [45])) (jx j9 ZZ.aj PyProof.Rows.boot_str (A1 Y4))) (eZ [47])) Y5))) (eE (eK (eV (fR (K:=K)) Y6 (eV (fR (K:=K)) Y0 eI))))))))),?_⟩
 extract_lets;have sm:∀z:Int,0<=z->z<=99->z.toNat<10^500/\[V.int z]=[V.int (z.toNat:Nat)]:=λz h1 h2=>⟨bC (show z.toNat<100 by omega) (by decide +kernel),by rw[b7 h1]⟩;have nl:∀z:Int,0<=z->z<=99->(num z.toNat).length<=2:=λz h1 h2=>(lI _ ⋯).2.2.2;have z4':∀{n m:Nat},n<=20->m<=20->n+m<=sizeLine:=λ{n m} h1 h2=>by rw[dN];omega
 have h63:hi<=63:=⋯;have p1:0<hi-lo+1:=⋯;have m0:=cV d1 (show (hi-lo+1)≠0 by omega);have m1:=cW d1 p1;refine⟨(),(),p,_,(()),SqL.of (hp),rfl,(),(),(()),(()),(()),p1,(()),?_⟩;obtain⟨A,eA⟩:∃A,A=lo+d1%(hi-lo+1):=⟨()⟩;show iV 3 (V.int (lo+d1%(hi-lo+1))) _ _ _;rw[←eA];have p2:0<hi-A+1:=⋯;have n0:=cV d2 (show (hi-A+1)≠0 by omega);have n1:=cW d2 p2;refine⟨λσ' H'=>H'=H/\∃B,σ'=[some (.ref p),some (.int lo),some (.int hi),some (.int A),some (.int B),none,none]/\(lo<=A/\A<=B)/\B<=hi,⟨(),(),p,_,(()),SqL.of (hp),rfl,(),(),(()),(()),(()),p2,(()),rfl,(),⟨⋯,⋯⟩,⋯⟩,?_⟩
 rintro σ' H' ⟨rfl,B,rfl,ha,hB⟩;clear p1 p2 m0 m1 n0 n1 eA;obtain⟨S,eS,hS⟩:∃S,S=1+d3/\(1<=S/\S<=99):=⟨(),⋯,⋯⟩;have A0:0<=A/\A<=99:=⋯;have B0:0<=B/\B<=99:=⋯;have S0:0<=S/\S<=99:=⋯;have qA:=sm A A0.1 A0.2;have qB:=sm B B0.1 B0.2;have qS:=sm S S0.1 S0.2;have lA:=nl A A0.1 A0.2;have lB:=nl B B0.1 B0.2;have lS:=nl S S0.1 S0.2;have IA:=i1 (a:=A) hb.1 ha.1 ⋯ h63;have IB:=i1 (a:=B) hb.1 ⋯ hB h63;refine⟨(),p,_,(()),SqL.of (hp),rfl,(()),S.toNat,by show [V.int (1+d3)]=_;rw[←eS];exact qS.2,qS.1,?_⟩
 refine⟨(),A.toNat,qA.2,qA.1,(),A.toNat,qA.2,qA.1,(()),z4' ⋯ (by decide),(),B.toNat,qB.2,qB.1,(()),z4' (by rw[a8];show _+1<=20;omega) ⋯,(),(()),z4' (by decide) ⋯,(),A.toNat,qA.2,qA.1,(()),z4' ⋯ (by decide),(),B.toNat,qB.2,qB.1,(()),z4' (by rw[a8];show _+1<=20;omega) ⋯,(),B.toNat,qB.2,qB.1,(zL 6),λl hl=>?_⟩;refine⟨(),.inl ⟨rfl,_,SqL.of eF⟩,(),A.toNat,qA.2,qA.1,(()),z4' ⋯ (by decide),(),B.toNat,qB.2,qB.1,(()),z4' (by rw[a8];show _+1<=20;omega) ⋯,(()),z4' (by rw[a8,a8];show _+1+_<=20;omega) (by decide),(),(()),z4' (by rw[a8,a8,a8];show _+1+_+1<=20;omega) ⋯,l,(()),eF,(by show 6<sizeLine;decide),?_⟩
 have sA:Same H' (upd (upd H' l (.lst [.str (Tx [42]),.str (Tx (num A.toNat)),.str (Tx (num A.toNat++[45]++num B.toNat)),.str (Tx ([42,47]++num S.toNat)),.str (Tx (num A.toNat++[44]++num B.toNat)),.str (Tx (num B.toNat))])) l (.lst ([.str (Tx [42]),.str (Tx (num A.toNat)),.str (Tx (num A.toNat++[45]++num B.toNat)),.str (Tx ([42,47]++num S.toNat)),.str (Tx (num A.toNat++[44]++num B.toNat)),.str (Tx (num B.toNat))]++[.str (Tx (num A.toNat++[45]++num B.toNat++[47]++num S.toNat))]))):=kA hl (eJ hl _)
 have fE:∀{ws:List (List Nat)} {nss:List (List Int)} {t:List Nat},Paired (kq lo hi) ws nss->ws≠[]->ws.length<=20->gR 44 ws=t->∃m,FT lo hi t m/\m<2^(hi.toNat+1):=λh1 h2 h3 e=>by rw[←e];exact zj h1 h2 h3 hb.1 ⋯
 obtain⟨n,rfl⟩:∃n:Nat,d0=n:=⟨d0.toNat,⋯⟩;have hpl:=sA _ _ hp
 match n,h0 with
 |0,_=>
  obtain⟨m,f1,f2⟩:=fE (ws:=[[42]]) (nss:=[ij lo hi 1]) (t:=[42]) (.cons (i0 hb.1 hb.2.1 h63) .nil) (cE _ _) (by show 1<=20;decide) (by simp[gR]);exact⟨(),(),p,_,(()),SqL.of hpl,rfl,l,_,(()),SqL.of eF,rfl,q _ m _ sA f1 f2⟩
 |1,_=>
  obtain⟨m,f1,f2⟩:=fE (ws:=[num A.toNat]) (nss:=[[A]]) (t:=num A.toNat) (.cons IA .nil) (cE _ _) (by show 1<=20;decide) (by simp[gR]);exact⟨(),(),p,_,(()),SqL.of hpl,rfl,l,_,(()),SqL.of eF,rfl,q _ m _ sA f1 f2⟩
 |2,_=>
  obtain⟨m,f1,f2⟩:=fE (ws:=[num A.toNat++45::num B.toNat]) (nss:=[ij A B 1]) (t:=num A.toNat++[45]++num B.toNat) (.cons (i2 hb.1 ha.1 ha.2 hB h63) .nil) (cE _ _) (by show 1<=20;decide) (by simp[gR]);exact⟨(),(),p,_,(()),SqL.of hpl,rfl,l,_,(()),SqL.of eF,rfl,q _ m _ sA f1 f2⟩
 |3,_=>
  obtain⟨m,f1,f2⟩:=fE (ws:=[[42]++47::num S.toNat]) (nss:=[ij lo hi S]) (t:=[42,47]++num S.toNat) (.cons (i3 hb.1 hb.2.1 h63 hS) .nil) (cE _ _) (by show 1<=20;decide) (by simp[gR]);exact⟨(),(),p,_,(()),SqL.of hpl,rfl,l,_,(()),SqL.of eF,rfl,q _ m _ sA f1 f2⟩
 |4,_=>
  obtain⟨m,f1,f2⟩:=fE (ws:=[num A.toNat,num B.toNat]) (nss:=[[A],[B]]) (t:=num A.toNat++[44]++num B.toNat) (.cons IA (.cons IB .nil)) (cE _ _) (by show 2<=20;decide) (by simp[gR]);exact⟨(),(),p,_,(()),SqL.of hpl,rfl,l,_,(()),SqL.of eF,rfl,q _ m _ sA f1 f2⟩
 |5,_=>
  obtain⟨m,f1,f2⟩:=fE (ws:=[num B.toNat]) (nss:=[[B]]) (t:=num B.toNat) (.cons IB .nil) (cE _ _) (by show 1<=20;decide) (by simp[gR]);exact⟨(),(),p,_,(()),SqL.of hpl,rfl,l,_,(()),SqL.of eF,rfl,q _ m _ sA f1 f2⟩
 |6,_=>
  obtain⟨m,f1,f2⟩:=fE (ws:=[(num A.toNat++45::num B.toNat)++47::num S.toNat]) (nss:=[ij A B S]) (t:=num A.toNat++[45]++num B.toNat++[47]++num S.toNat) (.cons (i5 hb.1 ha.1 ha.2 hB h63 hS) .nil) (cE _ _) (by show 1<=20;decide) (by simp[gR]);exact⟨(),(),p,_,(()),SqL.of hpl,rfl,l,_,(()),SqL.of eF,rfl,q _ m _ sA f1 f2⟩
 |n+7,h=>exact absurd h.2 (by have:((n+7:Nat):Int)=(n:Int)+7:=rfl;omega)
theorem Kj:Dx P w base ZZ.fm 12 (O8 K aB aE aF aI aD aA aH aJ aG):=by
 refine ZZ.fm.dfs Uf (by trivial) ?_;rintro _ _ _ _ s H _ Q E hr⟨c,bm,rfl,q⟩;refine⟨_,(eG (eU 2 (eD (oS ZZ) hr (A3 Y0 (gD (vg [8,2,12,31,10,8,5,7,12,12,9,7,24,24,9,7,60,60,9])) Y1)) Uf.nd) (eG (eU 3 (jx j9 ZZ.aj PyProof.Rows.boot_str (A1 (eC fK eI (eV (fR (K:=K)) Y2 eI)))) Uf.nd) (hU (eU 4 (jx j9 ZZ.aj PyProof.Rows.boot_str (A1 (eV (fR (K:=K)) Y2 eI))) Uf.nd) (eG (eU 5 (gD (aC (eZ [42]) (aC Y3 (aC (eZ [42]) (aC (eZ [76]) (aC (eC jj (eZ [76,45]) Y3) (aC (eC jj Y3 (eZ [87])) (aC (eZ [76,87]) (aC (eZ [50,57]) (aC (eZ [42]) (A3 (eZ [51,49]) (eC jj (eZ [49,45,55,44]) Y3) (eZ [42,47,50])))))))))))) Uf.nd) (hU (fA (fB gw (eV (fR (K:=K)) Y2 eI) eI) (eE (mU (eZ [76,45,51,48]) (wA Y5 eI))) fC) (hU (eU 6 (gD (aC (eZ [42]) (aC (eZ [42]) (aC (eZ [49,45,53]) (aC Y4 (aC (eC jj (eC jj Y4 (eZ [35])) (jx j9 ZZ.aj PyProof.Rows.boot_str (A1 (eC fK eI (eV (fR (K:=K)) Y2 eI))))) (aC (eC jj Y4 (eZ [76])) (aC (eC jj Y4 (eZ [35,53])) (A3 (eZ [53,45,55]) (eZ [42]) (eZ [42])))))))))) Uf.nd) (hU (eU 7 (gD (A3 (eD (zS ZZ) hr (A3 (ju (kK (K:=K)) Y2 (iN eI) jE) eI eI)) (eD (zS ZZ) hr (A3 (ju (kK (K:=K)) Y2 (iN eI) (iN eI)) eI eI)) (eV (fR (K:=K)) Y5 (eV (fR (K:=K)) Y2 eI)))) Uf.nd) (hU (eU 7 (eC om Y7 (gD (A2 (eD (zS ZZ) hr (A3 (ju (kK (K:=K)) Y2 (iN eI) (iN eI)) eI eI)) (eV (fR (K:=K)) Y6 (eV (fR (K:=K)) Y2 eI))))) Uf.nd) (hU (fA (fB gw (eV (fR (K:=K)) Y2 eI) eI) (eE (mU (gD (A3 (eV (fR (K:=K)) (gD (A2 (eZ [50,57]) (eZ [42]))) (eV (fR (K:=K)) Y2 eI)) (eZ [50]) (eV (fR (K:=K)) (gD (A2 (eZ [42]) (eC jj Y4 (eZ [35,53])))) (eV (fR (K:=K)) Y2 eI)))) (X6 Y7 (iN eI) jE))) fC) (eE (eK (eD (NW ZZ) hr (A1 (RN (eZ [32]) Y7)))))))))))))),?_⟩
 extract_lets;have sm:∀z:Int,0<=z->z<=99->z.toNat<10^500/\[V.int z]=[V.int (z.toNat:Nat)]:=λz h1 h2=>⟨bC (show z.toNat<100 by omega) (by decide +kernel),by rw[b7 h1]⟩;have nl:∀z:Int,0<=z->z<=99->(num z.toNat).length<=2:=λz h1 h2=>(lI _ ⋯).2.2.2;have z4':∀{n m:Nat},n<=20->m<=20->n+m<=sizeLine:=λ{n m} h1 h2=>by rw[dN];omega
 refine⟨(),(zL 19),λls hls=>⟨(),c,ls,bm,[8,2,12,31,10,8,5,7,12,12,9,7,24,24,9,7,60,60,9],rfl,SqL.of eF,(by decide),(by decide),λds p H1 s1 hp hd=>?_⟩⟩;have sX:=(eJ hls (.lst (([8,2,12,31,10,8,5,7,12,12,9,7,24,24,9,7,60,60,9]:List Int).map V.int))).trans s1;obtain⟨x0,x1,x2,x3,x4,x5,x6,x7,x8,x9,x10,x11,x12,x13,x14,x15,x16,x17,x18,rfl,h0,h1,h2,h3,h4,h5,h6,h7,h8,h9,h10,h11,h12,h13,h14,h15,h16,h17,h18⟩:=Xp hd
 clear hd
 replace hp:H1 p=some (.lst [.int x0,.int x1,.int x2,.int x3,.int x4,.int x5,.int x6,.int x7,.int x8,.int x9,.int x10,.int x11,.int x12,.int x13,.int x14,.int x15,.int x16,.int x17,.int x18]):=hp
 obtain⟨n,en,hn1,hn2⟩:∃n:Nat,1+x3=(n:Int)/\1<=n/\n<=31:=⟨(1+x3).toNat,⋯,⋯,⋯⟩;obtain⟨d,rfl,hd7⟩:∃d:Nat,x5=(d:Int)/\d<=7:=⟨x5.toNat,⋯,⋯⟩;obtain⟨m,em,hm1,hm5⟩:∃m:Nat,1+x6=(m:Int)/\1<=m/\m<=5:=⟨(1+x6).toNat,⋯,⋯,⋯⟩;have big:∀{z:Nat},z<=99->z<10^500:=λh=>bC (Nat.lt_succ_of_le h) (by decide +kernel);have ln:(num n).length<=2:=(lI n ⋯).2.2.2;have ld:(num d).length<=2:=(lI d ⋯).2.2.2;have lm:(num m).length<=2:=(lI m ⋯).2.2.2
 refine⟨(),p,_,(()),SqL.of (hp),rfl,(()),n,(by show [V.int (1+x3)]=_;rw[en]),big ⋯,?_⟩;refine⟨λσ' H'=>σ'=[some (.int c),some (.bl bm),some (.ref p),some (.str (Tx (num n))),some (.str (Tx (num d))),none,none,none]/\H'=H1,⟨(),p,_,(()),SqL.of (hp),rfl,d,rfl,big ⋯,rfl,rfl⟩,?_⟩;rintro σ' H' ⟨rfl,rfl⟩;refine⟨(),(),(()),z4' (by decide) ⋯,(),(()),z4' ⋯ (by decide),(),(()),z4' (by decide) ⋯,(zL 12),λl hl=>?_⟩
 refine⟨λσ' H2=>σ'=[some (.int c),some (.bl bm),some (.ref p),some (.str (Tx (num n))),some (.str (Tx (num d))),some (.ref l),none,none]/\Same H' H2/\H2 l=some (.lst ((oe n).map λt=>V.str (Tx t))),?_,?_⟩
 ·refine⟨(),p,_,(()),SqL.of ((eJ hl _) _ _ hp),rfl,rfl,(),gV (λc3=>?_) (λc3=>⟨rfl,eJ hl _,?_⟩)⟩
  ·have e31:n=31:=⋯;refine⟨(),l,_,4,4,rfl,rfl,eF,rfl,rfl,kA hl (eJ hl _),?_⟩;rw[eF,e31];rfl
  ·rw[eF];unfold oe;rw[if_neg (show ¬n=31 by omega)];rfl
 rintro σ' H2 ⟨rfl,s2,hl2⟩;have hp2:=s2 _ _ hp;refine⟨λσ' H3=>∃l2,σ'=[some (.int c),some (.bl bm),some (.ref p),some (.str (Tx (num n))),some (.str (Tx (num d))),some (.ref l),some (.ref l2),none]/\Same H2 H3/\H3 l2=some (.lst ((pF d m).map λt=>V.str (Tx t))),?_,?_⟩
 ·refine⟨(),(),(()),z4' ⋯ (by decide),(),p,_,(()),SqL.of (hp2),rfl,(()),m,(by show [V.int (1+x6)]=_;rw[em]),big ⋯,(()),z4' (by rw[a8];show _+1<=20;omega) ⋯,(),(()),z4' ⋯ (by decide),(),(()),z4' ⋯ (by decide),(zL 10),λl2 hl2'=>⟨l2,rfl,eJ hl2' _,eF⟩⟩
 rintro σ' H3 ⟨l2,rfl,s3,hl3⟩;have hp3:=s3 _ _ hp2;have hd3:=s3 _ _ hl2;obtain⟨td,htd,etd⟩:=rF (ts:=oe n) (i:=x2) h2.1 (by show x2<12;exact h2.2);obtain⟨tw,htw,etw⟩:=rF (ts:=pF d m) (i:=x4) h4.1 (by show x4<10;exact h4.2);obtain⟨kd,hkd⟩:=JN hn1 hn2 td htd;obtain⟨kw,hkw⟩:=Fj hd7 hm1 hm5 tw htw;refine⟨λσ' H4=>∃(wl:Addr) (t0 t1:List Nat) (m0 m1:Int),σ'=[some (.int c),some (.bl bm),some (.ref p),some (.str (Tx (num n))),some (.str (Tx (num d))),some (.ref l),some (.ref l2),some (.ref wl)]/\Same H3 H4/\H4 wl=some (.lst [.str (Tx t0),.str (Tx t1),.str (Tx td)])/\FT 0 59 t0 m0/\m0<2^60/\FT 0 23 t1 m1/\m1<2^24,?_,?_⟩
 ·refine⟨(),(),p,(),SqL.of hp3,λp1 hp1=>⟨p1,x15,x16,x17,x18,0,59,rfl,eF,h15,h18,⟨by decide,by decide,by decide⟩,λt0 m0 H4 s4 f0 b0=>?_⟩⟩;have s34:=(eJ hp1 (.lst [.int x15,.int x16,.int x17,.int x18])).trans s4;refine⟨(),(),(),p,(),SqL.of (s34 _ _ hp3),λp2 hp2'=>⟨p2,x11,x12,x13,x14,0,23,rfl,eF,h11,h14,⟨by decide,by decide,by decide⟩,λt1 m1 H5 s5 f1 b1=>?_⟩⟩;have s35:=s34.trans ((eJ hp2' (.lst [.int x11,.int x12,.int x13,.int x14])).trans s5)
  exact⟨(),(),p,_,(()),SqL.of (s35 _ _ hp3),rfl,l,_,(()),SqL.of (s35 _ _ hd3),etd,(zL 3),λwl hwl=>⟨wl,t0,t1,m0,m1,rfl,s35.trans (eJ hwl _),eF,f0,b0,f1,b1⟩⟩
 rintro σ' H4 ⟨wl,t0,t1,m0,m1,rfl,s4,hwl,f0,b0,f1,b1⟩;refine⟨λσ' H5=>∃(wl:Addr) (t3:List Nat) (m3:Int),σ'=[some (.int c),some (.bl bm),some (.ref p),some (.str (Tx (num n))),some (.str (Tx (num d))),some (.ref l),some (.ref l2),some (.ref wl)]/\Same H4 H5/\H4 wl=none/\H5 wl=some (.lst [.str (Tx t0),.str (Tx t1),.str (Tx td),.str (Tx t3),.str (Tx tw)])/\FT 1 12 t3 m3,?_,?_⟩
 ·refine⟨(),(),(),(),p,(),SqL.of (s4 _ _ hp3),λp3 hp3'=>⟨p3,x7,x8,x9,x10,1,12,rfl,eF,h7,h10,⟨by decide,by decide,by decide⟩,λt3 m3 H5 s5 f3 b3=>?_⟩⟩;have s45:=(eJ hp3' (.lst [.int x7,.int x8,.int x9,.int x10])).trans s5;have s35:=s4.trans s45;exact⟨(),(),p,_,(()),SqL.of (s35 _ _ hp3),rfl,l2,_,(()),SqL.of (s35 _ _ hl3),etw,(zL 2),λq2 hq2=>⟨wl,q2,(()),SqL.of ((eJ hq2 _) _ _ (s45 _ _ hwl)),SqL.of eF,(by show 3+2<=sizeLine;decide),λw2 hw2=>⟨w2,t3,m3,rfl,s45.trans ((eJ hq2 _).trans (eJ hw2 _)),(s45.trans (eJ hq2 _)).none hw2,eF,f3⟩⟩⟩
 rintro σ' H5 ⟨wl,t3,m3,rfl,s5,nwl,hwl5,f3⟩;have s35:=s4.trans s5;refine⟨λσ' H6=>∃(t2 t3 t4:List Nat) (m3:Int) (kd kw:Ko),σ'=[some (.int c),some (.bl bm),some (.ref p),some (.str (Tx (num n))),some (.str (Tx (num d))),some (.ref l),some (.ref l2),some (.ref wl)]/\Same H4 H6/\H6 wl=some (.lst [.str (Tx t0),.str (Tx t1),.str (Tx t2),.str (Tx t3),.str (Tx t4)])/\FT 1 12 t3 m3/\DT false t2 kd/\DT true t4 kw,?_,?_⟩
 ·refine⟨(),p,_,(()),SqL.of (s35 _ _ hp3),rfl,rfl,(),gV (λc0=>?_) (λc0=>⟨td,t3,tw,m3,kd,kw,rfl,s5,hwl5,f3,hkd,hkw⟩)⟩;obtain⟨ta,hta,eta⟩:=rF (ts:=[[50,57],[42]]) (i:=x1) h1.1 (by show x1<2;exact h1.2);obtain⟨tb',htb,etb⟩:=rF (ts:=[[42],num d++[35,53]]) (i:=x1) h1.1 (by show x1<2;exact h1.2);obtain⟨ka,hka⟩:∃ko,DT false ta ko:=by
   rcases a9.mp hta with rfl | hta
   ·exact JN (n:=1) (by decide) (by decide) _ (by simp[oe])
   ·rw[bU.mp hta];exact⟨_,lN false⟩
  obtain⟨kb,hkb⟩:∃ko,DT true tb' ko:=by
   rcases a9.mp htb with rfl | htb
   ·exact⟨_,lN true⟩
   ·rw[bU.mp htb];exact Fj hd7 hm1 hm5 _ (by simp[pF])
  have f2:FT 1 12 [50] (iD [2]):=aJH (a:=2) ⟨by decide,by decide,by decide,by decide⟩ pU.2.2.2.2;refine⟨(zL 2),λq1 hq1=>⟨(),p,_,(()),SqL.of ((eJ hq1 _) _ _ (s35 _ _ hp3)),rfl,q1,_,(()),SqL.of eF,eta,?_⟩⟩;have sq1:=eJ hq1 (.lst [.str (Tx [50,57]),.str (Tx [42])]);refine⟨(),(()),z4' ⋯ (by decide),(zL 2),λq2 hq2=>⟨(),p,_,(()),SqL.of ((eJ hq2 _) _ _ (sq1 _ _ (s35 _ _ hp3))),rfl,q2,_,(()),SqL.of eF,etb,(zL 3),λq3 hq3=>?_⟩⟩
  have sq2:=eJ hq2 (.lst [.str (Tx [42]),.str (Tx (num d++[35,53]))]);have sq3:=eJ hq3 (.lst [.str (Tx ta),.str (Tx [50]),.str (Tx tb')]);have hw6:=(sq1.trans (sq2.trans sq3)) _ _ hwl5;exact⟨(),(),wl,q3,(()),(λe=>by rw[←e,(sq1.trans sq2) _ _ hwl5] at hq3;cases hq3),hw6,SqL.of eF,(by show 5+3<=sizeLine;decide),ta,[50],tb',_,ka,kb,rfl,kA nwl (s5.trans (sq1.trans (sq2.trans sq3))),eF,f2,hka,hkb⟩
 rintro σ' H6 ⟨t2,t3,t4,m3,kd,kw,rfl,s6,hwl6,f3,hkd,hkw⟩;have jl:(gR 32 [t0,t1,t2,t3,t4]).length<=1600:=by
  have:=f0.len;have:=f1.len;have:=f3.len;have:=hkd.2.1.len;have:=hkw.2.1.len;show (t0++32::(t1++32::(t2++32::(t3++32::t4)))).length<=1600;simp only[a8,bQ];omega
 refine⟨rfl,(),32,wl,[t0,t1,t2,t3,t4],rfl,rfl,SqL.of hwl6,⋯,t0,t1,t2,t3,t4,m0,m1,m3,kd,kw,rfl,f0,f1,f3,hkd,hkw,⟨b0,b1⟩,λx dx dv wv tm H7 htm s7 hx hdv hwv fr=>?_⟩;subst htm;have sB:=sX.trans (s2.trans (s3.trans (s4.trans s6)));exact q x m0 m1 m3 _ _ H7 (sB.trans s7) ⟨dx,dv,wv,hx,⟨f0.nn,f1.nn,f3.nn⟩,⟨b1,b0⟩,hdv,hwv,λp e=>sB.none (fr.2.1 p e),λp e=>sB.none (fr.2.2 p e)⟩
theorem Fh{k0 lv:Nat}{sp0:Sp}(hs:∀m,lv=m+1->sp0=p6 K (⟨(⟨aB,aE,aF,aI,aD,aA,aH,aJ⟩:Cs),aG,eQ aL aQ aM aO aK aP⟩:Bc) m)(D0:Df P w K mg base "_law_tree" (k0+20) ["_law_script","_law_n","_law_deep","_law_mixed"] sp0):Df P w K mg base "_law_tree" (k0+21) ["_law_script","_law_n","_law_deep","_law_mixed"] (p6 K (⟨(⟨aB,aE,aF,aI,aD,aA,aH,aJ⟩:Cs),aG,eQ aL aQ aM aO aK aP⟩:Bc) lv):=by
 refine ZZ.b9.dfs Uj (λvs H Q E h=>?_) (λfz cdv A outer s H vs Q E hr h=>?_)
 ·obtain⟨a,n,bm,ns,rfl,_⟩:=h;rfl
 obtain⟨a,n,bm,ns,rfl,hS,hn,q⟩:=h;have hn':n+2<=450:=bV (Nat.le_mul_of_pos_right _ (Nat.pow_pos (by decide))) hn;refine⟨_,(eG (eU 4 (eD (hk:=by omega) (oS ZZ) hr (A3 (eD (hk:=by omega) (nR ZZ) hr (A2 Y0 (eC fK eI (eC iJ eI Y1)))) (gD (A3 eI eI eI)) Y3)) Uj.nd) (eG (fA (tW (j6 (fB gw Y2 eI) (ke (fB qh (eV xL Y4 eI) eI)))) (eG (fA (fB gw (eV xL Y4 eI) eI) (eE (eK (ix (A2 (eZ [110,111,110,101]) (gD aN))))) fC) (eG (eU 5 (eD (hk:=by omega) (Kj ZZ) hr (A2 (eD (hk:=by omega) (nR ZZ) hr (A2 Y0 (eC fK eI (eC iJ eI Y1)))) Y3)) Uj.nd) (eE (eK (ix (A2 (eZ [114,111,119]) (gD (A2 Y5 (Be (hk:=by omega) ZZ.aa.cl (IQ ZZ) hr Y5))))))))) fC) (eG (eU 6 (eV xL (gD (aC (eZ [106,111,105,110]) (aC (eZ [109,101,101,116]) (aC (eZ [108,101,115,115]) (aC (eZ [116,117,114,110]) (A3 (eZ [106,111,105,110]) (eZ [108,101,115,115]) (eZ [116,117,114,110]))))))) (eC gB (eV xL Y4 eI) eI)) Uj.nd) (eG (eU 7 (Hz hr (aRE (qL (eZ [106,111,105,110]) (eC fK eI (eV xL Y4 eI)) (qL (eZ [109,101,101,116]) (eC fK eI (eV xL Y4 eI)) (qL (eZ [108,101,115,115]) eI (qL (eZ [116,117,114,110]) eI LC))))) Y6) Uj.nd) (eE (eK (ix (A2 Y6 (jw ["_law_script","_law_mixed","_law_deep","_law_n"] [0,3,2,1] (mL ZZ.ai (A1 Y7)) (λ_ _ _ _ _ _=>hZ) (λ_ _ _ _ _ _=>(j7 D0 hr (aC Y1 (A3 (eC fK (eC fK (eC iJ eI Y4) eI) Y0) (eC gB Y3 eI) Y2))))))))))))),?_⟩
 extract_lets;refine⟨(),(),(()),.inl ⟨by decide,by decide⟩,(()),a,(),⟨ns,hS⟩,⟨⋯,⋯⟩,λc=>⟨(zL 3),λls hls=>⟨(),c,ls,bm,[9,3,16],rfl,SqL.of eF,(by decide),(by decide),λds p H1 s1 hp hd=>?_⟩⟩⟩;have sX:=(eJ hls (.lst (([9,3,16]:List Int).map V.int))).trans s1;obtain⟨x0,r0,rfl,b0,hd⟩:=gC hd;obtain⟨x1,r1,rfl,b1,hd⟩:=gC hd;obtain⟨x2,r2,rfl,b2,hd⟩:=gC hd;obtain rfl:=pK hd
 replace hp:H1 p=some (.lst [.int x0,.int x1,.int x2]):=hp
 cases lv with
 |zero=>
  refine⟨(),rfl,(),gV (λ_=>gE ?_) (λc=>absurd rfl c)⟩;refine⟨(),p,_,(()),SqL.of hp,rfl,rfl,(),gV (λc3=>?_) (λc3=>?_)⟩
  ·exact⟨(zL 0),λl hl=>⟨(zL 2),λt ht=>q t _ _ (sX.trans ((eJ hl _).trans (eJ ht _))) ⟨.B,t,l,[],[],[],(),eF,sX.none hl,eJ ht _ _ _ eF,⟨rfl,rfl,rfl⟩,.nil,rfl⟩ (p5 (by decide) λ_ h=>nomatch h)⟩⟩
  ·refine⟨(),(),(()),.inl ⟨by decide,by decide⟩,(()),a,(),⟨ns,sX.seq hS⟩,⟨⋯,⋯⟩,λc2=>⟨(),c2,bm,rfl,λx m0 m1 m3 kd kw H2 s2 hR=>?_⟩⟩;obtain⟨dx,dv,wv,hx,_⟩:=id hR;refine⟨(),(),x,dx,(),hx,zH ..,x,dx,m0,m1,m3,_,dv,wv,rfl,hx,(zL 2),λl hl=>⟨(zL 2),λt ht=>q t _ _ (sX.trans (s2.trans ((eJ hl _).trans (eJ ht _)))) ⟨.O,t,l,_,[],[],(),eF,(sX.trans s2).none hl,eJ ht _ _ _ eF,⟨.ref x,gP m1 m0,(),rfl,⟨x,m0,m1,m3,kd,kw,rfl,hR.go (λ_ z=>sX.none z) (ia ((eJ hl _).trans (eJ ht _))),rfl,rfl⟩,rfl⟩,.nil,rfl⟩ (p5 (by decide) λ_ h=>nomatch h)⟩⟩
 |succ m=>
  obtain rfl:=hs m rfl;refine⟨(),rfl,(),gV (λc=>absurd c (by have:((m+1:Nat):Int)=(m:Int)+1:=rfl;omega)) (λ_=>⟨(),p,_,(()),SqL.of hp,rfl,(()),(),hW (λ_=>?_) (λc0=>?_)⟩)⟩
  ·refine⟨(),p,_,(()),SqL.of hp,rfl,rfl,(),gV (λc3=>?_) (λc3=>?_)⟩
   ·exact⟨(zL 0),λl hl=>⟨(zL 2),λt ht=>q t _ _ (sX.trans ((eJ hl _).trans (eJ ht _))) ⟨.B,t,l,[],[],[],(),eF,sX.none hl,eJ ht _ _ _ eF,⟨rfl,rfl,rfl⟩,.nil,rfl⟩ (p5 (by decide) λ_ h=>nomatch h)⟩⟩
   ·refine⟨(),(),(()),.inl ⟨by decide,by decide⟩,(()),a,(),⟨ns,sX.seq hS⟩,⟨⋯,⋯⟩,λc2=>⟨(),c2,bm,rfl,λx m0 m1 m3 kd kw H2 s2 hR=>?_⟩⟩;obtain⟨dx,dv,wv,hx,_⟩:=id hR;refine⟨(),(),x,dx,(),hx,zH ..,x,dx,m0,m1,m3,_,dv,wv,rfl,hx,(zL 2),λl hl=>⟨(zL 2),λt ht=>q t _ _ (sX.trans (s2.trans ((eJ hl _).trans (eJ ht _)))) ⟨.O,t,l,_,[],[],(),eF,(sX.trans s2).none hl,eJ ht _ _ _ eF,⟨.ref x,gP m1 m0,(),rfl,⟨x,m0,m1,m3,kd,kw,rfl,hR.go (λ_ z=>sX.none z) (ia ((eJ hl _).trans (eJ ht _))),rfl,rfl⟩,rfl⟩,.nil,rfl⟩ (p5 (by decide) λ_ h=>nomatch h)⟩⟩
  obtain⟨kc,ewd,hkc⟩:=VX (i:=x0-2) ⋯ ⋯;refine⟨(zL 7),λwl hwl=>⟨(),p,_,(()),SqL.of ((eJ hwl _) _ _ hp),rfl,(()),wl,_,(()),SqL.of eF,ewd,?_⟩⟩;have sw:=eJ hwl (.lst [.str (Tx [106,111,105,110]),.str (Tx [109,101,101,116]),.str (Tx [108,101,115,115]),.str (Tx [116,117,114,110]),.str (Tx [106,111,105,110]),.str (Tx [108,101,115,115]),.str (Tx [116,117,114,110])]);obtain⟨M,eM,hM3,hM⟩:=Zs (z:=1+x1) ⋯ hkc
  refine λpd hpd=>⟨(),p,_,(()),SqL.of ((eJ hpd _) _ _ (sw _ _ hp)),rfl,(()),(),p,_,(()),SqL.of ((eJ hpd _) _ _ (sw _ _ hp)),rfl,(()),eF,vk (1+x1),rfl,(by show 4<=15;decide),(),pd,(),.inl ⟨_,.inr (Tx (lX kc)),(.inl eF),rfl,eM⟩,?_⟩;have s3:Same H1 (upd (upd (upd H1 wl (.lst [.str (Tx [106,111,105,110]),.str (Tx [109,101,101,116]),.str (Tx [108,101,115,115]),.str (Tx [116,117,114,110]),.str (Tx [106,111,105,110]),.str (Tx [108,101,115,115]),.str (Tx [116,117,114,110])])) pd (.dK [])) pd (.dK (mM [] (vk (1+x1))))):=sw.trans (kA hpd (eJ hpd _))
  refine⟨(),(),(),⋯,⋯,Ff (λD i l HZ=>∃bs,Paired (Tr (λb=>H1 b=none/\b≠D) (⟨(⟨aB,aE,aF,aI,aD,aA,aH,aJ⟩:Cs),aG,eQ aL aQ aM aO aK aP⟩:Bc) (m+1) HZ) l bs/\l.length=i/\∀b∈bs,pV (m+1) b) (λD i l HZ l0 l' hD _ ⟨bs,hp,hl⟩=>⟨bs,Paired.mapP hp λ_ _ z=>z.go (λ_ z=>z) (pb hD λp hp=>hp.2) _,hl⟩) (by rw[dN];omega) (λD _=>⟨[],.nil,rfl,λ_ h=>nomatch h⟩) (λi l D H5 E' F' hi ⟨bs,hP,hl,hb⟩ hD s5 hz hE hF=>?_) (λD H5 l ⟨bs,hP,hl,hb⟩ hD s5 hz=>?_)⟩
  ·have s15:=s3.trans s5;refine⟨(),(),(()),.inl ⟨by decide,by decide⟩,(()),(),(()),(),(()),(),a,3*n+1+i,bm,ns,?_,(sX.trans s15).seq hS,?_,λt b H6 s6 hT hB=>hE _ _ s6 ⟨bs++[b],mZ (Paired.mapP hP λ_ _ z=>z.same s6) (hT.go (λp hp=>⟨s15.none hp,λe=>by rw[e,hz] at hp;cases hp⟩) (ia (Same.refl _)) _),by rw[a8,hl];rfl,λz hz=>(b8.mp hz).elim (hb z) λe=>by rw[bU.mp e];exact hB⟩⟩
   ·show [V.ref a,V.int (3*(n:Int)+1+(0+(i:Int))),V.int (((m+1:Nat):Int)-1),V.bl bm]=_;rw[show 3*(n:Int)+1+(0+(i:Int))=((3*n+1+i:Nat):Int) by omega,show ((m+1:Nat):Int)-1=(m:Int) by omega]
   ·have hi':i<3:=⋯;have e3:(n+2)*3^(m+1)=(3*n+6)*3^m:=by rw[Nat.pow_succ,Nat.mul_comm (3^m) 3,←Nat.mul_assoc];congr 1;omega
    have:(3*n+1+i+2)*3^m<=(3*n+6)*3^m:=Nat.mul_le_mul_right _ ⋯;omega
  ·have s15:=s3.trans s5;refine⟨(zL 2),λt ht=>?_⟩;have st:=eJ ht (.tup [.str (Tx (lX kc)),.ref D]);have ln:l.length=M:=by rw[hl];exact bS M
   exact q t _ _ (sX.trans (s15.trans st)) ⟨kc,t,D,l,l,bs,gK kc,rfl,eF,sX.none (s3.none hD),st _ _ hz,hM ln,Paired.mapP hP λ_ _ z=>z.go (λp hp=>sX.none hp.1) (ia st) _,rfl⟩ (p5 (by rw[←Paired.length hP,ln];exact hM3) hb)
theorem RE{k0:Nat}:Df P w K mg base "_law_tree" (k0+1) ["_law_script","_law_n","_law_deep","_law_mixed"] (λ_ _ _ _=>False):=ZZ.b9.dfs Uj (λ_ _ _ _ h=>h.elim) (λ_ _ _ _ _ _ _ _ _ _ h=>h.elim)
theorem Ie:∀lv:Nat,Df P w K mg base "_law_tree" (lv+21) ["_law_script","_law_n","_law_deep","_law_mixed"] (p6 K (⟨(⟨aB,aE,aF,aI,aD,aA,aH,aJ⟩:Cs),aG,eQ aL aQ aM aO aK aP⟩:Bc) lv)
 |0=>Fh ZZ (k0:=0) (λm h=>absurd h.symm (Nat.succ_ne_zero m)) (RE ZZ)
 |lv+1=>by
  have:=Fh ZZ (k0:=lv+1) (lv:=lv+1) (λm h=>congrArg (λz=>p6 K (⟨(⟨aB,aE,aF,aI,aD,aA,aH,aJ⟩:Cs),aG,eQ aL aQ aM aO aK aP⟩:Bc) z) (cR h)) (by rw[show lv+1+20=lv+21 by omega];exact Ie lv);exact this
theorem ZV:Df P w K mg base "_law_tree" 23 ["_law_script","_law_n","_law_deep","_law_mixed"] (p6 K (⟨(⟨aB,aE,aF,aI,aD,aA,aH,aJ⟩:Cs),aG,eQ aL aQ aM aO aK aP⟩:Bc) 2):=Ie ZZ 2
theorem KS{k0 n:Nat}{sp0:Sp}(hs:∀m,n=m+1->sp0=pv (⟨(⟨aB,aE,aF,aI,aD,aA,aH,aJ⟩:Cs),aG,eQ aL aQ aM aO aK aP⟩:Bc) m)(D0:Df P w K mg base "_law_make" (k0+20) ["_law_tree_here"] sp0):Df P w K mg base "_law_make" (k0+21) ["_law_tree_here"] (pv (⟨(⟨aB,aE,aF,aI,aD,aA,aH,aJ⟩:Cs),aG,eQ aL aQ aM aO aK aP⟩:Bc) n):=by
 refine ZZ.ca.dfs Ub (λvs H Q E h=>?_) (λfz cdv Ar outer s H vs Q E hr h=>?_)
 ·obtain⟨A,v,b,rfl,_⟩:=h;rfl
 obtain⟨A,v,b,rfl,hT,hn,hb,q⟩:=h;refine⟨_,(eG (mU Y0 (w6 (iz (gN 1 Ub.nd) (iz (gN 2 Ub.nd) k8)))) (eG (fA (fB gw Y1 (eZ [110,111,110,101])) (eE (eK (BG ZZ.ah ZZ.dz))) fC) (eG (fA (fB gw Y1 (eZ [114,111,119])) (eE (eK (jN (hk:=by omega) ZZ.aq (Xz ZZ) hr (A1 (eV xL Y2 eI))))) fC) (eG (pC 3 [] [] (iL Y2) (λ_ _ _ _ _ _=>hZ) (λ_ _ _ _ _ _=>(j7 D0 hr (A1 Y0))) Ub.nd) (eG (fA (fB gw Y1 (eZ [106,111,105,110])) (eE (eK (jN (hk:=by omega) ZZ.ab (K6 ZZ) hr (A1 Y3)))) fC) (eG (fA (fB gw Y1 (eZ [109,101,101,116])) (eE (eK (jN (hk:=by omega) ZZ.ag (IP ZZ) hr (A1 Y3)))) fC) (eG (fA (fB gw Y1 (eZ [108,101,115,115])) (eE (eK (jN (hk:=by omega) ZZ.ad (My ZZ) hr (A2 (eV xL Y3 eI) (eV xL Y3 eI))))) fC) (eE (eK (jN (hk:=by omega) ZZ.ae (ahJ ZZ) hr (A1 (eV xL Y3 eI)))))))))))),?_⟩
 extract_lets;cases n with
 |zero=>exact hT.elim
 |succ n=>
  obtain rfl:=hs n rfl;obtain⟨i,t,l,us,vs,bs,g,rfl,ht,hA,hl,hsh,hP,rfl⟩:=hT.inn;obtain⟨_,lt⟩:=B6 (g:=g) (Lh hP);refine⟨(),t,(),SqT.of ht,rfl,_,(),(()),?_⟩;by_cases cB:i=.B
  ·subst cB;obtain⟨rfl,rfl,rfl⟩:=hsh;cases hP;exact⟨(),rfl,(),kG λx dx nx nd _=>uZ (R:=λH'=>Q (.ref x) H') (λH' s' h=>q _ H' s' (h.upn ⋯)) nx nd⟩
  by_cases cO:i=.O
  ·subst cO;obtain⟨r,tm,f,rfl,rfl,hR,rfl⟩:=hsh;cases hP;obtain⟨xr,_,_,_,_,_,rfl,_⟩:=id hR;exact⟨(),rfl,(),jp (by decide) ⟨(),rfl,(),kG ⟨(),l,_,(()),SqL.of hl,rfl,λx dx nx nd _=>CV (R:=λH'=>Q (.ref x) H') (hR.go (λ_ z=>z.1) (ia (Same.refl _))) (λH' s' h=>q _ H' s' (h.upn ⋯)) nx nd⟩⟩⟩
  obtain⟨rfl,l1,l8,n1,n2,hw⟩:=tZ hsh cB cO;refine⟨(),rfl,(),jp n1 ⟨(),rfl,(),jp n2 ⟨(),l,rfl,⟨_,SqL.of hl⟩,ul (xs:=vs) (λD j l' HZ=>Paired (Bk (λp=>A p/\H p≠none) (⟨(⟨aB,aE,aF,aI,aD,aA,aH,aJ⟩:Cs),aG,eQ aL aQ aM aO aK aP⟩:Bc) n HZ) l' (bs.take j)) (λD j l' HZ l0 l'' hD hN h=>Paired.mapP h λ_ _ z=>z.go (λ_ z=>z) (pb hD λp hp e=>hp.2 (by rw[e];exact hN)) _) (by rw[dN];omega) (λD _=>.nil) (SqL.of hl) (λj v l' D H2 E' F' hv h hD s2 hz hE hF=>?_) (λD H2 l' h hD s2 hz=>?_)⟩⟩⟩
  ·obtain⟨b,eb,hb'⟩:=KM.Paired.at hP hv;have z:=lt b (bR eb);exact⟨(),_,v,b,rfl,hb'.same s2,⋯,⋯,λu H5 s5 hB=>hE _ _ s5 (by rw[bL,eb];exact mZ (Paired.mapP h λ_ _ z=>z.same s5) hB)⟩
  rw[Paired.length hP,bN] at h;have ln:l'.length=vs.length:=by rw[Paired.length h,Paired.length hP]
  have fE:∀{x:Addr} {g:List DF->DF},g9 g bs=g9 g bs->∀H3,Same H2 H3->Bk (λp=>A p/\H p≠none) (⟨(⟨aB,aE,aF,aI,aD,aA,aH,aJ⟩:Cs),aG,eQ aL aQ aM aO aK aP⟩:Bc) (n+1) H3 (.ref x) (g9 g bs)->Bk A (⟨(⟨aB,aE,aF,aI,aD,aA,aH,aJ⟩:Cs),aG,eQ aL aQ aM aO aK aP⟩:Bc) (n+1) H3 (.ref x) (g9 g bs):=λ_ _ _ z=>z.go (λ_ z=>z.1) (ia (Same.refl _)) _;rcases hw with ⟨rfl,rfl⟩ | ⟨rfl,rfl⟩ | ⟨rfl,rfl,l2⟩ | ⟨rfl,rfl,l2⟩
  ·exact⟨(),rfl,(),kG ⟨(),λx dx nx nd _=>qX (R:=λH'=>Q (.ref x) H') (.inl ⟨rfl,rfl⟩) (SqL.of hz) h ⋯ ⋯ ⋯ hb (λH3 s3 hB=>q _ H3 (s2.trans s3) (fE rfl H3 s3 ⟨_,(),hB⟩)) nx nd⟩⟩
  ·exact⟨(),rfl,(),jp (by decide) ⟨(),rfl,(),kG ⟨(),λx dx nx nd _=>qX (R:=λH'=>Q (.ref x) H') (.inr ⟨rfl,rfl⟩) (SqL.of hz) h ⋯ ⋯ ⋯ hb (λH3 s3 hB=>q _ H3 (s2.trans s3) (fE rfl H3 s3 ⟨_,(),hB⟩)) nx nd⟩⟩⟩
  ·obtain⟨u1,u2,rfl⟩:=Vo (ln.trans l2);exact⟨(),rfl,(),jp (by decide) ⟨(),rfl,(),jp (by decide) ⟨(),rfl,(),kG ⟨(),D,_,(()),SqL.of hz,rfl,(),D,_,(()),SqL.of hz,rfl,λx dx nx nd _=>uL (R:=λH'=>Q (.ref x) H') h ⋯ hb (λH3 s3 hB=>q _ H3 (s2.trans s3) (fE rfl H3 s3 hB)) nx nd⟩⟩⟩⟩
  ·obtain⟨u1,rfl⟩:=G3 (ln.trans l2);exact⟨(),rfl,(),jp (by decide) ⟨(),rfl,(),jp (by decide) ⟨(),rfl,(),jp (by decide) ⟨(),D,_,(()),SqL.of hz,rfl,λx dx nx nd _=>B5 (R:=λH'=>Q (.ref x) H') h ⋯ hb (λH3 s3 hB=>q _ H3 (s2.trans s3) (fE rfl H3 s3 hB)) nx nd⟩⟩⟩⟩
theorem QZ{k0:Nat}:Df P w K mg base "_law_make" (k0+1) ["_law_tree_here"] (λ_ _ _ _=>False):=ZZ.ca.dfs Ub (λ_ _ _ _ h=>h.elim) (λ_ _ _ _ _ _ _ _ _ _ h=>h.elim)
theorem tU:∀n:Nat,Df P w K mg base "_law_make" (n+21) ["_law_tree_here"] (pv (⟨(⟨aB,aE,aF,aI,aD,aA,aH,aJ⟩:Cs),aG,eQ aL aQ aM aO aK aP⟩:Bc) n)
 |0=>KS ZZ (k0:=0) (λm h=>absurd h.symm (Nat.succ_ne_zero m)) (QZ ZZ)
 |n+1=>by
  have:=KS ZZ (k0:=n+1) (n:=n+1) (λm h=>congrArg (λz=>pv (⟨(⟨aB,aE,aF,aI,aD,aA,aH,aJ⟩:Cs),aG,eQ aL aQ aM aO aK aP⟩:Bc) z) (cR h)) (by rw[show n+1+20=n+21 by omega];exact tU n);exact this
theorem Od:Df P w K mg base "_law_make" 24 ["_law_tree_here"] (pv (⟨(⟨aB,aE,aF,aI,aD,aA,aH,aJ⟩:Cs),aG,eQ aL aQ aM aO aK aP⟩:Bc) 3):=tU ZZ 3
theorem PU:Dx P w base ZZ.dx 1 (OT K):=by
 refine ZZ.dx.dfs anH (by trivial) ?_;rintro _ _ _ _ s H _ Q E hr⟨wd,a,b,rfl,hw,ha,hb,q⟩;refine⟨_,(eG (fA (fB gw Y0 (eZ [106,111,105,110])) (eE (eK (eC kJ Y1 Y2))) fC) (eG (fA (fB gw Y0 (eZ [109,101,101,116])) (eE (eK (eC kz Y1 Y2))) fC) (eE (eK (eC kz Y1 (eC gB (eC gB (eC j5 eI eI) eI) Y2)))))),?_⟩;extract_lets;rcases hw with rfl | rfl | rfl
 ·rw[tY] at q;exact⟨(),rfl,(),kG ⟨(),(),(()),q⟩⟩
 ·rw[ya] at q;exact⟨(),rfl,(),jp (by decide) ⟨(),rfl,(),kG ⟨(),(),(()),q⟩⟩⟩
 ·rw[IZ,←aGG ha hb] at q;exact⟨(),rfl,(),jp (by decide) ⟨(),rfl,(),jp (by decide) ⟨(),(()),⟨by decide,by decide,by decide⟩,(()),(),(()),(()),q⟩⟩⟩
theorem Ea{k0 n:Nat}{sp0:Sp}(hs:∀m,n=m+1->sp0=oK (⟨(⟨aB,aE,aF,aI,aD,aA,aH,aJ⟩:Cs),aG,eQ aL aQ aM aO aK aP⟩:Bc) m)(D0:Df P w K mg base "_law_masks" (k0+20) ["_law_tree_here","_law_kind"] sp0):Df P w K mg base "_law_masks" (k0+21) ["_law_tree_here","_law_kind"] (oK (⟨(⟨aB,aE,aF,aI,aD,aA,aH,aJ⟩:Cs),aG,eQ aL aQ aM aO aK aP⟩:Bc) n):=by
 refine ZZ.b5.dfs Uc (λvs H Q E h=>?_) (λfz cdv Ar outer s H vs Q E hr h=>?_)
 ·obtain⟨A,v,k,b,rfl,_⟩:=h;rfl
 obtain⟨A,v,k,b,rfl,hT,hk,q⟩:=h;refine⟨_,(eG (mU Y0 (w6 (iz (gN 2 Uc.nd) (iz (gN 3 Uc.nd) k8)))) (hU (eU 4 (eV xT (eD (hk:=by omega) (n6 ZZ) hr (A1 Y1)) eI) Uc.nd) (eG (fA (fB gw Y2 (eZ [110,111,110,101])) (eE (eK (eC yP (gD (A1 eI)) Y4))) fC) (eG (fA (fB gw Y2 (eZ [114,111,119])) (hU (eU 5 (ip (hk:=by omega) ZZ.aa.cl (qC ZZ) hr (eV xL Y3 eI) (A1 Y1)) Uc.nd) (eE (eK (jw ["_law_parts","_law_days"] [3,5] (vi ZZ.ai (A2 eI (eC fK Y4 eI))) (λ_ _ _ _ _ _=>hZ) (λ_ _ _ _ _ _=>(eC iJ (eV (fR (K:=K)) Y1 eI) (eC kz (eC m8 Y2 Y0) eI))))))) fC) (hU (eU 6 (j7 D0 hr (A2 (eV xL Y3 eI) Y1)) Uc.nd) (eG (fA (fB gw Y2 (eZ [116,117,114,110])) (eE (eK (jw [] [] (iL Y6) (λ_ _ _ _ _ _=>hZ) (λ_ _ _ _ _ _=>(eC gB (eC gB (eC j5 eI eI) eI) Y0))))) fC) (eG (jk (iL (ju zI Y3 (iN eI) jE)) (gN 7 Uc.nd) (hU (eU 8 (j7 D0 hr (A2 Y7 Y1)) Uc.nd) (eE (eU 6 (jw ["_law_word","_law_found","_law_more"] [2,6,8] (mL ZZ.ai (A1 Y4)) (λ_ _ _ _ _ _=>hZ) (λ_ _ _ _ _ _=>(eD (hk:=by omega) (PU ZZ) hr (A3 Y1 (eV (fR (K:=K)) Y2 Y0) (eV (fR (K:=K)) Y3 Y0))))) Uc.nd))) PassesOwn.never) (eE (eK Y6))))))))),?_⟩
 extract_lets;cases n with
 |zero=>exact hT.elim
 |succ n=>
  obtain rfl:=hs n rfl;have ml:=(kM hk.1 hk.2).2.1;obtain⟨i,t,l,us,vs',bs,g,rfl,ht,hA,hl,hsh,hP,rfl⟩:=hT;obtain⟨wd,ewd⟩:∃wd,wd=lX i:=⟨()⟩;rw[←ewd] at ht;refine⟨(),t,(),SqT.of ht,rfl,_,(),(()),?_⟩;refine⟨λσ' H'=>σ'=[some (.ref t),some (.int k),some (.str (Tx wd)),some (.ref l),some (.int (gI k)),none,none,none,none]/\Same H H',⟨(),k,rfl,hk,λt1 H1 s1 h1=>⟨t1,_,(()),SqT.of (by rw[mY] at h1;exact h1),rfl,rfl,s1⟩⟩,?_⟩
  rintro σ' H1 ⟨rfl,s1⟩;by_cases cB:i=.B
  ·subst cB;obtain rfl:=ewd;obtain⟨rfl,rfl,rfl⟩:=hsh;cases hP;refine⟨(),rfl,(),kG ⟨(zL 1),λl2 hl2=>⟨(),l2,(()),eF,⋯,⋯,(by rw[dN];show 1*_<=_;omega),λp hp=>q p _ (s1.trans ((eJ hl2 _).trans (eJ hp _))) ?_⟩⟩⟩;rw[Cy];exact eF
  by_cases cO:i=.O
  ·subst cO;obtain rfl:=ewd;obtain⟨r,tm,f,rfl,rfl,⟨x,m0,m1,m3,kd,kw,rfl,⟨dx,dv,wv,hx,h3,_,hd,hw,_⟩,rfl,rfl⟩,rfl⟩:=hsh;cases hP;have hl1:=s1 _ _ hl;refine⟨(),rfl,(),jp (by decide) ⟨(),rfl,(),kG ⟨λσ' H'=>σ'=[some (.ref t),some (.int k),some (.str (Tx [114,111,119])),some (.ref l),some (.int (gI k)),some (.int (jH m3 kd kw k)),none,none,none]/\Same H1 H',⟨(),l,_,(()),SqL.of hl1,rfl,x,dx,(),s1 _ _ hx,q9 ..,(),x,dx,m0,m1,m3,gP m1 m0,k,dv,wv,kd,kw,rfl,s1 _ _ hx,hk,h3.2.2,hd.keep s1,hw.keep s1,λH2 s2=>⟨rfl,s2⟩⟩,?_⟩⟩⟩
   rintro σ' H2 ⟨rfl,s2⟩;have s12:=s1.trans s2;refine⟨(),(()),_,(),⟨by decide,by decide,⋯,⋯⟩,p4 (λi l=>l=((List.range i).map (iG (gP m1 m0) m3 kd kw k)).map V.int) (by show (gI k+1-1).toNat<=sizeLine;rw[dN];omega) rfl ?_ ?_⟩
   ·intro i l' D H3 E' F' hi hR hD s3 hz hE hF;subst hR;have hd0:=Ez (m3:=m3) hd hw hk.1 hk.2;refine⟨(),l,_,(()),SqL.of ((s12.trans s3) _ _ hl),rfl,(),(),(()),(by show 0<=1+(i:Int);omega),(()),(()),.inr ?_,hE _ _ (Same.refl _) ?_⟩
    ·have h1:Builtin.bitAnd (jH m3 kd kw k / 2^(1+(i:Int)).toNat) 1=0∨Builtin.bitAnd (jH m3 kd kw k / 2^(1+(i:Int)).toNat) 1=1:=by
      cases c:tb (jH m3 kd kw k) (1+(i:Int)).toNat
      ·exact .inl ((tM hd0 _).mpr c)
      ·exact .inr ((mv hd0 _).mpr c)
     rcases h1 with h1 | h1<;>rw[h1]<;>exact⟨by decide,by decide⟩
    ·show _++[V.int (gP m1 m0*Builtin.bitAnd (jH m3 kd kw k / 2^(1+(i:Int)).toNat) 1)]=_;rw[Vm hd0,cC,bA,bA];rfl
   ·intro D H3 l' hR hD s3 hz;subst hR;refine q D H3 (s12.trans s3) ?_;rw[hz];unfold fX;rw[show (gI k+1-1).toNat=(gI k).toNat by omega];rfl
  obtain⟨rfl,l1,l8,n1,n2,hw⟩:=tZ hsh cB cO;rw[←ewd] at n1 n2;obtain⟨u0,ur,rfl⟩:∃u0 ur,vs'=u0::ur:=by
   cases vs' with
   |nil=>exact absurd l1 (by decide)
   |cons u ur=>exact⟨u,ur,rfl⟩
  obtain⟨g0,gr,rfl,hP0,hPr⟩:∃g0 gr,bs=g0::gr/\Tr A (⟨(⟨aB,aE,aF,aI,aD,aA,aH,aJ⟩:Cs),aG,eQ aL aQ aM aO aK aP⟩:Bc) n H u0 g0/\Paired (Tr A (⟨(⟨aB,aE,aF,aI,aD,aA,aH,aJ⟩:Cs),aG,eQ aL aQ aM aO aK aP⟩:Bc) n H) ur gr:=by
   cases hP with
   |cons h t=>exact⟨_,(),h,t⟩
  have hl1:=s1 _ _ hl;refine⟨(),rfl,(),jp n1 ⟨(),rfl,(),jp n2 ⟨λσ' H'=>∃D,σ'=[some (.ref t),some (.int k),some (.str (Tx wd)),some (.ref l),some (.int (gI k)),none,some (.ref D),none,none]/\Same H1 H'/\H' D=some (.lst ((fX g0.2.2 k).map V.int)),⟨(),l,_,(()),SqL.of hl1,kT (j:=0) rfl,(),A,u0,k,g0,rfl,hP0.same s1,hk,λD H2 s2 h2=>⟨D,rfl,s2,h2⟩⟩,?_⟩⟩⟩;rintro σ' H2 ⟨D,rfl,s2,hD⟩;have s12:=s1.trans s2
  have w0:=Tr.ok n hP0;have l31:=oH hk.1 hk.2;by_cases ct:wd=[116,117,114,110]
  ·have hg:g=lE/\gr=[]:=by
    rcases hw with ⟨rfl,_⟩ | ⟨rfl,_⟩ | ⟨rfl,_⟩ | ⟨rfl,h,l2⟩
    ·rw[ct] at ewd;exact absurd ewd (by decide)
    ·rw[ct] at ewd;exact absurd ewd (by decide)
    ·rw[ct] at ewd;exact absurd ewd (by decide)
    ·refine⟨h,List.length_eq_zero_iff.mp ?_⟩;rw[←Paired.length hPr];exact cR l2
   obtain⟨rfl,rfl⟩:=hg;clear ewd n1 n2;subst ct;refine⟨(),rfl,(),kG ⟨(),D,rfl,⟨_,SqL.of hD⟩,nY (xs:=(fX g0.2.2 k).map V.int) (λj l=>l=((List.range j).map (qx g0.2.2 k)).map V.int) (by rw[aY,iw,dN];omega) rfl (SqL.of hD) (λj u l D3 H4 E' F' ha hR hD3 s4 hl hE hF=>?_) (λD3 H4 l hR hD3 s4 hl=>?_)⟩⟩
   ·subst hR;obtain⟨rfl,_⟩:=lL ha;refine⟨(()),⟨by decide,by decide,by decide⟩,(()),(),(()),hE _ _ (Same.refl _) ?_⟩;rw[cC,bA,bA];show _++[V.int (allT-g0.2.2 k j)]=_;rw[J3 (w0 k j)];rfl
   ·subst hR;exact q D3 H4 (s12.trans s4) (by rw[hl,aY,iw];rfl)
  have hw3:(wd=[106,111,105,110]∨wd=[109,101,101,116]∨wd=[108,101,115,115])/\(g9 g (g0::gr)).2.2=j8 wd g0.2.2 (gr.map (·.2.2)):=by
   rw[ewd];rcases hw with ⟨rfl,rfl⟩ | ⟨rfl,rfl⟩ | ⟨rfl,rfl,l2⟩ | ⟨rfl,_⟩
   ·exact⟨.inl rfl,(Cg w0).symm⟩
   ·exact⟨.inr (.inl rfl),(zf w0).symm⟩
   ·refine⟨.inr (.inr rfl),?_⟩;have e1:gr.length=1:=by rw[←Paired.length hPr];exact cR l2
    cases gr with
    |nil=>cases e1
    |cons g1 gr=>
     obtain rfl:=List.length_eq_zero_iff.mp (cR e1);exact fo_l.symm
   ·exact absurd ewd ct
  obtain⟨hw3,ef⟩:=hw3;have wr:∀z∈gr.map (·.2.2),gy z:=λz hz=>by
   obtain⟨b,hb,rfl⟩:=bH.mp hz;obtain⟨a,_,ha⟩:=mm hPr b hb;exact Tr.ok n ha
  have ec:jR (u0::ur) (some 1) none=ur:=DP u0 ur;refine⟨(),rfl,(),jp ct ⟨(),(),l,(),SqL.of (s2 _ _ hl1),λlc hlc=>?_⟩⟩;rw[ec];have sc:=eJ hlc (.lst ur);refine⟨lc,rfl,⟨_,SqL.of eF⟩,mw (K:=K) (a:=lc) (xs:=ur) (λi σ H3=>∃(D:Addr) (v7 v8:Option V),σ=[some (.ref t),some (.int k),some (.str (Tx wd)),some (.ref l),some (.int (gI k)),none,some (.ref D),v7,v8]/\Same H2 H3/\H3 lc=some (.lst ur)/\H3 D=some (.lst ((fX (j8 wd g0.2.2 ((gr.map (·.2.2)).take i)) k).map V.int))) ⟨D,_,(),sc,eF,sc _ _ hD⟩ (λi σ H3 _ ⟨_,_,_,_,_,h3,_⟩=>SqL.of h3) ?turn ?done⟩
  case done=>
   rintro σ H3 ⟨D3,v7,v8,rfl,s3,_,h3⟩;rw[Paired.length hPr,←aY (f:=λb:Bt=>b.2.2),bN,←ef] at h3;exact⟨(),q D3 H3 (s12.trans s3) h3⟩
  case turn=>
   rintro i v σ H3 hv ⟨D3,v7,v8,rfl,s3,hlc3,h3⟩;obtain⟨b,eb,hg⟩:=KM.Paired.at hPr hv;have eg:(gr.map (·.2.2))[i]? =some b.2.2:=by rw[bI,eb];rfl
   refine⟨λσ' H'=>∃D4,σ'=[some (.ref t),some (.int k),some (.str (Tx wd)),some (.ref l),some (.int (gI k)),none,some (.ref D3),some v,some (.ref D4)]/\Same H3 H'/\H' D4=some (.lst ((fX b.2.2 k).map V.int)),⟨(),(),A,v,k,b,rfl,hg.same (s12.trans s3),hk,λD4 H4 s4 h4=>⟨D4,rfl,s4,h4⟩⟩,?_⟩;rintro σ' H4 ⟨D4,rfl,s4,h4⟩;have wf:=PX (wd:=wd) (g:=g0.2.2) (fs:=(gr.map (·.2.2)).take i) w0 λz hz=>wr z (List.mem_of_mem_take hz)
   refine⟨(),(),⋯,⋯,p4 (λj l=>l=((List.range j).map (j8 wd g0.2.2 ((gr.map (·.2.2)).take (i+1)) k)).map V.int) (by rw[dN];omega) rfl ?_ ?_⟩
   ·intro j l' D5 H5 E' F' hj hR hD5 s5 hz hE hF;subst hR;have at1:∀g:DF,ie ((fX g k).map V.int) (0+(j:Int))=some (.int (g k j)):=λg=>by
     rw[show (0:Int)+(j:Int)=(j:Int) by omega];exact kT (by unfold fX;rw[cG,bI,List.getElem?_range hj];rfl)
    refine⟨(),(),(),D3,_,(()),SqL.of ((s4.trans s5) _ _ h3),at1 _,(),(),D4,_,(()),SqL.of (s5 _ _ h4),at1 _,wd,_,(),hw3,wf k j,Tr.ok n hg k j,hE _ _ (Same.refl _) ?_⟩;rw[cC,bA,bA];show _=_++[V.int (j8 wd g0.2.2 ((gr.map (·.2.2)).take (i+1)) k j)];rw[aBY eg]
   ·intro D5 H5 l' hR hD5 s5 hz;subst hR;exact⟨D5,_,(),s3.trans (s4.trans s5),(s4.trans s5) _ _ hlc3,hz⟩
theorem Lc{k0:Nat}:Df P w K mg base "_law_masks" (k0+1) ["_law_tree_here","_law_kind"] (λ_ _ _ _=>False):=ZZ.b5.dfs Uc (λ_ _ _ _ h=>h.elim) (λ_ _ _ _ _ _ _ _ _ _ h=>h.elim)
theorem rG:∀n:Nat,Df P w K mg base "_law_masks" (n+21) ["_law_tree_here","_law_kind"] (oK (⟨(⟨aB,aE,aF,aI,aD,aA,aH,aJ⟩:Cs),aG,eQ aL aQ aM aO aK aP⟩:Bc) n)
 |0=>Ea ZZ (k0:=0) (λm h=>absurd h.symm (Nat.succ_ne_zero m)) (Lc ZZ)
 |n+1=>by
  have:=Ea ZZ (k0:=n+1) (n:=n+1) (λm h=>congrArg (λz=>oK (⟨(⟨aB,aE,aF,aI,aD,aA,aH,aJ⟩:Cs),aG,eQ aL aQ aM aO aK aP⟩:Bc) z) (cR h)) (by rw[show n+1+20=n+21 by omega];exact rG n);exact this
theorem ap9:Df P w K mg base "_law_masks" 24 ["_law_tree_here","_law_kind"] (oK (⟨(⟨aB,aE,aF,aI,aD,aA,aH,aJ⟩:Cs),aG,eQ aL aQ aM aO aK aP⟩:Bc) 3):=rG ZZ 3
theorem VA{k0 n:Nat}{sp0:Sp}(hs:∀m,n=m+1->sp0=pz (⟨(⟨aB,aE,aF,aI,aD,aA,aH,aJ⟩:Cs),aG,eQ aL aQ aM aO aK aP⟩:Bc) m)(D0:Df P w K mg base "_law_rows" k0 ["_law_tree_here"] sp0):Df P w K mg base "_law_rows" (k0+1) ["_law_tree_here"] (pz (⟨(⟨aB,aE,aF,aI,aD,aA,aH,aJ⟩:Cs),aG,eQ aL aQ aM aO aK aP⟩:Bc) n):=by
 refine ZZ.cb.dfs Ug (λvs H Q E h=>?_) (λfz cdv Ar outer s H vs Q E hr h=>?_)
 ·obtain⟨A,v,b,rfl,_⟩:=h;rfl
 obtain⟨A,v,b,rfl,hT,hn,q⟩:=h;refine⟨_,(eG (fA (fB gw (eV xT Y0 eI) (eZ [114,111,119])) (eE (eK (ju zI (eV xT Y0 eI) jE (iN eI)))) fC) (eG (eU 1 (gD aN) Ug.nd) (eG (jk (iL (eV xT Y0 eI)) (gN 2 Ug.nd) (eE (eU 1 (eC om Y1 (j7 D0 hr (A1 Y2))) Ug.nd)) PassesOwn.never) (eE (eK Y1))))),?_⟩;extract_lets;cases n with
 |zero=>exact hT.elim
 |succ n=>
  obtain rfl:=hs n rfl;obtain⟨i,t,l,us,vs,bs,g,rfl,ht,hA,hl,hsh,hP,rfl⟩:=hT.inn;have h8:=vb hn;have h8':8^(n+1)=8^n*8:=rfl;by_cases cO:i=.O
  ·subst cO;obtain⟨r,tm,f,rfl,rfl,hR,rfl⟩:=hsh;refine⟨(),t,_,(()),SqT.of ht,rfl,rfl,(),kG ⟨(),t,_,(()),SqT.of ht,rfl,(),l,(),SqL.of hl,λD hD=>q D [r] _ (eJ hD _) eF (λz hz=>?_) ?_⟩⟩
   ·rw[bU.mp hz];exact⟨tm,f,hR.go (λ_ z=>z.1) (ia (eJ hD _))⟩
   ·show 1<=8^(n+1);exact Nat.pow_pos (by decide)
  obtain⟨rfl,hlen⟩:vs=us/\us.length<=8:=by
   by_cases cB:i=.B
   ·subst cB;obtain⟨rfl,rfl,_⟩:=hsh;exact⟨rfl,bK _⟩
   ·obtain⟨e,_,l8,_⟩:=tZ hsh cB cO;exact⟨e,l8⟩
  refine⟨(),t,_,(()),SqT.of ht,rfl,rfl,(),jp (λz=>cO (aIU z)) ⟨(zL 0),λD hD=>?_⟩⟩;have s0:=eJ hD (.lst []);refine⟨(),t,_,(()),SqT.of (s0 _ _ ht),rfl,l,rfl,⟨_,SqL.of (s0 _ _ hl)⟩,mw (K:=K) (a:=l) (xs:=vs) (λj σ H2=>∃(D:Addr) (ls:List V) (v3:Option V),σ=[some (.ref t),some (.ref D),v3]/\Same H H2/\H2 D=some (.lst ls)/\(∀r∈ls,∃tm f,RwP (λp=>A p/\H p≠none) (⟨(⟨aB,aE,aF,aI,aD,aA,aH,aJ⟩:Cs),aG,eQ aL aQ aM aO aK aP⟩:Bc) H2 r tm f)/\ls.length<=j*8^n) ⟨D,[],(),s0,eF,(λ_ h=>nomatch h),bK _⟩ (λj σ H2 _ ⟨_,_,_,_,s2,_⟩=>SqL.of (s2 _ _ hl)) ?turn ?done⟩
  case done=>
   rintro σ H2 ⟨D,ls,v3,rfl,s2,hD,hR,hls⟩;exact⟨(),q D ls H2 s2 hD (λr hr=>by obtain⟨tm,f,z⟩:=hR r hr;exact⟨tm,f,z.go (λ_ z=>z.1) (ia (Same.refl _))⟩) (bV hls (by rw[h8',Nat.mul_comm];exact Nat.mul_le_mul_left _ hlen))⟩
  case turn=>
   rintro j v σ H2 hv ⟨D,ls,v3,rfl,s2,hD,hR,hls⟩;obtain⟨b,eb,hb⟩:=KM.Paired.at hP hv;have hj:j<vs.length:=(cT.mp hv).1;have hj8:j*8^n<=8*8^n:=Nat.mul_le_mul_right _ ⋯;refine⟨(),(),_,v,b,rfl,hb.same s2,⋯,λD2 l2 H3 s3 h3 hR3 hl3=>⟨D,D2,ls,l2,rfl,rfl,SqL.of (s3 _ _ hD),SqL.of h3,(by rw[dN];omega),λD3 hD3=>⟨D3,ls++l2,(),s2.trans (s3.trans (eJ hD3 _)),eF,λr hr=>?_,?_⟩⟩⟩
   ·rcases b8.mp hr with hr | hr
    ·obtain⟨tm,f,z⟩:=hR r hr;exact⟨tm,f,z.go (λ_ z=>z) (ia (s3.trans (eJ hD3 _)))⟩
    ·obtain⟨tm,f,z⟩:=hR3 r hr;exact⟨tm,f,z.go (λ_ z=>z) (ia (eJ hD3 _))⟩
   ·rw[a8,Nat.succ_mul];omega
theorem Fd:∀n:Nat,Df P w K mg base "_law_rows" (n+1) ["_law_tree_here"] (pz (⟨(⟨aB,aE,aF,aI,aD,aA,aH,aJ⟩:Cs),aG,eQ aL aQ aM aO aK aP⟩:Bc) n)
 |0=>ZZ.cb.dfs Ug (λvs H Q E h=>by obtain⟨A,v,b,_,h,_⟩:=h;exact h.elim) (λ_ _ _ _ _ _ _ _ _ _ h=>by obtain⟨A,v,b,_,h,_⟩:=h;exact h.elim)
 |n+1=>VA ZZ (n:=n+1) (λm h=>congrArg (λz=>pz (⟨(⟨aB,aE,aF,aI,aD,aA,aH,aJ⟩:Cs),aG,eQ aL aQ aM aO aK aP⟩:Bc) z) (cR h)) (Fd n)
theorem asS:Df P w K mg base "_law_rows" 4 ["_law_tree_here"] (pz (⟨(⟨aB,aE,aF,aI,aD,aA,aH,aJ⟩:Cs),aG,eQ aL aQ aM aO aK aP⟩:Bc) 3):=Fd ZZ 3
theorem Mp:Dx P w base ZZ.dy 3 (anY K):=by
 refine ZZ.dy.dfs Ud (by trivial) ?_;rintro _ _ _ _ s H _ Q E hr⟨c,bm,rfl,q⟩;refine⟨_,(hU (fA (tW (mI (iu (gW Y1)) (nP (fB Bq (gS KP ZZ.e6 PyProof.Rows.boot_abs (A1 Y0)) (eC nH eI eI))))) (eE (eK (eC gB (eC g6 Y0 (eC fK (eC iJ eI (eC nH eI eI)) eI)) (eC nH eI eI)))) fC) (eG (eU 2 (eD (oS ZZ) hr (A3 Y0 (gD (vg [2401,4,366,3,3,1440])) eB)) Ud.nd) (eG (eU 3 (eC gB (eV (fR (K:=K)) Y2 eI) eI) Ud.nd) (eG (eU 4 (eC gB (eV (fR (K:=K)) (gD (aC eI (A3 eI eI (eV (fR (K:=K)) Y2 eI)))) (eV (fR (K:=K)) Y2 eI)) (eV (fR (K:=K)) Y2 eI)) Ud.nd) (eG (eU 5 (eC fK (eC fK (eC gB (eC fK (eC iJ eI Y3) (eC jy (eC fK Y3 eI) eI)) (eC jy (eC fK Y3 eI) eI)) (eC jy (eC fK Y3 eI) eI)) Y4) Ud.nd) (eE (eK (eC fK (eC iJ eI Y5) (eV (fR (K:=K)) (gD (A3 eI eI (eV (fR (K:=K)) Y2 eI))) (eV (fR (K:=K)) Y2 eI)))))))))),?_⟩
 extract_lets;refine⟨λσ' H'=>σ'=[some (.int c),some (.bl bm),none,none,none,none]/\H'=H,?_,?_⟩
 ·refine⟨(),(),?_⟩;cases bm with
  |true=>exact fW (fW ⟨rfl,rfl⟩)
  |false=>exact gE ⟨(),(),(()),⟨by decide,by decide,by decide⟩,(()),(),hW (λ_=>⟨(),(()),⟨by decide,by decide,by decide⟩,(()),.inl ⟨by decide,by decide⟩,(()),(()),(by rw[ZH];show (0:Int)<_;decide),(()),⟨by decide,by decide,by decide⟩,(()),q _ _ (Same.refl _)⟩) (λ_=>⟨rfl,rfl⟩)⟩
 rintro σ' H' ⟨rfl,rfl⟩;refine⟨(),(zL 6),λls hls=>⟨c,ls,true,[2401,4,366,3,3,1440],rfl,SqL.of eF,(by decide),(by decide),λds p H1 s0 hp hd=>?_⟩⟩;have s1:=(eJ hls (.lst (([2401,4,366,3,3,1440]:List Int).map V.int))).trans s0;obtain⟨d0,r,rfl,_,hd⟩:=gC hd;obtain⟨d1,r,rfl,k1,hd⟩:=gC hd;obtain⟨d2,r,rfl,_,hd⟩:=gC hd;obtain⟨d3,r,rfl,_,hd⟩:=gC hd;obtain⟨d4,r,rfl,k4,hd⟩:=gC hd;obtain⟨d5,r,rfl,_,hd⟩:=gC hd
 obtain rfl:=pK hd
 replace hp:H1 p=some (.lst [.int d0,.int d1,.int d2,.int d3,.int d4,.int d5]):=hp
 obtain⟨ee,hee⟩:=CJ (zs:=[0,59,365,d2]) (i:=d1) k1.1 k1.2;obtain⟨tt,htt⟩:=CJ (zs:=[0,1439,d5]) (i:=d4) k4.1 k4.2;refine⟨(),p,_,(()),SqL.of (hp),rfl,(()),?_⟩;refine⟨(),p,_,(()),SqL.of (hp),rfl,(zL 4),λl1 h1=>⟨(),p,_,(()),SqL.of ((eJ h1 _) _ _ hp),rfl,l1,_,(()),SqL.of eF,hee,(),p,_,(()),SqL.of ((eJ h1 _) _ _ hp),rfl,(()),?_⟩⟩;refine⟨(),(()),.inl ⟨by decide,by decide⟩,(),(()),(()),⟨by decide,by decide⟩,(()),(),(()),(()),⟨by decide,by decide⟩,(()),(),(()),(()),⟨by decide,by decide⟩,(()),(),(()),?_⟩
 exact⟨(),(()),.inl ⟨by decide,by decide⟩,(),p,_,(()),SqL.of ((eJ h1 _) _ _ hp),rfl,(zL 3),λl2 h2=>⟨(),p,_,(()),SqL.of ((eJ h2 _) _ _ ((eJ h1 _) _ _ hp)),rfl,l2,_,(()),SqL.of eF,htt,(()),q _ _ (s1.trans ((eJ h1 _).trans (eJ h2 _)))⟩⟩
theorem MJ:Dx P w base ZZ.ex 12 (atR K aB aE aF aI aD aA aH aJ aG aL aQ aM aO aK aP aR aS):=by
 refine ZZ.ex.dfs Ue (by trivial) ?_;rintro f _ _ _ s H _ Q E hr⟨A',t,b,c,bm,rfl,hT,hTb,q⟩;refine⟨_,(eG (eU 3 (eD (oS ZZ) hr (A3 Y1 (gD (A3 eI eI eI)) Y2)) Ue.nd) (eG (eU 4 (eD (Mp ZZ) hr (A2 (eC jy Y1 eI) Y2)) Ue.nd) (eG (eU 5 (eD (asS ZZ) hr (A1 Y0)) Ue.nd) (eG (fA (tW (j6 (fB (wu hr.units) Y5 (gD aN)) (ke (fB gw (eV (fR (K:=K)) Y3 eI) eI)))) (eE (eK Y4)) fC) (eG (eU 6 (eV (gx (K:=K)) (eD (Nr ZZ) hr (A2 (eV (fR (K:=K)) Y5 (eC g6 (eV (fR (K:=K)) Y3 eI) (gS (kO (K:=K)) ZZ.am PySem.boot_len (A1 Y5)))) Y4)) eI) Ue.nd) (eG (fA (fB jB Y6 eN) (eE (eK Y4)) fC) (eE (eK (eC fK Y6 (eV (fR (K:=K)) (gD (aC eI (aC eI (aC eI (aC eI (A3 (kQ lF eI) eI eI)))))) (eV (fR (K:=K)) Y3 eI))))))))))),?_⟩
 extract_lets;refine⟨(),(zL 3),λls hls=>⟨(),c,ls,bm,[3,13,7],rfl,SqL.of eF,(by decide),(by decide),λds p H1 s0 hp hd=>?_⟩⟩;have s1:=(eJ hls (.lst (([3,13,7]:List Int).map V.int))).trans s0;obtain⟨d0,r,rfl,_,hd⟩:=gC hd;obtain⟨d1,r,rfl,k1,hd⟩:=gC hd;obtain⟨d2,r,rfl,k2,hd⟩:=gC hd;obtain rfl:=pK hd
 replace hp:H1 p=some (.lst [.int d0,.int d1,.int d2]):=hp
 obtain⟨ee,hee⟩:=CJ (zs:=[0,0,0,1,-1,60,1440]) (i:=d2) k2.1 k2.2;refine⟨(),(()),⟨by decide,by decide⟩,(),c / 273,bm,rfl,λmo H2 s2=>?_⟩;refine⟨(),A',t,b,rfl,hT.same (s1.trans s2),by decide,λD lr H3 s3 hD hR hl=>?_⟩;have s13:=s1.trans (s2.trans s3);have hl5:lr.length<=512:=hl;refine⟨(),(zL 0),λa' ha'=>⟨D,a',lr,rfl,rfl,SqL.of ((eJ ha' _) _ _ hD),SqL.of eF,(),?_⟩⟩;have sa:=eJ ha' (.lst []);have s14:=s13.trans sa
 have hp4:=sa _ _ (s3 _ _ (s2 _ _ hp));have hD4:=sa _ _ hD;have fE:Q (.int mo) _:=q mo _ (jm s14) (nI s14 hTb);refine hW (λ_=>gE ⟨(),fE⟩) (λc0=>⟨(),p,_,(()),SqL.of (hp4),rfl,rfl,(),gV (λ_=>⟨(),fE⟩) (λc1=>?_)⟩);have hlen:0<lr.length:=by
  rcases lr with _ | ⟨u,us⟩
  ·exact absurd rfl c0
  ·exact Nat.succ_pos _
 have i0:=cV d1 (show ((lr.length:Nat):Int)≠0 by omega);have i1:=cW d1 (show (0:Int)<((lr.length:Nat):Int) by omega);obtain⟨i,ei⟩:∃i:Nat,(i:Int)=d1%((lr.length:Nat):Int):=⟨(d1%((lr.length:Nat):Int)).toNat,b7 i0⟩;have hi':i<lr.length:=⋯;obtain⟨u,hu⟩:∃u,lr[i]? =some u:=⟨_,cD hi'⟩;obtain⟨tm,f,x,m0,m1,m3,kd,kw,rfl,hRA,_⟩:=hR u (bR hu);refine⟨(),(),p,_,(()),SqL.of (hp4),rfl,(),D,(),.inl (SqL.of hD4),(()),(by show (0:Int)<((lr.length:Nat):Int);omega),D,_,(()),SqL.of hD4,(by rw[←ei];exact kT hu),(),x,mo,m0,m1,m3,kd,kw,rfl,(hRA.go (λ_ z=>z) (ia sa)).rr,nI s14 hTb,λt2 l2 H5 v5 s5 T5 h5 hv=>⟨t2,_,(()),SqT.of h5,rfl,?_⟩⟩
 have s15:=(jm s14).trans s5;rcases hv with ⟨e,rfl⟩ | rfl
 ·refine⟨(),rfl,(),hW (λc=>by cases c) (λ_=>⟨(),(),(zL 7),λl7 h7=>⟨(),p,_,(()),SqL.of (eJ h7 _ _ _ (s5 _ _ (λ_ z=>by cases z) hp4)),rfl,l7,_,(()),SqL.of eF,hee,(()),q _ _ (s15.trans (jm (eJ h7 _))) (nI (eJ h7 _) T5)⟩⟩)⟩
 ·exact⟨(),rfl,(),hW (λ_=>⟨(),q _ _ s15 T5⟩) (λc=>absurd rfl c)⟩
theorem Ky:Dx P w base ZZ.ey 26 (Sx K aB aE aF aI aD aA aH aJ aG aL aQ aM aO aK aP):=by
 refine ZZ.ey.dfs Ui (by trivial) ?_;rintro f _ _ _ s H _ Q E hr⟨A',Aq,v,t,b,k,rfl,hB,hT,hk,q⟩;refine⟨_,(eG (eU 3 (eD (ap9 ZZ) hr (A2 Y1 Y2)) Ui.nd) (eG (eU 4 (kr (nG ZZ 3) hr Y0 kh Y2) Ui.nd) (eG (fA (tW (j6 (iu (gW (gS pk ZZ.ac PyProof.Rows.boot_isinstance (A2 Y4 (l6 ZZ.co PyProof.Rows.boot_list))))) (ke (fB (Ht hr.units) Y4 Y3)))) (eE (eK eB)) fC) (eG (jk (kN (K:=K) Y4) (gN 5 Ui.nd) (eE (fA (iu (gW (eD (Pl ZZ) hr (A1 Y5)))) (eE (eK eB)) fC)) PassesOwn.never) (eG (li (oo Y4 eI)) (eG (mU (eC gB eI (eV (fR (K:=K)) Y4 eI)) (wA Y4 eI)) (eE (eK eB)))))))),?_⟩
 extract_lets;have ml:=(kM hk.1 hk.2).2.1;refine⟨(),(),Aq,t,k,b,rfl,hT,hk,λD1 H1 s1 h1=>?_⟩;refine⟨(),A',_,b,rfl,hB.same s1,k,rfl,hk,λD2 H2 n2 s2 h2=>?_⟩;have s12:=s1.trans s2;have nD:H D2=none:=s1.none n2;refine⟨(),.ref D2,.list,.list,rfl,(by decide),.inl ⟨rfl,_,SqL.of h2⟩,(),fW ⟨(),(),D2,D1,false,(()),SqL.of h2,SqL.of (s2 _ _ h1),(),?_⟩⟩;rw[show (if true=true then !decide (fX b.2.2 k=fX b.2.2 k) else decide (fX b.2.2 k=fX b.2.2 k))=false by rw[dQ rfl];rfl]
 refine fW ⟨(),D2,rfl,⟨_,SqL.of h2⟩,mw (K:=K) (a:=D2) (xs:=(fX b.2.2 k).map V.int) (λj σ H3=>∃v5,σ=[some v,some t,some (.int k),some (.ref D1),some (.ref D2),v5]/\H3=H2) ⟨(),rfl⟩ (λj σ H3 _ ⟨_,_,e⟩=>by rw[e];exact SqL.of h2) ?turn ?done⟩
 case turn=>
  rintro j x σ H3 hx ⟨v5,rfl,rfl⟩;obtain⟨rfl,_⟩:=lL hx;exact⟨(),(),(),fW ⟨(),rfl⟩⟩
 case done=>
  rintro σ H3 ⟨v5,rfl,rfl⟩;have ln:((fX b.2.2 k).map V.int).length<sizeLine:=by rw[aY,iw,dN];omega
  obtain⟨z,xs,ex⟩:=LQ (f:=b.2.2) (k:=k) ml.1;rw[ex] at h2 ln;exact⟨(),.inl ⟨rfl,_,SqL.of h2⟩,D2,(()),h2,ln,(),D2,_,(()),SqL.of eF,Z4,(()),(),D2,_,(()),eF,R9,q _ (kA nD (kA nD s12))⟩
theorem PJ:Dx P w base ZZ.fn 26 (SW K aB aE aF aI aD aA aH aJ aG aL aQ aM aO aK aP):=by
 refine ZZ.fn.dfs U7 (by trivial) ?_;rintro _ _ _ _ s H _ Q E hr⟨A',v,b,mo,rfl,hB,q⟩;refine⟨_,(eG (eU 2 (eC jy Y1 eI) U7.nd) (eG (mU (eD (rC ZZ) hr (A1 Y2)) (mD (K:=K) (iz (gN 3 U7.nd) (iz (gN 4 U7.nd) (iz (gN 5 U7.nd) k8))))) (eG (eU 6 (eV (fR (K:=K)) (Av (nG ZZ 3) hr Y0 (A1 (eD (qb ZZ) hr (A2 Y3 Y4)))) (eC gB Y5 eI)) U7.nd) (eE (eK (jD gw (jD gw (eC kz (eC m8 Y6 (eC g6 Y1 eI)) eI) eI) (kr (ET ZZ 3) hr Y0 kh Y1))))))),?_⟩
 extract_lets;refine⟨(),(()),⟨by decide,by decide⟩,?_⟩;refine⟨(),mo / 1440,rfl,λy m k tt H1 ok e s1 h1=>⟨tt,(),SqT.of h1,rfl,_,(),_,(),(()),?_⟩⟩;have kl:=oP (y:=y) ok.1.1 ok.1.2;have mk:=m9 (y:=y) ok.1.1 ok.1.2;have hk:=ok.2;have hB1:=hB.same s1;obtain⟨i,x,rfl,hx⟩:=hB1;obtain⟨dx,fs,vs,bs,g,hx1,hs,_⟩:=id hx;refine⟨i,(),x,dx,fs,rfl,hx1,hs.lk (by decide +kernel) (by decide +kernel) (by decide +kernel) (by decide +kernel),(),(),y,m,rfl,ok.1,λH2 s2=>?_⟩
 refine⟨A',x,_,b,rfl,hx.go (λ_ z=>z) (ia s2) (λ_ _ z=>z.same s2),kindOf y m,rfl,kl,λD H3 _ s3 h3=>?_⟩;have s13:=s1.trans (s2.trans s3);refine⟨(),(()),D,_,(()),SqL.of h3,(by rw[show k-1=((k-1).toNat:Int) by omega];exact aJK (by rw[mk.2];omega)),?_⟩;refine⟨(),(),(()),(by show (0:Int)<1440;decide),(()),(by show (0:Int)<=mo%1440;omega),(()),rfl,?_⟩;have hb3:=hB.same s13;refine⟨(),A',_,b,rfl,hb3,mo,y,m,k,rfl,ok,e,λH4 s4=>⟨rfl,?_⟩⟩
 rw[Wq ((hB.ok _ _).1)];show Q (.bl (decide (V.bl (ir b.2.2 mo y m k)=V.bl (ir b.2.2 mo y m k)))) H4;rw[dQ rfl];exact q H4 (s13.trans s4)
theorem OW:Dx P w base ZZ.eh 27 (apR K aB aE aF aI aD aA aH aJ aG aL aQ aM aO aK aP):=by
 refine ZZ.eh.dfs U9 (by trivial) ?_;rintro f _ _ _ s H _ Q E hr⟨a,k,bm,ns,rfl,hS,hk,q⟩;refine⟨_,(hU (pC 3 ["_law_mixed","_law_script"] [2,0] (mL ZZ.ai (A1 eI)) (λ_ _ _ _ _ _=>hZ) (λ_ _ _ _ _ _=>(eD (Kj ZZ) hr (A2 (eD (nR ZZ) hr (A2 Y2 (eC fK eI Y0))) Y1))) U9.nd) (hU (pC 3 [] [] (kN (K:=K) Y3) (λ_ _ _ _ _ _=>hZ) (λ_ _ _ _ _ _=>(ix (A2 (eZ [114,111,119]) (gD (A2 Y0 (Be ZZ.aa.cl (IQ ZZ) hr Y0)))))) U9.nd) (hU (pC 4 [] [] (kN (K:=K) Y3) (λ_ _ _ _ _ _=>hZ) (λ_ _ _ _ _ _=>(eD (tU ZZ 1) hr (A1 Y0))) U9.nd) (hU (fA (fB (Ht hr.units) (ip ZZ.ab.cl (aiT ZZ) hr (jN ZZ.ab (K6 ZZ) hr (A1 Y4)) (A1 Y1)) (eD (rG ZZ 2) hr (A2 (ix (A2 (eZ [106,111,105,110]) Y3)) Y1))) (eE (eK eB)) fC) (eE (eK (jD (ES hr.units) (ip ZZ.ag.cl (N7 ZZ) hr (jN ZZ.ag (IP ZZ) hr (A1 (eC om (ju (kK (K:=K)) Y4 jE (iN eI)) (ju (kK (K:=K)) Y4 (iN eI) jE)))) (A1 Y1)) (eD (rG ZZ 2) hr (A2 (ix (A2 (eZ [109,101,101,116]) (eC om (ju (kK (K:=K)) Y3 jE (iN eI)) (ju (kK (K:=K)) Y3 (iN eI) jE)))) Y1))))))))),?_⟩
 extract_lets;refine⟨λσ' H'=>∃(D:Addr) (ls:List V),σ'=[some (.ref a),some (.int k),some (.bl bm),some (.ref D),none]/\Same H H'/\H' D=some (.lst ls)/\ls.length=8/\∀r∈ls,∃tm f,RwP (λp=>H p=none) (⟨(⟨aB,aE,aF,aI,aD,aA,aH,aJ⟩:Cs),aG,eQ aL aQ aM aO aK aP⟩:Bc) H' r tm f,?_,?_⟩
 ·refine⟨(),by decide,by decide,Ff (λD i l HZ=>l.length=i/\∀r∈l,∃tm f,RwP (λp=>H p=none/\p≠D) (⟨(⟨aB,aE,aF,aI,aD,aA,aH,aJ⟩:Cs),aG,eQ aL aQ aM aO aK aP⟩:Bc) HZ r tm f) (λD i l HZ l0 l' hD _ ⟨hl,h⟩=>⟨hl,λr hr=>by obtain⟨tm,f,z⟩:=h r hr;exact⟨tm,f,z.go (λ_ z=>z) (pb hD λp hp=>hp.2)⟩⟩) (by show (8:Int).toNat<=sizeLine;decide) (λD _=>⟨rfl,λ_ h=>nomatch h⟩) (λi l D H5 E' F' hi ⟨hl,h⟩ hD s5 hz hE hF=>?_) (λD H5 l ⟨hl,h⟩ hD s5 hz=>?_)⟩
  ·have hi8:i<8:=hi;refine⟨(),(),(()),a,(),⟨ns,s5.seq hS⟩,⟨⋯,⋯⟩,λc=>⟨(),c,bm,rfl,λx m0 m1 m3 kd kw H6 s6 hR=>hE _ _ s6 ⟨by rw[a8,hl];rfl,λr hr=>?_⟩⟩⟩;rcases b8.mp hr with hr | hr
   ·obtain⟨tm,f,z⟩:=h r hr;exact⟨tm,f,z.go (λ_ z=>z) (ia s6)⟩
   ·rw[bU.mp hr];exact⟨_,_,x,m0,m1,m3,kd,kw,rfl,hR.go (λp hp=>⟨s5.none hp,λe=>by rw[e,hz] at hp;cases hp⟩) (ia (Same.refl _)),rfl,rfl⟩
  ·exact⟨D,l,rfl,s5,hz,hl,λr hr=>by obtain⟨tm,f,z⟩:=h r hr;exact⟨tm,f,z.go (λ_ z=>z.1) (ia (Same.refl _))⟩⟩
 rintro σ' H1 ⟨D1,ls,rfl,s1,hD1,l8,hr1⟩;refine⟨λσ' H'=>∃(D:Addr) (lt:List V) (bs:List Bt),σ'=[some (.ref a),some (.int k),some (.bl bm),some (.ref D),none]/\Same H H'/\H D=none/\H' D=some (.lst lt)/\lt.length=8/\Paired (Tr (λp=>H p=none) (⟨(⟨aB,aE,aF,aI,aD,aA,aH,aJ⟩:Cs),aG,eQ aL aQ aM aO aK aP⟩:Bc) 1 H') lt bs/\pW bs,?_,?_⟩
 ·refine⟨(),D1,rfl,⟨_,SqL.of hD1⟩,ul (xs:=ls) (λD i l HZ=>∃bs,Paired (Tr (λp=>H p=none/\p≠D) (⟨(⟨aB,aE,aF,aI,aD,aA,aH,aJ⟩:Cs),aG,eQ aL aQ aM aO aK aP⟩:Bc) 1 HZ) l bs/\l.length=i/\pW bs) (λD i l HZ l0 l' hD _ ⟨bs,hp,z⟩=>⟨bs,Paired.mapP hp λ_ _ z=>z.go (λ_ z=>z) (pb hD λp hp=>hp.2) _,z⟩) (by rw[l8];decide) (λD _=>⟨[],.nil,rfl,λ_ h=>nomatch h⟩) (SqL.of hD1) (λi v l D H5 E' F' hv ⟨bs,hp,hl,ho⟩ hD s5 hz hE hF=>?_) (λD H5 l ⟨bs,hp,hl,ho⟩ hD s5 hz=>?_)⟩
  ·obtain⟨tm,f,hR⟩:=hr1 v (bR hv);have hR6:=hR.inn.go (A':=λp=>H p=none/\p≠D) (λp hp=>⟨hp.1,λe=>hp.2 (by rw[e];exact hD)⟩) (ia s5);obtain⟨x,m0,m1,m3,kd,kw,rfl,⟨dx,dv,wv,hx,_⟩,rfl,rfl⟩:=id hR6;refine⟨(),(),x,dx,(),hx,zH ..,x,dx,m0,m1,m3,_,dv,wv,rfl,hx,(zL 2),λl1 hl1=>⟨(zL 2),λt ht=>?_⟩⟩;have sn:=(eJ hl1 (.lst [.ref x,.int (gP m1 m0)])).trans (eJ ht (.tup [.str (Tx [114,111,119]),.ref l1]));have s15:=s1.trans s5
   refine hE _ _ sn ⟨bs++[g9 (λ_=>iG (gP m1 m0) m3 kd kw) []],mZ (Paired.mapP hp λ_ _ z=>z.same sn) ⟨.O,t,l1,_,[],[],(),eF,⟨s15.none hl1,λe=>by rw[e,hz] at hl1;cases hl1⟩,eJ ht _ _ _ eF,⟨.ref x,gP m1 m0,(),rfl,hR6.go (λ_ z=>z) (ia sn),rfl⟩,.nil,rfl⟩,by rw[a8,hl];rfl,λb hb=>(b8.mp hb).elim (ho b) λe=>by rw[bU.mp e];exact⟨rfl,rfl⟩⟩
  ·exact⟨D,l,bs,rfl,s1.trans s5,s1.none hD,hz,hl.trans l8,Paired.mapP hp λ_ _ z=>z.go (λ_ z=>z.1) (ia (Same.refl _)) _,ho⟩
 rintro σ' H2 ⟨D2,lt,bs,rfl,s2,nD2,hD2,lt8,hP,ho⟩;have lb8:bs.length=8:=(Paired.length hP).symm.trans lt8;refine⟨λσ' H'=>∃(D:Addr) (lb:List V),σ'=[some (.ref a),some (.int k),some (.bl bm),some (.ref D2),some (.ref D)]/\Same H2 H'/\H' D=some (.lst lb)/\lb.length=8/\Paired (Bk (λp=>H p=none) (⟨(⟨aB,aE,aF,aI,aD,aA,aH,aJ⟩:Cs),aG,eQ aL aQ aM aO aK aP⟩:Bc) 1 H') lb bs,?_,?_⟩
 ·refine⟨(),D2,rfl,⟨_,SqL.of hD2⟩,ul (xs:=lt) (λD i l HZ=>Paired (Bk (λp=>H p=none/\H2 p≠none) (⟨(⟨aB,aE,aF,aI,aD,aA,aH,aJ⟩:Cs),aG,eQ aL aQ aM aO aK aP⟩:Bc) 1 HZ) l (bs.take i)) (λD i l HZ l0 l' hD hN h=>Paired.mapP h λ_ _ z=>z.go (λ_ z=>z) (pb hD λp hp e=>hp.2 (by rw[e];exact hN)) _) (by rw[lt8];decide) (λD _=>.nil) (SqL.of hD2) (λi v l D H5 E' F' hv h hD s5 hz hE hF=>?_) (λD H5 l h hD s5 hz=>?_)⟩
  ·obtain⟨b,eb,hb⟩:=KM.Paired.at hP hv;have z:=ho b (bR eb);exact⟨(),_,v,b,rfl,(Tr.inn 1 hb).same s5,by decide,⋯,λu H6 s6 hB=>hE _ _ s6 (by rw[bL,eb];exact mZ (Paired.mapP h λ_ _ z=>z.same s6) hB)⟩
  ·rw[lt8,←lb8,bN] at h;exact⟨D,l,rfl,s5,hz,(Paired.length h).trans lb8,Paired.mapP h λ_ _ z=>z.go (λ_ z=>z.1) (ia (Same.refl _)) _⟩
 rintro σ' H3 ⟨D3,lb,rfl,s3,hD3,lb8',hB⟩;have s23:=s2.trans s3;have fE:∀{i:Kc} {g:List DF->DF} {bs':List Bt} {H4:Hp} {x:Addr},BkC (λp=>H p=none) (⟨(⟨aB,aE,aF,aI,aD,aA,aH,aJ⟩:Cs),aG,eQ aL aQ aM aO aK aP⟩:Bc) (Bk (λp=>H p=none) (⟨(⟨aB,aE,aF,aI,aD,aA,aH,aJ⟩:Cs),aG,eQ aL aQ aM aO aK aP⟩:Bc) 1 H4) H4 i x (g9 g bs')->BkC (λp=>H p=none) (⟨(⟨aB,aE,aF,aI,aD,aA,aH,aJ⟩:Cs),aG,eQ aL aQ aM aO aK aP⟩:Bc) (Bk (λp=>H p=none) (⟨(⟨aB,aE,aF,aI,aD,aA,aH,aJ⟩:Cs),aG,eQ aL aQ aM aO aK aP⟩:Bc) 3 H4) H4 i x (g9 g bs'):=λhC=>hC.go (λ_ z=>z) (ia (Same.refl _)) λ_ _ z=>z.upn (by decide)
 refine⟨λσ' H'=>σ'=[some (.ref a),some (.int k),some (.bl bm),some (.ref D2),some (.ref D3)]/\Same H3 H',?_,?_⟩
 ·refine⟨(),λx dx nx nd _=>qX (.inl ⟨rfl,rfl⟩) (SqL.of hD3) hB (by decide) ⋯ ⋯ (GN ho ⋯) (λH4 s4 hC=>?_) nx nd⟩;obtain⟨dx',fs',hx4,hlk⟩:=hC.lk;refine⟨x,dx',fs',rfl,hx4,hlk,(),_,x,_,(),fE hC,k,rfl,hk,λDj H5 nj s5 h5=>?_⟩;refine⟨(),(zL 2),λt ht=>?_⟩;have st:=eJ ht (.tup [.str (Tx [106,111,105,110]),.ref D2]);have s35:=s4.trans s5;have s25:=(s3.trans s35).trans st;refine⟨(),(λp=>H p=none),.ref t,k,g9 iO bs,rfl,⟨.J,t,D2,lt,lt,bs,iO,rfl,eF,nD2,s25 _ _ hD2,⟨rfl,⋯,rfl⟩,Paired.mapP hP λ_ _ z=>z.same s25,rfl⟩,hk,λDm H6 s6 h6=>⟨Dj,Dm,false,(()),SqL.of (s6 _ _ (st _ _ h5)),SqL.of h6,(),?_⟩⟩
  rw[Li];exact fW ⟨rfl,s35.trans (st.trans s6)⟩
 rintro σ' H4 ⟨rfl,s4⟩;have c1:=Kz lb8';have c2:=Kz lt8;have hD4:=s4 _ _ hD3;refine⟨(),(),D3,(),SqL.of hD4,λp1 h1=>⟨(),(),D3,(),SqL.of ((eJ h1 _) _ _ hD4),λp2 h2=>?_⟩⟩;rw[c1.1,c1.2];rw[c1.1] at h2;have sp1:=eJ h1 (.lst (lb.take 5));have sp2:=eJ h2 (.lst (lb.drop 6));refine⟨p1,p2,(()),SqL.of (sp2 _ _ eF),SqL.of eF,(by rw[cF,cN,dN];omega),λp3 h3=>?_⟩;have sp:=sp1.trans (sp2.trans (eJ h3 (.lst (lb.take 5++lb.drop 6))))
 have s34:=s4.trans sp;have ho':pW (bs.take 5++bs.drop 6):=λb hb=>(b8.mp hb).elim (λz=>ho b (List.mem_of_mem_take z)) λz=>ho b (List.mem_of_mem_drop z);have ln1:(lb.take 5++lb.drop 6).length=7:=by rw[a8,cF,cN];omega
 have ln2:(bs.take 5++bs.drop 6).length=7:=by rw[a8,cF,cN];omega
 have ln3:(lt.take 5++lt.drop 6).length=7:=by rw[a8,cF,cN];omega
 refine λx dx nx nd _=>qX (.inr ⟨rfl,rfl⟩) (SqL.of eF) (yn (za 5 (Paired.mapP hB λ_ _ z=>z.same s34)) (yT 6 (Paired.mapP hB λ_ _ z=>z.same s34))) (by decide) ⋯ ⋯ (GN ho' ⋯) (λH5 s5 hC=>?_) nx nd;obtain⟨dx',fs',hx4,hlk⟩:=hC.lk;refine⟨x,dx',fs',rfl,hx4,hlk,(),_,x,_,(),fE hC,k,rfl,hk,λDj H6 nj s6 h6=>?_⟩;have s26:=s3.trans (s34.trans (s5.trans s6));have hD6:=s26 _ _ hD2;refine⟨(),(),D2,(),SqL.of hD6,λq1 g1=>⟨(),(),D2,(),SqL.of ((eJ g1 _) _ _ hD6),λq2 g2=>?_⟩⟩
 rw[c2.1,c2.2];rw[c2.1] at g2;have sq1:=eJ g1 (.lst (lt.take 5));have sq2:=eJ g2 (.lst (lt.drop 6));refine⟨q1,q2,(()),SqL.of (sq2 _ _ eF),SqL.of eF,(by rw[cF,cN,dN];omega),λq3 g3=>⟨(zL 2),λt ht=>?_⟩⟩;have sq:=sq1.trans (sq2.trans ((eJ g3 (.lst (lt.take 5++lt.drop 6))).trans (eJ ht (.tup [.str (Tx [109,101,101,116]),.ref q3]))));have s27:=s26.trans sq;refine⟨(),(λp=>H p=none),.ref t,k,g9 iM (bs.take 5++bs.drop 6),rfl,⟨.M,t,q3,_,_,_,iM,rfl,eF,(s2.trans (s26.trans (sq1.trans sq2))).none g3,eJ ht _ _ _ eF,⟨rfl,⋯,rfl⟩,yn (za 5 (Paired.mapP hP λ_ _ z=>z.same s27)) (yT 6 (Paired.mapP hP λ_ _ z=>z.same s27)),rfl⟩,hk,λDm H7 s7 h7=>⟨Dj,Dm,false,(()),SqL.of (s7 _ _ (sq _ _ h6)),SqL.of h7,?_⟩⟩
 rw[Hr];exact q H7 (s2.trans (s27.trans s7))
theorem aI6{fL:Addr}{fdL:FuncData}(F:Fun K "law" "law" (top 146) fL fdL):gz P w K mg base i7 28 fL fdL ["_law_script"] (qe K aR aS):=by
 refine F.oks Ut (by trivial) ?_;rintro _ _ _ s H _ Q E hr⟨a,ns,rfl,hS,hlen,hTb,q⟩;refine⟨_,(eG (eU 1 (jD gw (eC g6 (eD (nR ZZ) hr (A2 Y0 eI)) eI) eI) Ut.nd) (hU (eU 2 (eD (ZV ZZ) hr (aC Y0 (A3 eI eI Y1))) Ut.nd) (hU (eU 3 (eD (Od ZZ) hr (A1 Y2)) Ut.nd) (eG (eU 4 (eD (oS ZZ) hr (A3 (eC jy (eD (nR ZZ) hr (A2 Y0 eI)) eI) (gD (vg [7,7,91,91,91,91,91,91])) Y1)) Ut.nd) (hU (eU 5 (eC om (gD (A2 (eC fK eI (eV (fR (K:=K)) Y4 eI)) (eC fK eI (eV (fR (K:=K)) Y4 eI)))) (ju (kK (K:=K)) Y4 (iN eI) jE)) Ut.nd) (hU (jk (kN (K:=K) (eC om Y5 (ju (kK (K:=K)) Y5 jE (iN eI)))) (gN 6 Ut.nd) (eE (fA (iu (gW (eD (Ky ZZ) hr (A3 Y3 Y2 Y6)))) (eE (eK eB)) fC)) PassesOwn.never) (hU (jk (mL ZZ.ai (A1 eI)) (gN 7 Ut.nd) (eE (fA (iu (gW (eD (PJ ZZ) hr (A2 Y3 (eD (MJ ZZ) hr (A3 Y2 (eD (nR ZZ) hr (A2 Y0 (eC fK eI Y7))) Y1)))))) (eE (eK eB)) fC)) PassesOwn.never) (hU (fA (iu (gW (eD (OW ZZ) hr (A3 Y0 (eV (fR (K:=K)) Y5 eI) Y1)))) (eE (eK eB)) fC) (eE (eK (mH (eD (Ky ZZ) hr (A3 Y3 Y2 (eV (fR (K:=K)) Y5 eI))) (kB (jD (ES hr.units) (ip ZZ.ah.cl (Wp ZZ) hr (BG ZZ.ah ZZ.dz) (A1 (eV (fR (K:=K)) Y5 eI))) (eC yP (gD (A1 eI)) (eV (gx (K:=K)) (eD (n6 ZZ) hr (A1 (eV (fR (K:=K)) Y5 eI))) eI))))))))))))))),?_⟩
 extract_lets;refine⟨(),a,(),⟨ns,hS⟩,⟨by decide,by decide⟩,λc0=>⟨(()),(by show (0:Int)<2;decide),rfl,?_⟩⟩;refine (λbm=>?_:∀bm:Bool,iV 1 (V.bl bm) _ _ _) _;refine⟨λσ' H'=>∃(t:Addr) (b:Bt),σ'=[some (.ref a),some (.bl bm),some (.ref t),none,none,none,none,none]/\Same H H'/\Tr (λp=>H p=none) (⟨(⟨aB,aE,aF,aI,aD,aA,aH,aJ⟩:Cs),aG,eQ aL aQ aM aO aK aP⟩:Bc) 3 H' (.ref t) b/\pV 3 b,⟨(),(),a,0,bm,ns,rfl,hS,(by decide),λt b H' s' hT hB=>⟨t,b,rfl,s',hT,hB⟩⟩,?_⟩
 rintro σ' H1 ⟨t,b,rfl,s1,hT,hTB⟩;have t3:tl 3=13:=rfl;obtain⟨_,tb1,_,tb2⟩:=hTB;refine⟨λσ' H'=>∃(u:V),σ'=[some (.ref a),some (.bl bm),some (.ref t),some u,none,none,none,none]/\Same H H'/\Tr (λp=>H p=none) (⟨(⟨aB,aE,aF,aI,aD,aA,aH,aJ⟩:Cs),aG,eQ aL aQ aM aO aK aP⟩:Bc) 3 H' (.ref t) b/\Bk (λp=>H p=none) (⟨(⟨aB,aE,aF,aI,aD,aA,aH,aJ⟩:Cs),aG,eQ aL aQ aM aO aK aP⟩:Bc) 3 H' u b,⟨(),_,_,b,rfl,hT,by decide,⋯,λu H' s' hB=>⟨u,rfl,s1.trans s',hT.same s',hB⟩⟩,?_⟩
 rintro σ' H2 ⟨u,rfl,s2,hT2,hB2⟩;clear hT s1 tb1 tb2 t3;refine⟨(),a,(),⟨ns,s2.seq hS⟩,⟨by decide,by decide⟩,λc=>⟨(()),⟨by decide,by decide⟩,(zL 8),λls hls=>⟨(),_,ls,bm,[7,7,91,91,91,91,91,91],rfl,SqL.of eF,(by decide),(by decide),λds p H3 s3' hp hd=>?_⟩⟩⟩;have s3:=(eJ hls (.lst (([7,7,91,91,91,91,91,91]:List Int).map V.int))).trans s3';obtain⟨x0,r0,rfl,k0,hd⟩:=gC hd;obtain⟨x1,r1,rfl,k1,hd⟩:=gC hd
 obtain⟨x2,r2,rfl,k2,hd⟩:=gC hd;obtain⟨x3,r3,rfl,k3,hd⟩:=gC hd;obtain⟨x4,r4,rfl,k4,hd⟩:=gC hd;obtain⟨x5,r5,rfl,k5,hd⟩:=gC hd;obtain⟨x6,r6,rfl,k6,hd⟩:=gC hd;obtain⟨x7,r7,rfl,k7,hd⟩:=gC hd;obtain rfl:=pK hd
 replace hp:H3 p=some (.lst [.int x0,.int x1,.int x2,.int x3,.int x4,.int x5,.int x6,.int x7]):=hp
 have kb:∀z∈([7+x0,84+x1,x2,x3,x4,x5,x6,x7]:List Int),0<=z/\z<=90:=λz hz=>by
  simp only[a9,cA,or_false] at hz;omega
 refine⟨λσ' H'=>∃kd:Addr,σ'=[some (.ref a),some (.bl bm),some (.ref t),some u,some (.ref p),some (.ref kd),none,none]/\Same H3 H'/\H' kd=some (.lst (([7+x0,84+x1,x2,x3,x4,x5,x6,x7]:List Int).map V.int)),?_,?_⟩
 ·exact⟨(),p,_,(()),SqL.of (hp),rfl,(()),(),p,_,(()),SqL.of (hp),rfl,(()),(zL 2),λl1 h1=>⟨(),(),p,(),SqL.of (eJ h1 _ _ _ hp),λl2 h2=>⟨l1,l2,(()),SqL.of (eJ h2 _ _ _ eF),SqL.of eF,(by show 2+6<=sizeLine;decide),λkd hkd=>⟨kd,rfl,(eJ h1 _).trans ((eJ h2 _).trans (eJ hkd _)),eF⟩⟩⟩⟩
 rintro σ' H4 ⟨kd,rfl,s4,hkd⟩;have s24:=s3.trans s4;have hT4:=hT2.same s24;have hB4:=hB2.same s24;have s04:=s2.trans s24;clear hp hT2 hB2 s24 s3 s3' s2 s4;refine⟨λσ' H'=>∃v6,σ'=[some (.ref a),some (.bl bm),some (.ref t),some u,some (.ref p),some (.ref kd),v6,none]/\Same H4 H',?_,?_⟩
 ·refine⟨(),(),(),kd,(),SqL.of hkd,λl1 h1=>⟨kd,l1,(()),SqL.of (eJ h1 _ _ _ hkd),SqL.of eF,(by show 8+2<=sizeLine;decide),λl2 h2=>⟨l2,rfl,⟨_,SqL.of eF⟩,mw (K:=K) (a:=l2) (xs:=([7+x0,84+x1,x2,x3,x4,x5,x6,x7]:List Int).map V.int++[7+x0,84+x1].map V.int) (λj σ H5=>∃v6,σ=[some (.ref a),some (.bl bm),some (.ref t),some u,some (.ref p),some (.ref kd),v6,none]/\Same H4 H5/\H5 l2=some (.lst (([7+x0,84+x1,x2,x3,x4,x5,x6,x7]:List Int).map V.int++[7+x0,84+x1].map V.int))) ⟨(),(eJ h1 _).trans (eJ h2 _),eF⟩ (λj σ H5 _ ⟨_,_,_,h⟩=>SqL.of h) ?turn ?done⟩⟩⟩
  case done=>
   rintro σ H5 ⟨v6,rfl,s5,_⟩;exact⟨(),s5⟩
  case turn=>
   rintro j x σ H5 hx ⟨v6,rfl,s5,h5⟩;obtain⟨z,rfl,hz⟩:∃z:Int,x=.int z/\0<=z/\z<=90:=by
    rcases b8.mp (bR hx) with h | h
    ·obtain⟨z,hz,rfl⟩:=bH.mp h;exact⟨z,rfl,kb z hz⟩
    ·obtain⟨z,hz,rfl⟩:=bH.mp h;exact⟨z,rfl,kb z (by simp only[a9,cA,or_false] at hz ⊢;rcases hz with h | h<;>simp[h])⟩
   exact⟨(),(),(),_,_,u,.ref t,b,z,rfl,hB4.same s5,hT4.same s5,hz,λH6 s6=>⟨(),fW ⟨(),s5.trans s6,s6 _ _ h5⟩⟩⟩
 rintro σ' H5 ⟨v6,rfl,s5⟩;have s05:=s04.trans s5;refine⟨λσ' H'=>∃v7,σ'=[some (.ref a),some (.bl bm),some (.ref t),some u,some (.ref p),some (.ref kd),v6,v7]/\SameN H4 H'/\SameN H H',?_,?_⟩
 ·refine⟨(),by decide,by decide,vn (λi σ H6=>∃v7,σ=[some (.ref a),some (.bl bm),some (.ref t),some u,some (.ref p),some (.ref kd),v6,v7]/\SameN H4 H6/\SameN H H6/\lU H6 aR aS) ⟨(),jm s5,jm s05,nI s05 hTb⟩ ?turn ?done⟩
  case done=>
   rintro σ H6 ⟨v7,rfl,s6,r6,_⟩;exact⟨(),s6,r6⟩
  case turn=>
   rintro i σ H6 hi ⟨v7,rfl,s6,r6,T6⟩;have hi10:i<10:=hi;refine⟨(),(),(),(),(()),a,(),⟨ns,Gc r6 hS⟩,⟨⋯,⋯⟩,λc=>⟨(),_,.ref t,b,c,bm,rfl,hT4.go (λ_ z=>z) (qg s6) _,T6,λr H7 s7 T7=>⟨_,u,b,r,rfl,hB4.go (λ_ z=>z) (qg (s6.trans s7)) _,λH8 s8=>⟨(),fW ⟨(),s6.trans (s7.trans (jm s8)),r6.trans (s7.trans (jm s8)),nI s8 T7⟩⟩⟩⟩⟩
 rintro σ' H6 ⟨v7,rfl,s6,r6⟩;have hkd6:=s6 _ _ (λ_ z=>by cases z) hkd;refine⟨λσ' H'=>σ'=[some (.ref a),some (.bl bm),some (.ref t),some u,some (.ref p),some (.ref kd),v6,v7]/\Same H6 H',⟨(),(),kd,_,(()),SqL.of (hkd6),rfl,(),a,x4,bm,ns,rfl,Gc r6 hS,kb _ (by simp),λH7 s7=>⟨(),fW ⟨rfl,s7⟩⟩⟩,?_⟩;rintro σ' H7 ⟨rfl,s7⟩;have s47:=s6.trans (jm s7);have hkd7:=s7 _ _ hkd6;refine⟨(),(),(),kd,_,(()),SqL.of (hkd7),rfl,_,_,u,.ref t,b,x2,rfl,hB4.go (λ_ z=>z) (qg s47) _,hT4.go (λ_ z=>z) (qg s47) _,kb _ (by simp),λH8 s8=>⟨(),gE λx dx nx nd _=>?_⟩⟩
 have hk3:=kb x3 (by simp);have ml:=(kM hk3.1 hk3.2).2.1;have sb:=kY (a:=.own x) (b:=.ins aL dx []) nx nd;have hkd9:=sb _ _ (s8 _ _ hkd7);refine⟨x,dx,[],rfl,eF,rfl,(),kd,_,(()),SqL.of (hkd9),rfl,(λp=>H p=none),x,_,g9 (λ_=>zF) [],rfl,⟨dx,[],[],[],λ_=>zF,eF,⟨rfl,rfl,rfl⟩,.nil,bK _,rfl⟩,x3,rfl,hk3,λD H9 nD s9 h9=>?_⟩;refine⟨(zL 1),λl1 h1=>⟨(),kd,_,(()),SqL.of (eJ h1 _ _ _ (s9 _ _ hkd9)),rfl,x3,rfl,hk3,λt9 H10 s10 h10=>⟨t9,_,(()),SqT.of (by rw[mY] at h10;exact h10),rfl,l1,(()),s10 _ _ eF,⋯,⋯,(by rw[dN];show 1*_<=_;omega),λp' hp'=>?_⟩⟩⟩
 rw[Cy];refine⟨D,p',false,fX zF x3,fX zF x3,rfl,rfl,SqL.of (eJ hp' _ _ _ (s10 _ _ (eJ h1 _ _ _ h9))),SqL.of eF,?_⟩;rw[Hr];exact q _
end
theorem all_mk{l:PySem.W.OpenLaw}{w:World}{K:FG}{h:Heap}{mg:Str->Option Value}{fa f:Addr}{aJ aB aE aF aI aD aA aH aG aL aQ aM aO aK aP aV aU aW aR aS a_MONTH_LASTS a_BOUNDS a_BOUNDS_0 a_BOUNDS_1 a_BOUNDS_3:Addr}{t_ROUND_DAYS t_ROUND_YEARS t_LONG_PLACE t_DAY_MINUTES t_HOUR_MINUTES t_FIGURES t_MOST_STRIDE t_MOST_SIGNS t_MOST_ITEMS t_SATURDAY t_SUNDAY t_MOST_BACK t_MOST_DAY t_SUNDAY_TOO t_MOST_NTH t_MOST_MARKS t_ALL_WEEKDAYS t_LONG_LAST t_SHORT_YEAR t_MINUTE t_HOUR t_DAY t_MONTH t_WEEKDAY t_MOST_ROW_SIGNS t_NO_PLACE t_MOST_MONTHS t_MOST_TALLY t_MOST_DEPTH t_MOST_BOOKS:Tok}{oc kV dc pm cd ct:Value}{od an:Option Addr}{sl:Array (Option Value)}(X:K.In h)(G:h.Ns mainGlobals mg)(hfa:mg "law"=some (.ref fa))(ZZ:Fs K mg aJ aB aE aF aI aD aA aH aG aL aQ aM aO aK aP aV aU aW aR aS a_MONTH_LASTS a_BOUNDS a_BOUNDS_0 a_BOUNDS_1 a_BOUNDS_3 t_ROUND_DAYS t_ROUND_YEARS t_LONG_PLACE t_DAY_MINUTES t_HOUR_MINUTES t_FIGURES t_MOST_STRIDE t_MOST_SIGNS t_MOST_ITEMS t_SATURDAY t_SUNDAY t_MOST_BACK t_MOST_DAY t_SUNDAY_TOO t_MOST_NTH t_MOST_MARKS t_ALL_WEEKDAYS t_LONG_LAST t_SHORT_YEAR t_MINUTE t_HOUR t_DAY t_MONTH t_WEEKDAY t_MOST_ROW_SIGNS t_NO_PLACE t_MOST_MONTHS t_MOST_TALLY t_MOST_DEPTH t_MOST_BOOKS)
  (a:PySem.W.nsIn K mainGlobals "law"=some (some (.ref f))) (lk:K.lookup f=some ⟨oc,od,.func (PySem.W.fnOf "law" "law" (jg (top 146)) (iy (top 146)) (eP (top 146)) .none kV dc pm an cd ct),sl⟩) (c:PySem.W.codeIn K cd "law"=true) (k:PySem.W.keepIn K (.ref f)=true):
  ∃fd:FuncData,(∀(s:Shared) (v:Value),BindsTo s fd ⟨[v],[]⟩ [("_law_script",v)])/\∀base:Heap,K.In base->base.Ns mainGlobals mg->gz l.prog w K mg base i7 28 fa fd ["_law_script"] (qe K aR aS):=by
 cases hfa.symm.trans (PySem.W.mg_of X G a);exact⟨_,λs v=>.of_eq rfl,λbase _ _=>aI6 ZZ (rm (st:=(top 146)) lk c k)⟩
theorem walk{l:PySem.W.OpenLaw}{q:Program}{loose:List Str}{XP:(Str->Option Value)->Heap->Prop}{YP:World->Heap->Prop}{d:DefRec}{K:Params->FG}{tN bm:Addr}(hn:l.most=some 63)(hdf:d.params.defaults=[])
  (hY:∀(w:World) (h:Heap),YP w h->(K w.params).In h)
  (hTb:∀(w:World) (h:Heap) (mean:ExcName->Option Value) (mg mb:Str->Option Value),(K w.params).In h->Top q (PySem.W.looseW q loose) mean mg mb h->∀b∈[tN],(isCodeTable h b/\h.get? b=some (PySem.W.tabObj #[]))/\(K w.params).lookup b=none)
  (hBm:∀(w:World) (h:Heap) (mg:Str->Option Value),(K w.params).In h->h.Ns mainGlobals mg->mg "__builtins__"=some (.ref bm)/\(K w.params).lookup bm=none)
  (F:∀(w:World) (mg:Str->Option Value) (fa:Addr) (h:Heap),(K w.params).In h->h.Ns mainGlobals mg->mg d.name=some (.ref fa)->
   ∃fd:FuncData,(∀(s:Shared) (u:Value),BindsTo s fd ⟨[u],[]⟩ [("_law_script",u)])/\∀base:Heap,(K w.params).In base->base.Ns mainGlobals mg->gz l.prog w (K w.params) mg base i7 28 fa fd ["_law_script"] (qe (K w.params) tN bm)):
  PySem.W.WalkO q loose XP YP l.row.toRowW d [] (λf vs=>PySem.call f vs):=
 L2.walk_ofT (n:=63) (k:=28) (x:="_law_script") (tabs:=λ_=>[tN]) (sp:=λw=>qe (K w.params) tN bm) hn (by decide) hdf ⟨rfl,by decide,by decide⟩ hY hTb hBm F λ_ _ a ns hl hO hS=>⟨a,ns,rfl,hS,hl,⟨.inl (hO.1 _ bW),hO.2.2⟩,λ_=>rfl⟩
end K63
open PySem PySem.W PyProof.Rows L2
set_option maxRecDepth 100000 in
set_option maxHeartbeats 0 in
theorem PySem.Challenge.cw_fivefields_k63_on_days_holds : PySem.Challenge.rw_fivefields_k63_on_days.Holds := by
 w_on;refine holds_law Hd.ws fun said=>?_;refine Hd.lst said ?hw ?hc;(case hw=>w_witness2)
 k_fill
 refine K63.walk (l:=PySem.Challenge.rw_fivefields_k63_on_days) (tN:=1101) (bm:=4) rfl Hd.h4 (fun w h Y=>PySem.W.kIn_of Y) Hd.tb Hd.tbm ?F
 case F=>
  intro w mg fa h KX G hmg
  rw[Hd.h5] at hmg
  refine' K63.all_mk (aW:=1105) (aR:=1101) (aS:=4) KX G hmg ⟨
   ⟨PySem.W.mg_of KX G ?_,⟨?_,?_,?_,?_⟩,?_,?_⟩,?_,⟨PySem.W.mg_of KX G ?_,⟨?_,?_,?_,?_⟩,?_,?_⟩,?_,⟨PySem.W.mg_of KX G ?_,⟨?_,?_,?_,?_⟩,?_,?_⟩,?_,⟨PySem.W.mg_of KX G ?_,⟨?_,?_,?_,?_⟩,?_,?_⟩,?_,⟨PySem.W.mg_of KX G ?_,⟨?_,?_,?_,?_⟩,?_,?_⟩,?_,⟨PySem.W.mg_of KX G ?_,⟨?_,?_,?_,?_⟩,?_,?_⟩,?_,⟨PySem.W.mg_of KX G ?_,⟨?_,?_,?_,?_⟩,?_,?_⟩,?_,?_,⟨PySem.W.mg_of KX G ?_,⟨?_,?_,?_,?_⟩,?_,?_⟩,?_,⟨PySem.W.mg_of KX G ?_,⟨?_,?_,?_,?_⟩,?_,?_⟩,?_,?_,?_,?_,?_,?_,⟨PySem.W.mg_of KX G ?_,⟨?_,?_,?_,?_⟩,?_,?_⟩,?_,⟨PySem.W.mg_of KX G ?_,⟨?_,?_,?_,?_⟩,?_,?_⟩,?_,⟨PySem.W.mg_of KX G ?_,⟨?_,?_,?_,?_⟩,?_,?_⟩,?_,⟨PySem.W.mg_of KX G ?_,⟨?_,?_,?_,?_⟩,?_,?_⟩,?_,⟨PySem.W.mg_of KX G ?_,⟨?_,?_,?_,?_⟩,?_,?_⟩,?_,?_,⟨PySem.W.mg_of KX G ?_,⟨?_,?_,?_,?_⟩,?_,?_⟩,?_,PySem.W.mg_of KX G ?_,PySem.W.mg_of KX G ?_,⟨?_,?_,?_,?_⟩,⟨?_,?_,?_,?_⟩,⟨?_,?_,?_,?_⟩,⟨?_,?_,?_,?_⟩,⟨?_,?_,?_,?_⟩,⟨?_,?_,?_,?_⟩,?rkb_Book,?rkb_Of,?rkb_Joined,?rkb_Met,?rkb_Less,?rkb_Turned,⟨?_,?_,?_,?_⟩,?rkr_Row,PySem.W.mg_of KX G ?_,K63.q_MONTH_LASTS ?_,PySem.W.mg_of KX G ?_,PySem.W.mg_of KX G ?_,PySem.W.mg_of KX G ?_,PySem.W.mg_of KX G ?_,PySem.W.mg_of KX G ?_,K63.mg_tx (x:="0123456789") KX G (by decide +kernel) ?_,PySem.W.mg_of KX G ?_,PySem.W.mg_of KX G ?_,PySem.W.mg_of KX G ?_,PySem.W.mg_of KX G ?_,PySem.W.mg_of KX G ?_,PySem.W.mg_of KX G ?_,PySem.W.mg_of KX G ?_,PySem.W.mg_of KX G ?_,PySem.W.mg_of KX G ?_,PySem.W.mg_of KX G ?_,PySem.W.mg_of KX G ?_,PySem.W.mg_of KX G ?_,PySem.W.mg_of KX G ?_,PySem.W.mg_of KX G ?_,PySem.W.mg_of KX G ?_,PySem.W.mg_of KX G ?_,PySem.W.mg_of KX G ?_,PySem.W.mg_of KX G ?_,PySem.W.mg_of KX G ?_,K63.q_BOUNDS ?_,K63.q_BOUNDS_0 ?_,K63.q_BOUNDS_1 ?_,K63.q_BOUNDS_3 ?_,PySem.W.mg_of KX G ?_,PySem.W.mg_of KX G ?_,PySem.W.mg_of KX G ?_,PySem.W.mg_of KX G ?_,PySem.W.mg_of KX G ?_,PySem.W.mg_of KX G ?_,Pn KX G ?_ ?_ ?_ ?_,PySem.W.mg_none_of KX G ?_,PySem.W.mg_none_of KX G ?_,PySem.W.mg_none_of KX G ?_,PySem.W.mg_none_of KX G ?_,PySem.W.mg_none_of KX G ?_,PySem.W.mg_none_of KX G ?_,PySem.W.mg_none_of KX G ?_,PySem.W.mg_none_of KX G ?_,PySem.W.mg_none_of KX G ?_,PySem.W.mg_none_of KX G ?_,PySem.W.mg_none_of KX G ?_,PySem.W.mg_none_of KX G ?_,PySem.W.mg_none_of KX G ?_,PySem.W.mg_none_of KX G ?_,PySem.W.mg_none_of KX G ?_,PySem.W.mg_none_of KX G ?_,fF KX G ?_ ?_ ?_ ?_ ?_,fF KX G ?_ ?_ ?_ ?_ ?_,fF KX G ?_ ?_ ?_ ?_ ?_,fF KX G ?_ ?_ ?_ ?_ ?_,fF KX G ?_ ?_ ?_ ?_ ?_,fF KX G ?_ ?_ ?_ ?_ ?_,fF KX G ?_ ?_ ?_ ?_ ?_,fF KX G ?_ ?_ ?_ ?_ ?_,fF KX G ?_ ?_ ?_ ?_ ?_,fF KX G ?_ ?_ ?_ ?_ ?_,fF KX G ?_ ?_ ?_ ?_ ?_,fF KX G ?_ ?_ ?_ ?_ ?_,fF KX G ?_ ?_ ?_ ?_ ?_,fF KX G ?_ ?_ ?_ ?_ ?_,fF KX G ?_ ?_ ?_ ?_ ?_,fF KX G ?_ ?_ ?_ ?_ ?_,fF KX G ?_ ?_ ?_ ?_ ?_,fF KX G ?_ ?_ ?_ ?_ ?_,fF KX G ?_ ?_ ?_ ?_ ?_,fF KX G ?_ ?_ ?_ ?_ ?_,fF KX G ?_ ?_ ?_ ?_ ?_,fF KX G ?_ ?_ ?_ ?_ ?_,fF KX G ?_ ?_ ?_ ?_ ?_,fF KX G ?_ ?_ ?_ ?_ ?_,fF KX G ?_ ?_ ?_ ?_ ?_,fF KX G ?_ ?_ ?_ ?_ ?_,fF KX G ?_ ?_ ?_ ?_ ?_,fF KX G ?_ ?_ ?_ ?_ ?_,gv ?_ ?_ ?_ ?_ ?_ ?_,gv ?_ ?_ ?_ ?_ ?_ ?_,gv ?_ ?_ ?_ ?_ ?_ ?_,K63.md_Last___init__ ?_ ?_ ?_ ?_ ?_ ?_,
   gv ?_ ?_ ?_ ?_ ?_ ?_,gv ?_ ?_ ?_ ?_ ?_ ?_,gv ?_ ?_ ?_ ?_ ?_ ?_,gv ?_ ?_ ?_ ?_ ?_ ?_,gv ?_ ?_ ?_ ?_ ?_ ?_,gv ?_ ?_ ?_ ?_ ?_ ?_,gv ?_ ?_ ?_ ?_ ?_ ?_,gv ?_ ?_ ?_ ?_ ?_ ?_,gv ?_ ?_ ?_ ?_ ?_ ?_,gv ?_ ?_ ?_ ?_ ?_ ?_,fF KX G ?_ ?_ ?_ ?_ ?_,fF KX G ?_ ?_ ?_ ?_ ?_,fF KX G ?_ ?_ ?_ ?_ ?_,fF KX G ?_ ?_ ?_ ?_ ?_,fF KX G ?_ ?_ ?_ ?_ ?_,fF KX G ?_ ?_ ?_ ?_ ?_,fF KX G ?_ ?_ ?_ ?_ ?_,fF KX G ?_ ?_ ?_ ?_ ?_,fF KX G ?_ ?_ ?_ ?_ ?_,fF KX G ?_ ?_ ?_ ?_ ?_,gv ?_ ?_ ?_ ?_ ?_ ?_,gv ?_ ?_ ?_ ?_ ?_ ?_,fF KX G ?_ ?_ ?_ ?_ ?_,fF KX G ?_ ?_ ?_ ?_ ?_,fF KX G ?_ ?_ ?_ ?_ ?_,gv ?_ ?_ ?_ ?_ ?_ ?_,gv ?_ ?_ ?_ ?_ ?_ ?_,gv ?_ ?_ ?_ ?_ ?_ ?_,fF KX G ?_ ?_ ?_ ?_ ?_,fF KX G ?_ ?_ ?_ ?_ ?_,fF KX G ?_ ?_ ?_ ?_ ?_,fF KX G ?_ ?_ ?_ ?_ ?_,fF KX G ?_ ?_ ?_ ?_ ?_,fF KX G ?_ ?_ ?_ ?_ ?_,fF KX G ?_ ?_ ?_ ?_ ?_,fF KX G ?_ ?_ ?_ ?_ ?_,gv ?_ ?_ ?_ ?_ ?_ ?_,fF KX G ?_ ?_ ?_ ?_ ?_,fF KX G ?_ ?_ ?_ ?_ ?_,QB KX G ?_ ?_ ?_ ?_ ?_,gv ?_ ?_ ?_ ?_ ?_ ?_,gv ?_ ?_ ?_ ?_ ?_ ?_,gv ?_ ?_ ?_ ?_ ?_ ?_,gv ?_ ?_ ?_ ?_ ?_ ?_,gv ?_ ?_ ?_ ?_ ?_ ?_,gv ?_ ?_ ?_ ?_ ?_ ?_,fF KX G ?_ ?_ ?_ ?_ ?_,gv ?_ ?_ ?_ ?_ ?_ ?_,gv ?_ ?_ ?_ ?_ ?_ ?_,gv ?_ ?_ ?_ ?_ ?_ ?_,gv ?_ ?_ ?_ ?_ ?_ ?_,gv ?_ ?_ ?_ ?_ ?_ ?_,gv ?_ ?_ ?_ ?_ ?_ ?_,fF KX G ?_ ?_ ?_ ?_ ?_,fF KX G ?_ ?_ ?_ ?_ ?_,fF KX G ?_ ?_ ?_ ?_ ?_,gv ?_ ?_ ?_ ?_ ?_ ?_,gv ?_ ?_ ?_ ?_ ?_ ?_,gv ?_ ?_ ?_ ?_ ?_ ?_,gv ?_ ?_ ?_ ?_ ?_ ?_,gv ?_ ?_ ?_ ?_ ?_ ?_,fF KX G ?_ ?_ ?_ ?_ ?_,fF KX G ?_ ?_ ?_ ?_ ?_,gv ?_ ?_ ?_ ?_ ?_ ?_,gv ?_ ?_ ?_ ?_ ?_ ?_,gv ?_ ?_ ?_ ?_ ?_ ?_,gv ?_ ?_ ?_ ?_ ?_ ?_,gv ?_ ?_ ?_ ?_ ?_ ?_,gv ?_ ?_ ?_ ?_ ?_ ?_,gv ?_ ?_ ?_ ?_ ?_ ?_,gv ?_ ?_ ?_ ?_ ?_ ?_,gv ?_ ?_ ?_ ?_ ?_ ?_,gv ?_ ?_ ?_ ?_ ?_ ?_,gv ?_ ?_ ?_ ?_ ?_ ?_,gv ?_ ?_ ?_ ?_ ?_ ?_,fF KX G ?_ ?_ ?_ ?_ ?_,fF KX G ?_ ?_ ?_ ?_ ?_,fF KX G ?_ ?_ ?_ ?_ ?_,fF KX G ?_ ?_ ?_ ?_ ?_,fF KX G ?_ ?_ ?_ ?_ ?_,fF KX G ?_ ?_ ?_ ?_ ?_,fF KX G ?_ ?_ ?_ ?_ ?_,fF KX G ?_ ?_ ?_ ?_ ?_,fF KX G ?_ ?_ ?_ ?_ ?_,fF KX G ?_ ?_ ?_ ?_ ?_,fF KX G ?_ ?_ ?_ ?_ ?_,fF KX G ?_ ?_ ?_ ?_ ?_,fF KX G ?_ ?_ ?_ ?_ ?_,fF KX G ?_ ?_ ?_ ?_ ?_,fF KX G ?_ ?_ ?_ ?_ ?_,fF KX G ?_ ?_ ?_ ?_ ?_⟩ ?_ ?_ ?_ ?_
  (case rkb_Book=>kernel_rfl)
  (case rkb_Of=>kernel_rfl)
  (case rkb_Joined=>kernel_rfl)
  (case rkb_Met=>kernel_rfl)
  (case rkb_Less=>kernel_rfl)
  (case rkb_Turned=>kernel_rfl)
  (case rkr_Row=>kernel_rfl)
  all_goals try (intro _ _ _ _ _ _ us hl;first | (obtain⟨rfl⟩:=BZ hl;rfl) | (obtain⟨_,rfl⟩:=Jl hl;rfl) | (obtain⟨_,_,rfl⟩:=HM hl;rfl) | (obtain⟨_,_,_,rfl⟩:=KW hl;rfl) | (obtain⟨_,_,_,_,rfl⟩:=CN hl;rfl))
  all_goals try decide
  all_goals try (as_aux_lemma=>k_is)
  all_goals try decide
