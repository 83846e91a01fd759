import PyProof.Rows.All
import Wide.All
import OpenK.AllK
import Wide.FinOn
import KE.KLam
import Lean
import PyProof.EqAt
import PyProof.EqKinds
import PyProof.TupleCall
import PySem.Challenge.RW_fivefields_k52_last_walked
local macro_rules
  | `(tactic| omega) => `(tactic| lia)
set_option maxHeartbeats 4000000
set_option compiler.extract_closed false
namespace Hd
open PySem PySem.W PySem.Calls PyProof.Rows
section
set_option maxHeartbeats 0
set_option maxRecDepth 100000
set_option linter.all false
theorem ws:OpenLaw.wellSaid PySem.Challenge.rw_fivefields_k52_last_walked=true:=by
 delta OpenLaw.wellSaid
 with_reducible refine look_both (look_both (look_both (look_both (look_both (look_both (look_both (look_both (look_both (look_both (look_both (look_both (look_both (look_both (look_both (look_both (look_both (look_both ?_ ?_) ?_) ?_) ?_) ?_) ?_) ?_) ?_) ?_) ?_) ?_) ?_) ?_) ?_) ?_) ?_) ?_) ?_
 ·delta OpenRow.wellSaid
  with_reducible refine look_both (look_both ?_ ?_) ?_
  ·delta OpenRow.partSaid
   with_reducible refine look_both (look_both (look_both (look_both (look_both (look_both (look_both (look_both (look_both (look_both (look_both (look_both ?_ ?_) ?_) ?_) ?_) ?_) ?_) ?_) ?_) ?_) ?_) ?_) ?_
   ·delta looksOpen
    with_reducible refine look_both (look_both (look_both (look_both (look_both ?_ ?_) ?_) ?_) ?_) ?_
    all_goals decide +kernel
   all_goals decide +kernel
  all_goals decide +kernel
 all_goals decide +kernel
noncomputable section
noncomputable abbrev pw:Program:=PySem.Challenge.pw_fivefields_k52_last_walked
noncomputable abbrev bi:List Stmt:=behindTheImports pw
noncomputable def nth:List Stmt->Nat->Stmt
 |s::_,0=>s
 |_::r,n+1=>nth r n
 |[],_=>.Pass default
noncomputable def tp(i:Nat):Stmt:=nth pw.main.body i
noncomputable def bd:Stmt->List Stmt
 |.FunctionDef _ _ b _ _ _ _ _ _ _=>b
 |.ClassDef _ _ _ b _ _ _ _ _ _ _=>b
 |_=>[]
noncomputable def ag:Stmt->Arguments
 |.FunctionDef _ a _ _ _ _ _ _ _ _=>a
 |_=>⟨[],[],none,[],[],none,[]⟩
noncomputable def sc:Stmt->Scope
 |.FunctionDef _ _ _ _ _ _ s _ _ _=>s
 |.ClassDef _ _ _ _ _ _ s _ _ _ _=>s
 |_=>pw.main.scope
noncomputable def r(a:Addr):Value:=.ref a
noncomputable def i(n:Int):Value:=.int n 0
noncomputable def de(P:Params)(k:Str)(t:Tok)(v:Value):DictEntry:=⟨PyData.keyHash P k,.str k t,v⟩
noncomputable def tu(l:List Value):Obj:=⟨.type "tuple",none,.seq l.toArray 0,#[]⟩
noncomputable def di(l:List DictEntry)(n:Nat):Obj:=⟨.type "dict",none,.dict l.toArray n,#[]⟩
noncomputable def co(l:List Value):Obj:=⟨.type "code",none,.fields l.toArray,#[]⟩
noncomputable def fd(l:List Value):Obj:=⟨.none,none,.fields l.toArray,#[]⟩
noncomputable def lf(x:Obj):BT:=.node x .nil .nil
noncomputable abbrev nd:Obj->BT->BT->BT:=BT.node
noncomputable def sf(t:Tok):Value:=.str "/claim/cut.py" t
noncomputable def fz(n q:Str)(s:Stmt):Obj:=⟨.none,none,.func ⟨n,q,ag s,.stmts (bd s),sc s,0,[],.none,.none,.none,.none,none,.none,.none,0⟩,#[]⟩
noncomputable def fn(n q:Str)(s:Stmt)(g:Addr)(c:List (Str×Addr))(d k o m:Value)(a:Option Addr)(x y:Value)(b:Addr):Obj:=⟨.type "function",none,.func ⟨n,q,ag s,.stmts (bd s),sc s,g,c,d,k,o,m,a,x,y,b⟩,#[]⟩
noncomputable def ib(s:Stmt)(i:Nat):Stmt:=nth (bd s) i
noncomputable def ev:Env:={scope:=pw.main.scope,locals:=mainNs,globals:=mainNs,cells:=[],code:=(r 13),frame:=some 14}
noncomputable def cd:Code:=.body bi ev
noncomputable abbrev an:Option Value:=(some (r 6))
noncomputable abbrev bk:List Frame:=[topFrame ⟨0,0,0,0⟩]
def cO(n q:Str)(t l c x a u:Nat):Obj:=co [.str n t,.str q (t+1),sf (t+2),i (Int.ofNat l),i (Int.ofNat c),i 0,i 0,i (Int.ofNat x),r a,.bool true,i 181,r (a+1),.none,r (a+2),r (a+3),r (a+4),i (Int.ofNat u),i (Int.ofNat l),sf (u+1)]
def cP(n:Str)(t l c x a u:Nat):Obj:=cO n n t l c x a u
def cK(n q:Str)(t l a u:Nat):Obj:=co [.str n t,.str q (t+1),sf (t+2),i (Int.ofNat l),i 0,i 0,i 0,i 0,r a,.bool false,i 181,r (a+1),.none,.none,.none,.none,i (Int.ofNat u),i (Int.ofNat l),sf (u+1)]
def fQ(n q:Str)(s:Stmt)(m:Value)(a:Addr):Obj:=fn n q s 3 [] .none .none .none m none (r a) .none 0
def fP(n:Str)(k:Nat)(m:Value)(a:Addr):Obj:=fQ n n (tp k) m a
def fY(n:Str)(k:Nat):Obj:=fz n n (tp k)
def fS(n q:Str)(s z:Stmt)(m:Value)(a:Addr):Obj:=⟨(.type "function"),none,(.func ⟨n,q,ag s,.stmts (bd s),sc z,3,[],.none,.none,.none,m,none,r a,.none,0⟩),#[]⟩
def fT(n q:Str)(s z:Stmt):Obj:=⟨.none,none,(.func ⟨n,q,ag s,.stmts (bd s),sc z,0,[],.none,.none,.none,.none,none,.none,.none,0⟩),#[]⟩
def ss:List Str->Nat->List Value
 |[],_=>[]
 |x::l,n=>.str x n::ss l (n+1)
def tS(n:Nat)(l:List Str):Obj:=tu (ss l n)
def dr(P:Params)(k:Str)(t:Tok)(a:Addr):DictEntry:=de P k t (r a)
def f3(k:Nat):List (Nat×Nat)->List Value
 |[]=>[]
 |(a,b)::l=>i (Int.ofNat a)::i (Int.ofNat k)::r b::f3 k l
def fD(k:Nat)(l:List (Nat×Nat)):Obj:=fd (f3 k l)
def fr(a b:Addr)(m:Value):Obj:=⟨(.type "frame"),none,.plain,#[some (r a),some (r 3),some (r b),none,some m,none,some (r 0)]⟩
def bm(s:String)(v:Value):Obj:=⟨(.type "builtin_function_or_method"),none,(.fields #[.builtin s,v]),#[]⟩
def Fx(l:List Obj):List Obj×List Obj:=List.rec ([],[]) (fun x _ p=>(x::p.2,p.1)) l
def pF:Nat->List Obj->BT
 |0,_=>.nil
 |_+1,[]=>.nil
 |n+1,x::l=>.node x (pF n (Fx l).1) (pF n (Fx l).2)
def su(a b c:Addr):Obj:=⟨(.type "super"),none,(.fields #[r a,r b,r c]),#[]⟩
def gh:Value:=.str "fivefields.marks" 693
def j8:Value:=.str "fivefields.errors" 194
def mv2:Value:=.str "fivefields.days" 289
def sR:Value:=.str "fivefields.months" 410
def mv4:Value:=.str "fivefields.ranges" 453
def tF:Value:=.str "fivefields.papers" 505
def ql:Value:=.str "fivefields.leaps" 550
def mW:Value:=.str "fivefields.fields" 607
def hG:Value:=.str "law_fivefields_k52_last_walked" 1312
def ja:Value:=.str "fivefields.rows" 1136
def o0:=tu []
def o1:=fd []
def o2:=cK "<module>" "<module>" 182 1 11 185
def o3:Obj:=⟨(.type "frame"),none,.plain,#[(some (r 13)),(some (r 3)),(some (r 3)),none,(some (.str "__main__" 164)),none,(some (r 0))]⟩
def hA(P:Params):Heap:=⟨⟨[(boot_o_0 P),(boot_o_1 P),(boot_o_2 P),(boot_o_3 P),(boot_o_4 P),(boot_o_5 P),(boot_o_6 P),(boot_o_7 P),(boot_o_8 P),(boot_o_9 P),(boot_o_10 P),o0,o1,o2,o3]⟩,⟨[],[],[],0,[],[],false,#[],[],0,false,false,false,0,[2000,10,10],false,0,true,[],[],0,false⟩⟩
def sA(w:World)(os:OsState):Shared:=⟨hA w.params,#[],⟨0,0,0,0⟩,187,os⟩
theorem pre(w:World)(os:OsState):
  topGo treeTable pw w 11 an 12 ⟨boot_heap w.params,⟨[]⟩,boot_drawn,boot_toks,os⟩ (topStub pw) =
  some (sA w os,⟨denote treeTable cd,cd,⟨0,0,0,0⟩,bk⟩):=by kernel_rfl
def t0(P:Params):BT:=pF 5 [(boot_o_0 P),(boot_o_1 P),(boot_o_2 P),(boot_o_3 P),(boot_o_4 P),(boot_o_5 P),(boot_o_6 P),(boot_o_7 P),(boot_o_8 P),(boot_o_9 P),(boot_o_10 P),o0,o1,o2,o3]
def s0(w:World)(os:OsState):SharedT:=⟨t0 w.params,15,⟨[],[],[],0,[],[],false,#[],[],0,false,false,false,0,[2000,10,10],false,0,true,[],[],0,false⟩,#[],⟨0,0,0,0⟩,187,os⟩
theorem Rv(w:World)(os:OsState):
  segRun treeTable pw w 11 an 1 1 (sA w os) (blockOf bi ev cd ⟨0,0,0,0⟩ bk) =
  some (.next,(s0 w os).abs,cd,⟨0,0,0,0⟩):=by kernel_rfl
def Di(P:Params):List DictEntry:=[de P "__doc__" 166 .none,de P "__package__" 167 .none,de P "__loader__" 168 (.builtin "__main__.__loader__#opaque"),de P "__spec__" 169 .none,dr P "__annotations__" 170 6,dr P "__builtins__" 171 4,de P "__file__" 173 (sf 172),de P "__cached__" 174 .none,dr P "_wall" 193 21,dr P "FieldError" 213 31,dr P "NoDay" 229 44,dr P "NoField" 254 63,dr P "NoRow" 279 82,dr P "is_whole" 288 91,dr P "MONTH_LASTS" 303 92,de P "ROUND_YEARS" 305 (.int 400 304),de P "ROUND_DAYS" 307 (.int 146097 306),dr P "is_long" 314 99,dr P "multiples_before" 322 106,dr P "days_before" 330 113,dr P "last_of" 338 120,dr P "is_date" 347 127,dr P "day_of" 353 132,dr P "year_of" 361 139,dr P "date_of" 371 146,dr P "weekday" 378 153,de P "FIGURES" 382 (.str "0123456789" 381),dr P "all_figures" 388 158,dr P "is_written" 395 165,de P "DAY_MINUTES" 399 (.int 1440 398),de P "HOUR_MINUTES" 401 (.int 60 400),dr P "parted" 409 172,de P "LONG_PLACE" 413 (.int 12 412),de P "LONG_LAST" 415 (.int 29 414),de P "SHORT_YEAR" 417 (.int 1 416),dr P "kind_from" 427 179,dr P "kind_of" 435 186,dr P "month_at" 444 193,dr P "month_before" 452 200,dr P "has" 462 207,dr P "lowest" 469 214,dr P "starts_of" 475 219,dr P "end_from" 484 226,dr P "ranges_of" 490 231,dr P "shown_range" 498 238,dr P "shown_ranges" 504 243,dr P "add_stretch" 516 250,dr P "last_shut_day" 527 257,dr P "shut_end" 536 264,dr P "paper_of" 549 271,de P "MOST_MONTHS" 553 (.int 492 552),de P "MOST_MONTH_MINUTES" 555 (.int 44640 554),dr P "minutes_on" 565 278,dr P "minutes_by" 574 285,dr P "month_of" 582 292,dr P "final_at" 596 299,dr P "last_to" 606 306,de P "MOST_SIGNS" 610 (.int 300 609),de P "MOST_ITEMS" 612 (.int 40 611),de P "MOST_STRIDE" 614 (.int 99 613),dr P "mask_of" 623 313,dr P "numbers_in" 629 318,dr P "run_mask" 638 325,dr P "read_number" 648 332,dr P "read_run" 654 337,dr P "read_strided" 667 344,dr P "read_item" 678 351,dr P "read_field" 692 358,de P "MOST_MARKS" 696 (.int 20 695),de P "MOST_DAY" 698 (.int 31 697),de P "MOST_BACK" 700 (.int 30 699),de P "MOST_NTH" 702 (.int 5 701),de P "SUNDAY" 704 (.int 0 703),de P "SATURDAY" 706 (.int 6 705),de P "SUNDAY_TOO" 708 (.int 7 707),de P "ALL_WEEKDAYS" 710 (.int 127 709),dr P "weekday_at" 718 365,dr P "all_days" 725 372,dr P "nearest_work" 735 379,dr P "first_one" 743 386,dr P "Mark" 779 410,dr P "Numbers" 820 445,dr P "Last" 862 479,dr P "Near" 903 512,dr P "LastWork" 935 538,dr P "Weekdays" 978 571,dr P "Nth" 1022 604,dr P "LastOne" 1063 637]
def o4(P:Params):=di (de P "__name__" 165 gh::Di P) 89
def o5:=fD 0 [(1,20),(5,27),(7,40),(9,52),(13,71),(18,90),(24,98),(26,105),(28,112),(31,119),(35,126),(39,131),(44,138),(49,145),(57,152),(61,157),(63,164),(68,171),(75,178),(78,185),(80,192),(86,199),(91,206),(93,213),(95,218),(98,225),(103,230),(105,237),(109,242),(112,249),(117,256),(124,263),(130,270),(142,277),(147,284),(151,291),(154,298),(165,305),(174,312),(179,317),(181,324),(183,331),(190,336),(197,343),(204,350),(212,357),(234,364),(236,371),(238,378),(245,385),(247,392),(254,420),(264,453),(278,487),(290,520),(297,546),(310,579),(324,612)]
def o6:=tS 190 ["k"]
def o7:=fY "_wall" 0
def o8:=cP "_wall" 187 1 1 3 15 191
def o9:=fn "_wall" "_wall" (tp 0) 3 [] .none .none .none (.str "__main__" 164) none (r 20) .none 0
def M7:=tu [(.type "ValueError")]
def ky:=bm "type.__prepare__" (.type "type")
def Q0(P:Params):=di [de P "__module__" 203 j8,de P "__qualname__" 205 (.str "FieldError" 204),de P "__firstlineno__" 207 (.int 5 206),dr P "__static_attributes__" 208 29] 4
def VH:=cK "FieldError" "FieldError" 198 5 25 201
def IS:=fr 27 24 j8
def KL(P:Params):=di [de P "__module__" 203 j8,de P "__firstlineno__" 207 (.int 5 206),dr P "__static_attributes__" 208 29,dr P "__weakref__" 210 32,de P "__doc__" 211 .none] 3
def ID:Obj:=⟨(.type "type"),none,(.cls ⟨"FieldError",[(.type "ValueError")],[(r 31),(.type "ValueError"),(.type "Exception"),(.type "BaseException"),(.type "object")],30,"FieldError",true,[],[(r 44),(r 63),(r 82)],false,none,false⟩),#[(some (r 22)),none,(some (.str "FieldError" 196)),(some (.str "FieldError" 204)),(some (.builtin "ValueError.__new__")),(some (.bool true))]⟩
def NT:Obj:=⟨(.type "getset_descriptor"),none,(.fields #[(.str "__weakref__" 209),(r 31),(.builtin "ExceptionGroup.__weakref__"),.none]),#[]⟩
def IK:=su 31 31 31
def Pu:=bm "object.__init_subclass__" (r 31)
def uV:=tu [(r 31)]
def Nx(P:Params):=di [de P "__module__" 221 j8,de P "__qualname__" 223 (.str "NoDay" 222),de P "__firstlineno__" 225 (.int 7 224),dr P "__static_attributes__" 226 42] 4
def o22:=cK "NoDay" "NoDay" 216 7 38 219
def Kf:=fr 40 37 j8
def Wa(P:Params):=di [de P "__module__" 221 j8,de P "__firstlineno__" 225 (.int 7 224),dr P "__static_attributes__" 226 42,de P "__doc__" 227 .none] 2
def Jb:Obj:=⟨(.type "type"),none,(.cls ⟨"NoDay",[(r 31)],[(r 44),(r 31),(.type "ValueError"),(.type "Exception"),(.type "BaseException"),(.type "object")],43,"NoDay",true,[],[],false,none,false⟩),#[(some (r 35)),none,(some (.str "NoDay" 214)),(some (.str "NoDay" 222)),(some (.builtin "ValueError.__new__")),(some (.bool true))]⟩
def NP:=su 44 44 44
def Nk:=bm "object.__init_subclass__" (r 44)
def Qu(P:Params):=di [de P "__module__" 237 j8,de P "__qualname__" 239 (.str "NoField" 238),de P "__firstlineno__" 241 (.int 9 240),dr P "__init__" 249 60,dr P "__static_attributes__" 251 61] 5
def Xq:=fD 4 [(11,59)]
def Qc:=cK "NoField" "NoField" 232 9 50 235
def Zj:=fr 52 49 j8
def Qk:=tS 245 ["self","at"]
def Wm:=fz "__init__" "NoField.__init__" (ib (tp 4) 0)
def WL:=cO "__init__" "NoField.__init__" 242 11 2 3 54 247
def o35:=fQ "__init__" "NoField.__init__" (ib (tp 4) 0) j8 59
def KC:=tS 250 ["at"]
def Ob(P:Params):=di [de P "__module__" 237 j8,de P "__firstlineno__" 241 (.int 9 240),dr P "__init__" 249 60,dr P "__static_attributes__" 251 61,de P "__doc__" 252 .none] 2
def Ku:Obj:=⟨(.type "type"),none,(.cls ⟨"NoField",[(r 31)],[(r 63),(r 31),(.type "ValueError"),(.type "Exception"),(.type "BaseException"),(.type "object")],62,"NoField",true,[],[],false,none,false⟩),#[(some (r 47)),none,(some (.str "NoField" 230)),(some (.str "NoField" 238)),(some (.builtin "ValueError.__new__")),(some (.bool true))]⟩
def Ys:=su 63 63 63
def Z6:=bm "object.__init_subclass__" (r 63)
def o41(P:Params):=di [de P "__module__" 262 j8,de P "__qualname__" 264 (.str "NoRow" 263),de P "__firstlineno__" 266 (.int 13 265),dr P "__init__" 274 79,dr P "__static_attributes__" 276 80] 5
def YZ:=fD 4 [(15,78)]
def V9:=cK "NoRow" "NoRow" 257 13 69 260
def Ww:=fr 71 68 j8
def HH:=tS 270 ["self","place"]
def Od:=fz "__init__" "NoRow.__init__" (ib (tp 5) 0)
def Z5:=cO "__init__" "NoRow.__init__" 267 15 2 3 73 272
def KO:=fQ "__init__" "NoRow.__init__" (ib (tp 5) 0) j8 78
def I8:=tS 275 ["place"]
def Li(P:Params):=di [de P "__module__" 262 j8,de P "__firstlineno__" 266 (.int 13 265),dr P "__init__" 274 79,dr P "__static_attributes__" 276 80,de P "__doc__" 277 .none] 2
def o51:Obj:=⟨(.type "type"),none,(.cls ⟨"NoRow",[(r 31)],[(r 82),(r 31),(.type "ValueError"),(.type "Exception"),(.type "BaseException"),(.type "object")],81,"NoRow",true,[],[],false,none,false⟩),#[(some (r 66)),none,(some (.str "NoRow" 255)),(some (.str "NoRow" 263)),(some (.builtin "ValueError.__new__")),(some (.bool true))]⟩
def Wp:=su 82 82 82
def ZI:=bm "object.__init_subclass__" (r 82)
def S8:=tS 285 ["thing"]
def YX:=fY "is_whole" 7
def TL:=cP "is_whole" 282 18 1 3 85 286
def LK:=fn "is_whole" "is_whole" (tp 7) 3 [] .none .none .none (.str "fivefields.wholes" 280) none (r 90) .none 0
def Iw:=tu [(.int 31 291),(.int 28 292),(.int 31 293),(.int 30 294),(.int 31 295),(.int 30 296),(.int 31 297),(.int 31 298),(.int 30 299),(.int 31 300),(.int 30 301),(.int 31 302)]
def Pl:=tS 311 ["year"]
def MA:=fY "is_long" 12
def LC:=cP "is_long" 308 24 1 3 93 312
def HP:=fP "is_long" 12 mv2 98
def Vh:=tS 318 ["year","step"]
def ND:=fY "multiples_before" 13
def QP:=cP "multiples_before" 315 26 2 3 100 320
def Ks:=fP "multiples_before" 13 mv2 105
def S4:=tS 326 ["year","longs"]
def IU:=fY "days_before" 14
def Ts:=cP "days_before" 323 28 1 3 107 328
def Ox:=fP "days_before" 14 mv2 112
def Vf:=tS 334 ["year","month"]
def OQ:=fY "last_of" 15
def II:=cP "last_of" 331 31 2 3 114 336
def XQ:=fP "last_of" 15 mv2 119
def R3:=tS 342 ["year","month","day"]
def XY:=fY "is_date" 16
def L0:=cP "is_date" 339 35 3 3 121 345
def Ym:=fP "is_date" 16 mv2 126
def UX:=fY "day_of" 17
def WH:=co [(.str "day_of" 348),(.str "day_of" 349),(sf 350),(i 39),(i 3),(i 0),(i 0),(i 3),(r 128),(.bool true),(i 181),(r 129),.none,.none,.none,(r 130),(i 351),(i 39),(sf 352)]
def OG:=fP "day_of" 17 mv2 131
def PQ:=tS 357 ["day","year"]
def Si:=fY "year_of" 18
def Th:=cP "year_of" 354 44 1 3 133 359
def OM:=fP "year_of" 18 mv2 138
def O7:=tS 365 ["day","year","month","rest"]
def OB:=fY "date_of" 19
def MI:=cP "date_of" 362 49 1 3 140 369
def o89:=fP "date_of" 19 mv2 145
def O3:=tS 375 ["day"]
def WB:=fY "weekday" 20
def V0:=cP "weekday" 372 57 1 3 147 376
def Mj:=fP "weekday" 20 mv2 152
def ON:=fY "all_figures" 23
def Hu:=co [(.str "all_figures" 383),(.str "all_figures" 384),(sf 385),(i 61),(i 1),(i 0),(i 0),(i 3),(r 154),(.bool true),(i 181),(r 155),.none,.none,.none,(r 156),(i 386),(i 61),(sf 387)]
def Tj:=fn "all_figures" "all_figures" (tp 23) 3 [] .none .none .none (.str "fivefields.figures" 379) none (r 157) .none 0
def SA:=tS 392 ["text"]
def K7:=fY "is_written" 24
def Wg:=cP "is_written" 389 63 1 3 159 393
def PV:=fn "is_written" "is_written" (tp 24) 3 [] .none .none .none (.str "fivefields.figures" 379) none (r 164) .none 0
def Lu:=tS 405 ["moment","time"]
def Pz:=fY "parted" 28
def KF:=cP "parted" 402 68 1 3 166 407
def Wz:=fn "parted" "parted" (tp 28) 3 [] .none .none .none (.str "fivefields.moments" 396) none (r 171) .none 0
def V5:=tS 421 ["year","month","day","place"]
def Wb:=fY "kind_from" 33
def Xg:=cP "kind_from" 418 75 3 3 173 425
def Sl:=fP "kind_from" 33 sR 178
def Jq:=tS 431 ["year","month"]
def aOO:=fY "kind_of" 34
def aQ2:=cP "kind_of" 428 78 2 3 180 433
def Rh:=fP "kind_of" 34 sR 185
def Jt:=tS 439 ["kind","place","first"]
def Md:=fY "month_at" 35
def Wu:=cP "month_at" 436 80 1 3 187 442
def ZV:=fP "month_at" 35 sR 192
def ZM:=tS 448 ["year","month"]
def Sx:=fY "month_before" 36
def JU:=cP "month_before" 445 86 2 3 194 450
def Mm:=fP "month_before" 36 sR 199
def Kt:=tS 458 ["mask","number"]
def Lh:=fY "has" 38
def PK:=cP "has" 455 91 2 3 201 460
def Ip:=fP "has" 38 mv4 206
def Wh:=tS 466 ["mask"]
def MH:=fY "lowest" 39
def TZ:=cP "lowest" 463 93 1 3 208 467
def Yc:=fP "lowest" 39 mv4 213
def N7:=fY "starts_of" 40
def Mt:=co [(.str "starts_of" 470),(.str "starts_of" 471),(sf 472),(i 95),(i 1),(i 0),(i 0),(i 3),(r 215),(.bool true),(i 181),(r 216),.none,.none,.none,(r 217),(i 473),(i 95),(sf 474)]
def WF:=fP "starts_of" 40 mv4 218
def Xs:=tS 479 ["mask","start","end"]
def T3:=fY "end_from" 41
def My:=cP "end_from" 476 98 2 3 220 482
def IY:=fP "end_from" 41 mv4 225
def YY:=fY "ranges_of" 42
def LX:=co [(.str "ranges_of" 485),(.str "ranges_of" 486),(sf 487),(i 103),(i 1),(i 0),(i 0),(i 3),(r 227),(.bool true),(i 181),(r 228),.none,.none,.none,(r 229),(i 488),(i 103),(sf 489)]
def Xm:=fP "ranges_of" 42 mv4 230
def JS:=tS 494 ["first","last"]
def HQ:=fY "shown_range" 43
def Ye:=cP "shown_range" 491 105 2 3 232 496
def Nm:=fP "shown_range" 43 mv4 237
def RF:=fY "shown_ranges" 44
def Td:=co [(.str "shown_ranges" 499),(.str "shown_ranges" 500),(sf 501),(i 109),(i 1),(i 0),(i 0),(i 3),(r 239),(.bool true),(i 181),(r 240),.none,.none,.none,(r 241),(i 502),(i 109),(sf 503)]
def Pa:=fP "shown_ranges" 44 mv4 242
def YR:=tS 510 ["stretches","first","last","told"]
def OJ:=fY "add_stretch" 46
def Pj:=cP "add_stretch" 507 112 4 3 244 514
def HM:=fP "add_stretch" 46 tF 249
def Yw:=tS 520 ["row","day","date","kind","later"]
def aPP:=fY "last_shut_day" 47
def Yt:=cP "last_shut_day" 517 117 2 3 251 525
def HK:=fP "last_shut_day" 47 tF 256
def IA:=tS 531 ["row","moment","word"]
def RN:=fY "shut_end" 48
def HF:=cP "shut_end" 528 124 3 3 258 534
def JC:=fP "shut_end" 48 tF 263
def W1:=tS 540 ["row","begin","end","stretches","moment","word","last"]
def P1:=fY "paper_of" 49
def aMI:=cP "paper_of" 537 130 3 3 265 547
def P7:=fP "paper_of" 49 tF 270
def NX:=tS 559 ["days","minutes","place","times"]
def Oe:=fY "minutes_on" 53
def aOW:=cP "minutes_on" 556 142 1 3 272 563
def XE:=fP "minutes_on" 53 ql 277
def Z7:=tS 569 ["known","on_days","kind"]
def Sw:=fY "minutes_by" 54
def Ru:=cP "minutes_by" 566 147 3 3 279 572
def RH:=fP "minutes_by" 54 ql 284
def W2:=tS 578 ["moment","date"]
def Ir:=fY "month_of" 55
def Zv:=cP "month_of" 575 151 1 3 286 580
def SZ:=fP "month_of" 55 ql 291
def OV:=tS 586 ["on_days","moment","month","known","turn","start","latest","rest"]
def Kh:=fY "final_at" 56
def S5:=cP "final_at" 583 154 2 3 293 594
def Sh:=fP "final_at" 56 ql 298
def LV:=tS 600 ["row","moment","found"]
def aN8:=tS 603 ["row"]
def TN:=fY "last_to" 57
def MD:=cP "last_to" 597 165 2 3 300 604
def O8:=fP "last_to" 57 ql 305
def RU:=tS 618 ["numbers","mask","number"]
def L4:=fY "mask_of" 62
def Jn:=cP "mask_of" 615 174 1 3 307 621
def Pr:=fP "mask_of" 62 mW 312
def Pc:=fY "numbers_in" 63
def LL:=co [(.str "numbers_in" 624),(.str "numbers_in" 625),(sf 626),(i 179),(i 1),(i 0),(i 0),(i 3),(r 314),(.bool true),(i 181),(r 315),.none,.none,.none,(r 316),(i 627),(i 179),(sf 628)]
def QA:=fP "numbers_in" 63 mW 317
def VF:=tS 633 ["first","last","stride"]
def Mh:=fY "run_mask" 64
def JB:=cP "run_mask" 630 181 3 3 319 636
def OK:=fP "run_mask" 64 mW 324
def Ld:=tS 642 ["text","low","high","number"]
def aSQ:=fY "read_number" 65
def SY:=cP "read_number" 639 183 3 3 326 646
def Jp:=fP "read_number" 65 mW 331
def ZS:=fY "read_run" 66
def QB:=co [(.str "read_run" 649),(.str "read_run" 650),(sf 651),(i 190),(i 3),(i 0),(i 0),(i 3),(r 333),(.bool true),(i 181),(r 334),.none,.none,.none,(r 335),(i 652),(i 190),(sf 653)]
def Ml:=fP "read_run" 66 mW 336
def Rm:=tS 658 ["run_text","stride_text","low","high","run","stride","last"]
def aUE:=fY "read_strided" 67
def Z9:=cP "read_strided" 655 197 4 3 338 665
def Iv:=fP "read_strided" 67 mW 343
def Vt:=tS 671 ["item","low","high","parts","run"]
def YC:=fY "read_item" 68
def aPY:=cP "read_item" 668 204 3 3 345 676
def aQC:=fP "read_item" 68 mW 350
def VV:=tS 682 ["text","low","high","items","mask","place","item","told"]
def aMV:=fY "read_field" 69
def XN:=cP "read_field" 679 212 3 3 352 690
def Qn:=fP "read_field" 69 mW 357
def SQ:=tS 714 ["day","first"]
def YF:=fY "weekday_at" 79
def aS4:=cP "weekday_at" 711 234 2 3 359 716
def HI:=fP "weekday_at" 79 gh 364
def Kz:=tS 722 ["last"]
def Zz:=fY "all_days" 80
def PB:=cP "all_days" 719 236 1 3 366 723
def aL2:=fP "all_days" 80 gh 371
def ZR:=tS 729 ["day","last","first","of_week"]
def aNM:=fY "nearest_work" 81
def Pn:=cP "nearest_work" 726 238 3 3 373 733
def We:=fP "nearest_work" 81 gh 378
def VZ:=tS 739 ["weekday","first"]
def HU:=fY "first_one" 82
def JW:=cP "first_one" 736 245 2 3 380 741
def Zo:=fP "first_one" 82 gh 385
def RJ(P:Params):=di [de P "__module__" 751 gh,de P "__qualname__" 753 (.str "Mark" 752),de P "__firstlineno__" 755 (.int 247 754),dr P "days" 764 400,dr P "told" 771 407,dr P "__static_attributes__" 772 408] 6
def Ji:=fD 4 [(249,399),(252,406)]
def Tf:=cK "Mark" "Mark" 746 247 390 749
def Oo:=fr 392 389 gh
def OO:=tS 759 ["self","last","first"]
def Iu:=fz "days" "Mark.days" (ib (tp 83) 0)
def IE:=cO "days" "Mark.days" 756 249 3 3 394 762
def Zp:=fQ "days" "Mark.days" (ib (tp 83) 0) gh 399
def R0:=tS 768 ["self"]
def I0:=fz "told" "Mark.told" (ib (tp 83) 1)
def Ju:=cO "told" "Mark.told" 765 252 1 3 401 769
def NZ:=fQ "told" "Mark.told" (ib (tp 83) 1) gh 406
def ZX(P:Params):=di [de P "__module__" 751 gh,de P "__firstlineno__" 755 (.int 247 754),dr P "days" 764 400,dr P "told" 771 407,dr P "__static_attributes__" 772 408,dr P "__dict__" 774 411,dr P "__weakref__" 776 412,de P "__doc__" 777 .none] 4
def VQ:Obj:=⟨(.type "type"),none,(.cls ⟨"Mark",[(.type "object")],[(r 410),(.type "object")],409,"Mark",true,[],[(r 445),(r 479),(r 512),(r 538),(r 571),(r 604),(r 637)],false,none,false⟩),#[none,none,(some (.str "Mark" 744)),(some (.str "Mark" 752)),(some (.builtin "object.__new__")),(some (.bool true))]⟩
def aOX:Obj:=⟨(.type "getset_descriptor"),none,(.fields #[(.str "__dict__" 773),(r 410),(.builtin "function.__dict__"),(.builtin "function.__dict__#set")]),#[]⟩
def Wk:Obj:=⟨(.type "getset_descriptor"),none,(.fields #[(.str "__weakref__" 775),(r 410),(.builtin "ExceptionGroup.__weakref__"),.none]),#[]⟩
def Kr:=su 410 410 410
def Wr:=bm "object.__init_subclass__" (r 410)
def nP:=tu [(r 410)]
def HZ(P:Params):=di [de P "__module__" 787 gh,de P "__qualname__" 789 (.str "Numbers" 788),de P "__firstlineno__" 791 (.int 254 790),dr P "__init__" 799 428,dr P "days" 808 435,dr P "told" 815 442,dr P "__static_attributes__" 817 443] 7
def Qb:=fD 4 [(256,427),(259,434),(262,441)]
def NO:=cK "Numbers" "Numbers" 782 254 418 785
def NM:=fr 420 417 gh
def Pb:=tS 795 ["self","mask"]
def XF:=fz "__init__" "Numbers.__init__" (ib (tp 84) 0)
def OZ:=cO "__init__" "Numbers.__init__" 792 256 2 3 422 797
def Rn:=fQ "__init__" "Numbers.__init__" (ib (tp 84) 0) gh 427
def VN:=tS 803 ["self","last","first"]
def XA:=fz "days" "Numbers.days" (ib (tp 84) 1)
def aTU:=cO "days" "Numbers.days" 800 259 3 3 429 806
def Rw:=fQ "days" "Numbers.days" (ib (tp 84) 1) gh 434
def QN:=tS 812 ["self"]
def Zr:=fz "told" "Numbers.told" (ib (tp 84) 2)
def R5:=cO "told" "Numbers.told" 809 262 1 3 436 813
def Mc:=fQ "told" "Numbers.told" (ib (tp 84) 2) gh 441
def KQ:=tS 816 ["mask"]
def Ib(P:Params):=di [de P "__module__" 787 gh,de P "__firstlineno__" 791 (.int 254 790),dr P "__init__" 799 428,dr P "days" 808 435,dr P "told" 815 442,dr P "__static_attributes__" 817 443,de P "__doc__" 818 .none] 2
def TR:Obj:=⟨(.type "type"),none,(.cls ⟨"Numbers",[(r 410)],[(r 445),(r 410),(.type "object")],444,"Numbers",true,[],[],false,none,false⟩),#[(some (r 415)),none,(some (.str "Numbers" 780)),(some (.str "Numbers" 788)),(some (.builtin "object.__new__")),(some (.bool true))]⟩
def P5:=su 445 445 445
def RT:=bm "object.__init_subclass__" (r 445)
def Tq(P:Params):=di [de P "__module__" 828 gh,de P "__qualname__" 830 (.str "Last" 829),de P "__firstlineno__" 832 (.int 264 831),dr P "__init__" 841 462,dr P "days" 850 469,dr P "told" 857 476,dr P "__static_attributes__" 859 477] 7
def Vs:=fD 4 [(266,461),(269,468),(274,475)]
def LM:=cK "Last" "Last" 823 264 451 826
def QS:=fr 453 450 gh
def Q4:=tu [(.int 0 833)]
def Kg:=tS 837 ["self","back"]
def L8:=fz "__init__" "Last.__init__" (ib (tp 85) 0)
def N5:=cO "__init__" "Last.__init__" 834 266 2 3 456 839
def Nl:=fn "__init__" "Last.__init__" (ib (tp 85) 0) 3 [] (r 455) .none .none gh none (r 461) .none 0
def X6:=tS 845 ["self","last","first"]
def KI:=fT "days" "Last.days" (ib (tp 85) 1) (ib (tp 83) 0)
def Xa:=cO "days" "Last.days" 842 269 3 3 463 848
def J0:=fS "days" "Last.days" (ib (tp 85) 1) (ib (tp 83) 0) gh 468
def ME:=tS 854 ["self"]
def LU:=fz "told" "Last.told" (ib (tp 85) 2)
def aOB:=cO "told" "Last.told" 851 274 1 3 470 855
def Re:=fQ "told" "Last.told" (ib (tp 85) 2) gh 475
def O6:=tS 858 ["back"]
def ZW(P:Params):=di [de P "__module__" 828 gh,de P "__firstlineno__" 832 (.int 264 831),dr P "__init__" 841 462,dr P "days" 850 469,dr P "told" 857 476,dr P "__static_attributes__" 859 477,de P "__doc__" 860 .none] 2
def Nj:Obj:=⟨(.type "type"),none,(.cls ⟨"Last",[(r 410)],[(r 479),(r 410),(.type "object")],478,"Last",true,[],[],false,none,false⟩),#[(some (r 448)),none,(some (.str "Last" 821)),(some (.str "Last" 829)),(some (.builtin "object.__new__")),(some (.bool true))]⟩
def S9:=su 479 479 479
def Rq:=bm "object.__init_subclass__" (r 479)
def P8(P:Params):=di [de P "__module__" 870 gh,de P "__qualname__" 872 (.str "Near" 871),de P "__firstlineno__" 874 (.int 278 873),dr P "__init__" 882 495,dr P "days" 891 502,dr P "told" 898 509,dr P "__static_attributes__" 900 510] 7
def PJ:=fD 4 [(280,494),(283,501),(288,508)]
def NH:=cK "Near" "Near" 865 278 485 868
def TF:=fr 487 484 gh
def Ov:=tS 878 ["self","day"]
def Xw:=fz "__init__" "Near.__init__" (ib (tp 86) 0)
def WU:=cO "__init__" "Near.__init__" 875 280 2 3 489 880
def IW:=fQ "__init__" "Near.__init__" (ib (tp 86) 0) gh 494
def Nt:=tS 886 ["self","last","first"]
def QC:=fz "days" "Near.days" (ib (tp 86) 1)
def LD:=cO "days" "Near.days" 883 283 3 3 496 889
def MY:=fQ "days" "Near.days" (ib (tp 86) 1) gh 501
def aUR:=tS 895 ["self"]
def MP:=fT "told" "Near.told" (ib (tp 86) 2) (ib (tp 85) 2)
def WY:=cO "told" "Near.told" 892 288 1 3 503 896
def Mg:=fS "told" "Near.told" (ib (tp 86) 2) (ib (tp 85) 2) gh 508
def R9:=tS 899 ["day"]
def Qs(P:Params):=di [de P "__module__" 870 gh,de P "__firstlineno__" 874 (.int 278 873),dr P "__init__" 882 495,dr P "days" 891 502,dr P "told" 898 509,dr P "__static_attributes__" 900 510,de P "__doc__" 901 .none] 2
def JF:Obj:=⟨(.type "type"),none,(.cls ⟨"Near",[(r 410)],[(r 512),(r 410),(.type "object")],511,"Near",true,[],[],false,none,false⟩),#[(some (r 482)),none,(some (.str "Near" 863)),(some (.str "Near" 871)),(some (.builtin "object.__new__")),(some (.bool true))]⟩
def Mp:=su 512 512 512
def YW:=bm "object.__init_subclass__" (r 512)
def Yp(P:Params):=di [de P "__module__" 911 gh,de P "__qualname__" 913 (.str "LastWork" 912),de P "__firstlineno__" 915 (.int 290 914),dr P "days" 924 528,dr P "told" 931 535,dr P "__static_attributes__" 932 536] 6
def J2:=fD 4 [(292,527),(295,534)]
def WJ:=cK "LastWork" "LastWork" 906 290 518 909
def VL:=fr 520 517 gh
def YH:=tS 919 ["self","last","first"]
def aUI:=fT "days" "LastWork.days" (ib (tp 87) 0) (ib (tp 86) 1)
def Oq:=cO "days" "LastWork.days" 916 292 3 3 522 922
def ZE:=fS "days" "LastWork.days" (ib (tp 87) 0) (ib (tp 86) 1) gh 527
def Q7:=tS 928 ["self"]
def TH:=fT "told" "LastWork.told" (ib (tp 87) 1) (ib (tp 83) 1)
def Kv:=cO "told" "LastWork.told" 925 295 1 3 529 929
def SU:=fS "told" "LastWork.told" (ib (tp 87) 1) (ib (tp 83) 1) gh 534
def QO(P:Params):=di [de P "__module__" 911 gh,de P "__firstlineno__" 915 (.int 290 914),dr P "days" 924 528,dr P "told" 931 535,dr P "__static_attributes__" 932 536,de P "__doc__" 933 .none] 2
def Yz:Obj:=⟨(.type "type"),none,(.cls ⟨"LastWork",[(r 410)],[(r 538),(r 410),(.type "object")],537,"LastWork",true,[],[],false,none,false⟩),#[(some (r 515)),none,(some (.str "LastWork" 904)),(some (.str "LastWork" 912)),(some (.builtin "object.__new__")),(some (.bool true))]⟩
def Vk:=su 538 538 538
def UW:=bm "object.__init_subclass__" (r 538)
def SC(P:Params):=di [de P "__module__" 943 gh,de P "__qualname__" 945 (.str "Weekdays" 944),de P "__firstlineno__" 947 (.int 297 946),dr P "__init__" 955 554,dr P "days" 966 561,dr P "told" 973 568,dr P "__static_attributes__" 975 569] 7
def HJ:=fD 4 [(299,553),(302,560),(308,567)]
def Jj:=cK "Weekdays" "Weekdays" 938 297 544 941
def Hv:=fr 546 543 gh
def KG:=tS 951 ["self","mask"]
def Zx:=fT "__init__" "Weekdays.__init__" (ib (tp 88) 0) (ib (tp 84) 0)
def WA:=cO "__init__" "Weekdays.__init__" 948 299 2 3 548 953
def QY:=fS "__init__" "Weekdays.__init__" (ib (tp 88) 0) (ib (tp 84) 0) gh 553
def X9:=tS 959 ["self","last","first","weeks","week"]
def HW:=fz "days" "Weekdays.days" (ib (tp 88) 1)
def Nb:=cO "days" "Weekdays.days" 956 302 3 3 555 964
def JJ:=fQ "days" "Weekdays.days" (ib (tp 88) 1) gh 560
def RA:=tS 970 ["self"]
def Vy:=fT "told" "Weekdays.told" (ib (tp 88) 2) (ib (tp 84) 2)
def Vm:=cO "told" "Weekdays.told" 967 308 1 3 562 971
def Vq:=fS "told" "Weekdays.told" (ib (tp 88) 2) (ib (tp 84) 2) gh 567
def NQ:=tS 974 ["mask"]
def Ke(P:Params):=di [de P "__module__" 943 gh,de P "__firstlineno__" 947 (.int 297 946),dr P "__init__" 955 554,dr P "days" 966 561,dr P "told" 973 568,dr P "__static_attributes__" 975 569,de P "__doc__" 976 .none] 2
def aQD:Obj:=⟨(.type "type"),none,(.cls ⟨"Weekdays",[(r 410)],[(r 571),(r 410),(.type "object")],570,"Weekdays",true,[],[],false,none,false⟩),#[(some (r 541)),none,(some (.str "Weekdays" 936)),(some (.str "Weekdays" 944)),(some (.builtin "object.__new__")),(some (.bool true))]⟩
def ZF:=su 571 571 571
def Q3:=bm "object.__init_subclass__" (r 571)
def Je(P:Params):=di [de P "__module__" 986 gh,de P "__qualname__" 988 (.str "Nth" 987),de P "__firstlineno__" 990 (.int 310 989),dr P "__init__" 999 587,dr P "days" 1009 594,dr P "told" 1016 601,dr P "__static_attributes__" 1019 602] 7
def SD:=fD 4 [(312,586),(316,593),(322,600)]
def XZ:=cK "Nth" "Nth" 981 310 577 984
def Ry:=fr 579 576 gh
def RX:=tS 994 ["self","weekday","many"]
def Xi:=fz "__init__" "Nth.__init__" (ib (tp 89) 0)
def VX:=cO "__init__" "Nth.__init__" 991 312 3 3 581 997
def JD:=fQ "__init__" "Nth.__init__" (ib (tp 89) 0) gh 586
def Z1:=tS 1003 ["self","last","first","day"]
def Zb:=fz "days" "Nth.days" (ib (tp 89) 1)
def IH:=cO "days" "Nth.days" 1000 316 3 3 588 1007
def P3:=fQ "days" "Nth.days" (ib (tp 89) 1) gh 593
def MW:=tS 1013 ["self"]
def Tu:=fT "told" "Nth.told" (ib (tp 89) 2) (ib (tp 85) 2)
def Tb:=cO "told" "Nth.told" 1010 322 1 3 595 1014
def Vc:=fS "told" "Nth.told" (ib (tp 89) 2) (ib (tp 85) 2) gh 600
def R8:=tS 1017 ["many","weekday"]
def VS(P:Params):=di [de P "__module__" 986 gh,de P "__firstlineno__" 990 (.int 310 989),dr P "__init__" 999 587,dr P "days" 1009 594,dr P "told" 1016 601,dr P "__static_attributes__" 1019 602,de P "__doc__" 1020 .none] 2
def Ni:Obj:=⟨(.type "type"),none,(.cls ⟨"Nth",[(r 410)],[(r 604),(r 410),(.type "object")],603,"Nth",true,[],[],false,none,false⟩),#[(some (r 574)),none,(some (.str "Nth" 979)),(some (.str "Nth" 987)),(some (.builtin "object.__new__")),(some (.bool true))]⟩
def QR:=su 604 604 604
def T9:=bm "object.__init_subclass__" (r 604)
def Q8(P:Params):=di [de P "__module__" 1030 gh,de P "__qualname__" 1032 (.str "LastOne" 1031),de P "__firstlineno__" 1034 (.int 324 1033),dr P "__init__" 1042 620,dr P "days" 1051 627,dr P "told" 1058 634,dr P "__static_attributes__" 1060 635] 7
def Ms:=fD 4 [(326,619),(329,626),(332,633)]
def aR6:=cK "LastOne" "LastOne" 1025 324 610 1028
def PU:=fr 612 609 gh
def SR:=tS 1038 ["self","weekday"]
def S7:=fz "__init__" "LastOne.__init__" (ib (tp 90) 0)
def aQ8:=cO "__init__" "LastOne.__init__" 1035 326 2 3 614 1040
def PM:=fQ "__init__" "LastOne.__init__" (ib (tp 90) 0) gh 619
def Xl:=tS 1046 ["self","last","first"]
def Yi:=fz "days" "LastOne.days" (ib (tp 90) 1)
def JA:=cO "days" "LastOne.days" 1043 329 3 3 621 1049
def O0:=fQ "days" "LastOne.days" (ib (tp 90) 1) gh 626
def Og:=tS 1055 ["self"]
def KZ:=fT "told" "LastOne.told" (ib (tp 90) 2) (ib (tp 85) 2)
def aTC:=cO "told" "LastOne.told" 1052 332 1 3 628 1056
def Zd:=fS "told" "LastOne.told" (ib (tp 90) 2) (ib (tp 85) 2) gh 633
def TV:=tS 1059 ["weekday"]
def Xe(P:Params):=di [de P "__module__" 1030 gh,de P "__firstlineno__" 1034 (.int 324 1033),dr P "__init__" 1042 620,dr P "days" 1051 627,dr P "told" 1058 634,dr P "__static_attributes__" 1060 635,de P "__doc__" 1061 .none] 2
def QQ:Obj:=⟨(.type "type"),none,(.cls ⟨"LastOne",[(r 410)],[(r 637),(r 410),(.type "object")],636,"LastOne",true,[],[],false,none,false⟩),#[(some (r 607)),none,(some (.str "LastOne" 1023)),(some (.str "LastOne" 1031)),(some (.builtin "object.__new__")),(some (.bool true))]⟩
def aL6:=su 637 637 637
def Hx:=bm "object.__init_subclass__" (r 637)
def lM(P:Params)(x0 x1:Obj):List Obj:=[(boot_o_0 P),(boot_o_1 P),(boot_o_2 P),x0,(boot_o_4 P),(boot_o_5 P),(boot_o_6 P),(boot_o_7 P),(boot_o_8 P),(boot_o_9 P),(boot_o_10 P),o0,x1,o2,o3,o0,o1,o6,o0,o7,o8,o9,M7,ky,(Q0 P),o0,o1,VH,IS,o0,(KL P),ID,NT,IK,Pu,uV,ky,(Nx P),o0,o1,o22,Kf,o0,(Wa P),Jb,NP,Nk,uV,ky,(Qu P),o0,Xq,Qc,Zj,o0,o1,Qk,o0,Wm,WL,o35,KC,(Ob P),Ku,Ys,Z6,uV,ky,(o41 P),o0,YZ,V9,Ww,o0,o1,HH,o0,Od,Z5,KO,I8,(Li P),o51,Wp,ZI,o0,o1,S8,o0,YX,TL,LK,Iw,o0,o1,Pl,o0,MA,LC,HP,o0,o1,Vh,o0,ND,QP,Ks,o0,o1,S4,o0,IU,Ts,Ox,o0,o1,Vf,o0,OQ,II,XQ,o0,o1,R3,o0,XY,L0,Ym,o0,o1,UX,WH,OG,o0,o1,PQ,o0,Si,Th,OM,o0,o1,O7,o0,OB,MI,o89,o0,o1,O3,o0,WB,V0,Mj,o0,o1,ON,Hu,Tj,o0,o1,SA,o0,K7,Wg,PV,o0,o1,Lu,o0,Pz,KF,Wz,o0,o1,V5,o0,Wb,Xg,Sl,o0,o1,Jq,o0,aOO,aQ2,Rh,o0,o1,Jt,o0,Md,Wu,ZV,o0,o1,ZM,o0,Sx,JU,Mm,o0,o1,Kt,o0,Lh,PK,Ip,o0,o1,Wh,o0,MH,TZ,Yc,o0,o1,N7,Mt,WF,o0,o1,Xs,o0,T3,My,IY,o0,o1,YY,LX,Xm,o0,o1,JS,o0,HQ,Ye,Nm,o0,o1,RF,Td,Pa,o0,o1,YR,o0,OJ,Pj,HM,o0,o1,Yw,o0,aPP,Yt,HK,o0,o1,IA,o0,RN,HF,JC,o0,o1,W1,o0,P1,aMI,P7,o0,o1,NX,o0,Oe,aOW,XE,o0,o1,Z7,o0,Sw,Ru,RH,o0,o1,W2,o0,Ir,Zv,SZ,o0,o1,OV,o0,Kh,S5,Sh,o0,o1,LV,aN8,TN,MD,O8,o0,o1,RU,o0,L4,Jn,Pr,o0,o1,Pc,LL,QA,o0,o1,VF,o0,Mh,JB,OK,o0,o1,Ld,o0,aSQ,SY,Jp,o0,o1,ZS,QB,Ml,o0,o1,Rm,o0,aUE,Z9,Iv,o0,o1,Vt,o0,YC,aPY,aQC,o0,o1,VV,o0,aMV,XN,Qn,o0,o1,SQ,o0,YF,aS4,HI,o0,o1,Kz,o0,Zz,PB,aL2,o0,o1,ZR,o0,aNM,Pn,We,o0,o1,VZ,o0,HU,JW,Zo,o0,ky,(RJ P),o0,Ji,Tf,Oo,o0,o1,OO,o0,Iu,IE,Zp,o0,o1,R0,o0,I0,Ju,NZ,o0,(ZX P),VQ,aOX,Wk,Kr,Wr,nP,ky,(HZ P),o0,Qb,NO,NM,o0,o1,Pb,o0,XF,OZ,Rn,o0,o1,VN,o0,XA,aTU,Rw,o0,o1,QN,o0,Zr,R5,Mc,KQ,(Ib P),TR,P5,RT,nP,ky,(Tq P),o0,Vs,LM,QS,Q4,o0,o1,Kg,o0,L8,N5,Nl,o0,o1,X6,o0,KI,Xa,J0,o0,o1,ME,o0,LU,aOB,Re,O6,(ZW P),Nj,S9,Rq,nP,ky,(P8 P),o0,PJ,NH,TF,o0,o1,Ov,o0,Xw,WU,IW,o0,o1,Nt,o0,QC,LD,MY,o0,o1,aUR,o0,MP,WY,Mg,R9,(Qs P),JF,Mp,YW,nP,ky,(Yp P),o0,J2,WJ,VL,o0,o1,YH,o0,aUI,Oq,ZE,o0,o1,Q7,o0,TH,Kv,SU,o0,(QO P),Yz,Vk,UW,nP,ky,(SC P),o0,HJ,Jj,Hv,o0,o1,KG,o0,Zx,WA,QY,o0,o1,X9,o0,HW,Nb,JJ,o0,o1,RA,o0,Vy,Vm,Vq,NQ,(Ke P),aQD,ZF,Q3,nP,ky,(Je P),o0,SD,XZ,Ry,o0,o1,RX,o0,Xi,VX,JD,o0,o1,Z1,o0,Zb,IH,P3,o0,o1,MW,o0,Tu,Tb,Vc,R8,(VS P),Ni,QR,T9,nP,ky,(Q8 P),o0,Ms,aR6,PU,o0,o1,SR,o0,S7,aQ8,PM,o0,o1,Xl,o0,Yi,JA,O0,o0,o1,Og,o0,KZ,aTC,Zd,TV,(Xe P),QQ,aL6,Hx]
def t1(P:Params):BT:=pF 11 (lM P (o4 P) o5)
def s1(w:World)(os:OsState):SharedT:=⟨t1 w.params,640,⟨[],[],[],0,[],[],false,#[],[],0,false,false,false,0,[2000,10,10],false,0,true,[],[],0,false⟩,#[],⟨0,0,0,0⟩,1064,os⟩
def l0:List Stmt:=(bi.drop 0).take 91
theorem r0(w:World)(os:OsState):
  segRunT treeTable pw w 11 an 1 4984 (s0 w os) (piecesOf l0 ev cd ⟨0,0,0,0⟩ bk) =
  some (.next,s1 w os,cd,⟨324,0,333,38⟩):=by kernel_rfl
def yS(P:Params):=di (de P "__name__" 165 hG::(Di P++[dr P "any_days" 1074 646,dr P "read_day_mark" 1083 653,dr P "read_weekday" 1091 660,dr P "read_weekday_mark" 1101 667,dr P "read_items" 1118 674,dr P "read_days" 1126 681,dr P "read_weekdays" 1135 688,de P "MOST_ROW_SIGNS" 1139 (.int 1600 1138),de P "MINUTE" 1141 (.int 0 1140),de P "HOUR" 1143 (.int 1 1142),de P "DAY" 1145 (.int 2 1144),de P "MONTH" 1147 (.int 3 1146),de P "WEEKDAY" 1149 (.int 4 1148),de P "NO_PLACE" 1151 (.int 5 1150),dr P "BOUNDS" 1164 689,dr P "times_of" 1174 699,dr P "days_by" 1186 706,dr P "Row" 1288 784,dr P "read_word" 1297 795,dr P "read_at" 1305 802,dr P "read_row" 1311 807,dr P "_law_cell_at" 1321 814,dr P "_law_stir" 1330 821,dr P "_law_digits" 1341 828,dr P "_law_whole" 1348 835,dr P "_law_item" 1361 842,dr P "_law_numbers" 1378 849,dr P "_law_days" 1398 856,dr P "_law_weekdays" 1404 861,dr P "_law_spec" 1419 868,dr P "_law_near" 1430 875,dr P "_law_marked" 1436 880,dr P "_law_any" 1447 887,dr P "_law_day_held" 1459 894,dr P "_law_start" 1466 901,dr P "_law_last" 1474 908,dr P "_law_date" 1485 915,dr P "_law_told" 1497 922,dr P "_law_word" 1506 929,dr P "_law_moment" 1517 936,dr P "_law_months_shut" 1531 943,dr P "_law_times_shut" 1544 950,dr P "_law_shut" 1556 957,dr P "_law_is_piece" 1563 964,dr P "_law_walked" 1577 971,dr P "_law_never" 1589 978,dr P "_law_right" 1599 985,dr P "law" 1605 990])) 137
def wA:=fD 0 [(1,20),(5,27),(7,40),(9,52),(13,71),(18,90),(24,98),(26,105),(28,112),(31,119),(35,126),(39,131),(44,138),(49,145),(57,152),(61,157),(63,164),(68,171),(75,178),(78,185),(80,192),(86,199),(91,206),(93,213),(95,218),(98,225),(103,230),(105,237),(109,242),(112,249),(117,256),(124,263),(130,270),(142,277),(147,284),(151,291),(154,298),(165,305),(174,312),(179,317),(181,324),(183,331),(190,336),(197,343),(204,350),(212,357),(234,364),(236,371),(238,378),(245,385),(247,392),(254,420),(264,453),(278,487),(290,520),(297,546),(310,579),(324,612),(334,645),(339,652),(351,659),(354,666),(366,673),(384,680),(391,687),(408,698),(413,705),(421,712),(472,794),(479,801),(484,806),(492,813),(496,820),(500,827),(511,834),(513,841),(529,848),(539,855),(560,860),(577,867),(593,874),(599,879),(615,886),(620,893),(630,900),(632,907),(636,914),(650,921),(657,928),(666,935),(673,942),(681,949),(691,956),(702,963),(706,970),(717,977),(728,984),(736,989)]
def xl:=tS 1067 ["marks","last","first","mask","mark"]
def xV:=fY "any_days" 91
def vM:=cP "any_days" 1064 334 3 3 640 1072
def yl:=fP "any_days" 91 gh 645
def uc:=tS 1078 ["item","back","day"]
def um:=fY "read_day_mark" 92
def A5:=cP "read_day_mark" 1075 339 1 3 647 1081
def AL:=fP "read_day_mark" 92 gh 652
def vf:=tS 1087 ["text","number"]
def wZ:=fY "read_weekday" 93
def wa:=cP "read_weekday" 1084 351 1 3 654 1089
def uq:=fP "read_weekday" 93 gh 659
def w6:=tS 1095 ["item","weekday","parts","many"]
def vO:=fY "read_weekday_mark" 94
def zq:=cP "read_weekday_mark" 1092 354 1 3 661 1099
def vF:=fP "read_weekday_mark" 94 gh 666
def yK:=tS 1105 ["text","low","high","read_mark","items","mask","marks","place","item","plain","mark"]
def AH:=fY "read_items" 95
def zT:=cP "read_items" 1102 366 4 3 668 1116
def Au:=fP "read_items" 95 gh 673
def uk:=tS 1122 ["text","read"]
def ul:=fY "read_days" 96
def uY:=cP "read_days" 1119 384 1 3 675 1124
def wU:=fP "read_days" 96 gh 680
def zx:=tS 1130 ["text","read","mask"]
def Aq:=fY "read_weekdays" 97
def yR:=cP "read_weekdays" 1127 391 1 3 682 1133
def wI:=fP "read_weekdays" 97 gh 687
def uL:=di [⟨0,(.int 0 1152),(r 690)⟩,⟨1,(.int 1 1155),(r 691)⟩,⟨3,(.int 3 1158),(r 692)⟩] 3
def AO:=tu [(.int 0 1153),(.int 59 1154)]
def Ao:=tu [(.int 0 1156),(.int 23 1157)]
def zQ:=tu [(.int 1 1159),(.int 12 1160)]
def wC:=tS 1168 ["hours","minutes","times","hour"]
def zt:=fY "times_of" 107
def Bb:=cP "times_of" 1165 408 2 3 693 1172
def yj:=fP "times_of" 107 ja 698
def tQ:=tS 1178 ["days","weekdays","last","first","mask","marks"]
def Az:=fY "days_by" 108
def Am:=cP "days_by" 1175 413 4 3 700 1184
def xY:=fP "days_by" 108 ja 705
def ut(P:Params):=di [de P "__module__" 1194 ja,de P "__qualname__" 1196 (.str "Row" 1195),de P "__firstlineno__" 1198 (.int 421 1197),dr P "__init__" 1206 720,dr P "minutes" 1213 727,dr P "hours" 1220 734,dr P "months" 1227 741,dr P "times" 1234 748,dr P "days_in" 1243 755,dr P "on_days" 1249 760,dr P "holds" 1257 767,dr P "shut_by" 1267 774,dr P "shown" 1274 781,dr P "__static_attributes__" 1281 782] 14
def yT:=fD 4 [(423,719),(431,726),(434,733),(437,740),(440,747),(443,754),(449,759),(454,766),(457,773),(470,780)]
def ze:=cK "Row" "Row" 1189 421 710 1192
def yh:=fr 712 709 ja
def AJ:=tS 1202 ["self","fields"]
def yD:=fz "__init__" "Row.__init__" (ib (tp 109) 0)
def xx:=cO "__init__" "Row.__init__" 1199 423 2 3 714 1204
def Ax:=fQ "__init__" "Row.__init__" (ib (tp 109) 0) ja 719
def y9:=tS 1210 ["self"]
def ua:=fT "minutes" "Row.minutes" (ib (tp 109) 1) (ib (tp 83) 1)
def yL:=cO "minutes" "Row.minutes" 1207 431 1 3 721 1211
def wb:=fS "minutes" "Row.minutes" (ib (tp 109) 1) (ib (tp 83) 1) ja 726
def Ag:=tS 1217 ["self"]
def uf:=fT "hours" "Row.hours" (ib (tp 109) 2) (ib (tp 83) 1)
def zV:=cO "hours" "Row.hours" 1214 434 1 3 728 1218
def u9:=fS "hours" "Row.hours" (ib (tp 109) 2) (ib (tp 83) 1) ja 733
def zi:=tS 1224 ["self"]
def yu:=fz "months" "Row.months" (ib (tp 109) 3)
def zg:=cO "months" "Row.months" 1221 437 1 3 735 1225
def vk:=fQ "months" "Row.months" (ib (tp 109) 3) ja 740
def yA:=tS 1231 ["self"]
def A0:=fT "times" "Row.times" (ib (tp 109) 4) (ib (tp 83) 1)
def xE:=cO "times" "Row.times" 1228 440 1 3 742 1232
def tP:=fS "times" "Row.times" (ib (tp 109) 4) (ib (tp 83) 1) ja 747
def uh:=tS 1238 ["self","kind","month"]
def xB:=fz "days_in" "Row.days_in" (ib (tp 109) 5)
def tK:=cO "days_in" "Row.days_in" 1235 443 2 3 749 1241
def yt:=fQ "days_in" "Row.days_in" (ib (tp 109) 5) ja 754
def yE:=fz "on_days" "Row.on_days" (ib (tp 109) 6)
def Ac:=co [(.str "on_days" 1244),(.str "Row.on_days" 1245),(sf 1246),(i 449),(i 2),(i 0),(i 0),(i 3),(r 756),(.bool true),(i 181),(r 757),.none,.none,.none,(r 758),(i 1247),(i 449),(sf 1248)]
def uN:=fQ "on_days" "Row.on_days" (ib (tp 109) 6) ja 759
def uG:=tS 1253 ["self","moment"]
def tI:=fz "holds" "Row.holds" (ib (tp 109) 7)
def xj:=cO "holds" "Row.holds" 1250 454 2 3 761 1255
def ve:=fQ "holds" "Row.holds" (ib (tp 109) 7) ja 766
def wL:=tS 1261 ["self","moment","parts","date"]
def zf:=fz "shut_by" "Row.shut_by" (ib (tp 109) 8)
def zu:=cO "shut_by" "Row.shut_by" 1258 457 2 3 768 1265
def Bc:=fQ "shut_by" "Row.shut_by" (ib (tp 109) 8) ja 773
def vi:=tS 1271 ["self"]
def xC:=fT "shown" "Row.shown" (ib (tp 109) 9) (ib (tp 109) 3)
def zN:=cO "shown" "Row.shown" 1268 470 1 3 775 1272
def vY:=fS "shown" "Row.shown" (ib (tp 109) 9) (ib (tp 109) 3) ja 780
def AI:=tS 1275 ["day_marks","hour_mask","minute_mask","month_mask","time_mask","weekday_marks"]
def yg(P:Params):=di [de P "__module__" 1194 ja,de P "__firstlineno__" 1198 (.int 421 1197),dr P "__init__" 1206 720,dr P "minutes" 1213 727,dr P "hours" 1220 734,dr P "months" 1227 741,dr P "times" 1234 748,dr P "days_in" 1243 755,dr P "on_days" 1249 760,dr P "holds" 1257 767,dr P "shut_by" 1267 774,dr P "shown" 1274 781,dr P "__static_attributes__" 1281 782,dr P "__dict__" 1283 785,dr P "__weakref__" 1285 786,de P "__doc__" 1286 .none] 4
def Al:Obj:=⟨(.type "type"),none,(.cls ⟨"Row",[(.type "object")],[(r 784),(.type "object")],783,"Row",true,[],[],false,none,false⟩),#[none,none,(some (.str "Row" 1187)),(some (.str "Row" 1195)),(some (.builtin "object.__new__")),(some (.bool true))]⟩
def vT:Obj:=⟨(.type "getset_descriptor"),none,(.fields #[(.str "__dict__" 1282),(r 784),(.builtin "function.__dict__"),(.builtin "function.__dict__#set")]),#[]⟩
def wF:Obj:=⟨(.type "getset_descriptor"),none,(.fields #[(.str "__weakref__" 1284),(r 784),(.builtin "ExceptionGroup.__weakref__"),.none]),#[]⟩
def vm:=su 784 784 784
def xA:=bm "object.__init_subclass__" (r 784)
def vG:=tS 1292 ["word","place","bounds"]
def yi:=fY "read_word" 110
def x8:=cP "read_word" 1289 472 2 3 789 1295
def ub:=fP "read_word" 110 ja 794
def xg:=tS 1301 ["word","place"]
def uT:=fY "read_at" 111
def xO:=cP "read_at" 1298 479 2 3 796 1303
def uH:=fP "read_at" 111 ja 801
def A4:=fY "read_row" 112
def zK:=co [(.str "read_row" 1306),(.str "read_row" 1307),(sf 1308),(i 484),(i 1),(i 0),(i 0),(i 3),(r 803),(.bool true),(i 181),(r 804),.none,.none,.none,(r 805),(i 1309),(i 484),(sf 1310)]
def wM:=fP "read_row" 112 ja 806
def ud:=tS 1317 ["_law_script","_law_k"]
def wG:=fY "_law_cell_at" 114
def yk:=cP "_law_cell_at" 1314 492 2 3 808 1319
def Aa:=fP "_law_cell_at" 114 hG 813
def za:=tS 1325 ["_law_number","_law_first","_law_second"]
def tJ:=fY "_law_stir" 115
def zC:=cP "_law_stir" 1322 496 1 3 815 1328
def AR:=fP "_law_stir" 115 hG 820
def yN:=tS 1334 ["_law_cell","_law_sizes","_law_mixed","_law_found","_law_size"]
def A9:=fY "_law_digits" 116
def xq:=cP "_law_digits" 1331 500 3 3 822 1339
def uy:=fP "_law_digits" 116 hG 827
def vd:=tS 1345 ["_law_found"]
def tZ:=fY "_law_whole" 117
def uR:=cP "_law_whole" 1342 511 1 3 829 1346
def zc:=fP "_law_whole" 117 hG 834
def xf:=tS 1352 ["_law_parts","_law_low","_law_high","_law_form","_law_one","_law_later","_law_by"]
def wx:=fY "_law_item" 118
def uv:=cP "_law_item" 1349 513 3 3 836 1359
def uM:=fP "_law_item" 118 hG 841
def tO:=tS 1365 ["_law_cell","_law_low","_law_high","_law_mixed","_law_size","_law_drawn","_law_texts","_law_numbers_here","_law_k","_law_text","_law_some"]
def xb:=fY "_law_numbers" 119
def zD:=cP "_law_numbers" 1362 529 4 3 843 1376
def xN:=fP "_law_numbers" 119 hG 848
def ya:=tS 1382 ["_law_cell","_law_mixed","_law_drawn","_law_texts","_law_marks","_law_k","_law_sort","_law_form","_law_one","_law_later","_law_by","_law_text","_law_some","_law_mark"]
def Av:=fY "_law_days" 120
def wH:=cP "_law_days" 1379 539 2 3 850 1396
def wl:=fP "_law_days" 120 hG 855
def uw:=fY "_law_weekdays" 121
def yc:=co [(.str "_law_weekdays" 1399),(.str "_law_weekdays" 1400),(sf 1401),(i 560),(i 2),(i 0),(i 0),(i 3),(r 857),(.bool true),(i 181),(r 858),.none,.none,.none,(r 859),(i 1402),(i 560),(sf 1403)]
def AN:=fP "_law_weekdays" 121 hG 860
def wz:=tS 1408 ["_law_cells","_law_mixed","_law_minutes","_law_hours","_law_days_here","_law_months","_law_weekdays_here","_law_rare","_law_text"]
def zF:=fY "_law_spec" 122
def uz:=cP "_law_spec" 1405 577 2 3 862 1417
def Aw:=fP "_law_spec" 122 hG 867
def vA:=tS 1423 ["_law_day","_law_last_here","_law_first","_law_gap","_law_one"]
def Ad:=fY "_law_near" 123
def xJ:=cP "_law_near" 1420 593 3 3 869 1428
def zS:=fP "_law_near" 123 hG 874
def yI:=fY "_law_marked" 124
def yC:=co [(.str "_law_marked" 1431),(.str "_law_marked" 1432),(sf 1433),(i 599),(i 4),(i 0),(i 0),(i 3),(r 876),(.bool true),(i 181),(r 877),.none,.none,.none,(r 878),(i 1434),(i 599),(sf 1435)]
def vD:=fP "_law_marked" 124 hG 879
def yw:=tS 1440 ["_law_marks","_law_day","_law_last_here","_law_first","_law_mark"]
def ue:=fY "_law_any" 125
def AB:=cP "_law_any" 1437 615 4 3 881 1445
def xQ:=fP "_law_any" 125 hG 886
def vv:=tS 1451 ["_law_spec_here","_law_day","_law_last_here","_law_first","_law_days_here","_law_weekdays_here"]
def zl:=fY "_law_day_held" 126
def zb:=cP "_law_day_held" 1448 620 4 3 888 1457
def xk:=fP "_law_day_held" 126 hG 893
def wO:=tS 1463 ["_law_year"]
def uB:=fY "_law_start" 127
def xI:=cP "_law_start" 1460 630 1 3 895 1464
def ug:=fP "_law_start" 127 hG 900
def yM:=tS 1470 ["_law_year","_law_month"]
def vS:=fY "_law_last" 128
def Ap:=cP "_law_last" 1467 632 2 3 902 1472
def zX:=fP "_law_last" 128 hG 907
def vN:=tS 1478 ["_law_number","_law_rounds","_law_left","_law_year","_law_month"]
def wj:=fY "_law_date" 129
def tV:=cP "_law_date" 1475 636 1 3 909 1483
def tR:=fP "_law_date" 129 hG 914
def zI:=tS 1489 ["_law_spec_here","_law_number","_law_month","_law_day","_law_last_here","_law_first"]
def wJ:=fY "_law_told" 130
def yF:=cP "_law_told" 1486 650 2 3 916 1495
def uJ:=fP "_law_told" 130 hG 921
def Ba:=tS 1501 ["_law_spec_here","_law_moment_here","_law_told_here"]
def zG:=fY "_law_word" 131
def xS:=cP "_law_word" 1498 657 2 3 923 1504
def vI:=fP "_law_word" 131 hG 928
def zU:=tS 1510 ["_law_cell","_law_mixed","_law_drawn","_law_year","_law_number"]
def x9:=fY "_law_moment" 132
def xR:=cP "_law_moment" 1507 666 2 3 930 1515
def vb:=fP "_law_moment" 132 hG 935
def zR:=tS 1521 ["_law_spec_here","_law_first","_law_last_here","_law_number","_law_month","_law_day","_law_ends","_law_begins"]
def yz:=fY "_law_months_shut" 133
def xa:=cP "_law_months_shut" 1518 673 3 3 937 1529
def yo:=fP "_law_months_shut" 133 hG 942
def vn:=tS 1535 ["_law_spec_here","_law_first","_law_last_here","_law_word_here","_law_strict","_law_size","_law_at"]
def vW:=fY "_law_times_shut" 134
def AQ:=cP "_law_times_shut" 1532 681 5 3 944 1542
def zA:=fP "_law_times_shut" 134 hG 949
def xW:=tS 1548 ["_law_spec_here","_law_first","_law_last_here","_law_word_here","_law_strict","_law_number"]
def vQ:=fY "_law_shut" 135
def vR:=cP "_law_shut" 1545 691 5 3 951 1554
def vC:=fP "_law_shut" 135 hG 956
def zm:=tS 1560 ["_law_thing"]
def vE:=fY "_law_is_piece" 136
def Ae:=cP "_law_is_piece" 1557 702 1 3 958 1561
def yB:=fP "_law_is_piece" 136 hG 963
def wB:=tS 1567 ["_law_spec_here","_law_begin","_law_end","_law_paper","_law_strict","_law_at","_law_ahead","_law_thing"]
def yP:=fY "_law_walked" 137
def vZ:=cP "_law_walked" 1564 706 5 3 965 1575
def tX:=fP "_law_walked" 137 hG 970
def yV:=tS 1581 ["_law_spec_here","_law_month","_law_ends","_law_last_here","_law_first","_law_day"]
def tM:=fY "_law_never" 138
def ux:=cP "_law_never" 1578 717 1 3 972 1587
def zM:=fP "_law_never" 138 hG 977
def y0:=tS 1593 ["_law_spec_here","_law_moment_here","_law_found","_law_paper"]
def yy:=fY "_law_right" 139
def wg:=cP "_law_right" 1590 728 4 3 979 1597
def yJ:=fP "_law_right" 139 hG 984
def vB:=fY "law" 140
def wf:=co [(.str "law" 1600),(.str "law" 1601),(sf 1602),(i 736),(i 1),(i 0),(i 0),(i 3),(r 986),(.bool true),(i 181),(r 987),.none,.none,.none,(r 988),(i 1603),(i 736),(sf 1604)]
def xh:=fP "law" 140 hG 989
def hL(P:Params):List Obj:=lM P (yS P) wA++[o0,o1,xl,o0,xV,vM,yl,o0,o1,uc,o0,um,A5,AL,o0,o1,vf,o0,wZ,wa,uq,o0,o1,w6,o0,vO,zq,vF,o0,o1,yK,o0,AH,zT,Au,o0,o1,uk,o0,ul,uY,wU,o0,o1,zx,o0,Aq,yR,wI,uL,AO,Ao,zQ,o0,o1,wC,o0,zt,Bb,yj,o0,o1,tQ,o0,Az,Am,xY,o0,ky,(ut P),o0,yT,ze,yh,o0,o1,AJ,o0,yD,xx,Ax,o0,o1,y9,o0,ua,yL,wb,o0,o1,Ag,o0,uf,zV,u9,o0,o1,zi,o0,yu,zg,vk,o0,o1,yA,o0,A0,xE,tP,o0,o1,uh,o0,xB,tK,yt,o0,o1,yE,Ac,uN,o0,o1,uG,o0,tI,xj,ve,o0,o1,wL,o0,zf,zu,Bc,o0,o1,vi,o0,xC,zN,vY,AI,(yg P),Al,vT,wF,vm,xA,o0,o1,vG,o0,yi,x8,ub,o0,o1,xg,o0,uT,xO,uH,o0,o1,A4,zK,wM,o0,o1,ud,o0,wG,yk,Aa,o0,o1,za,o0,tJ,zC,AR,o0,o1,yN,o0,A9,xq,uy,o0,o1,vd,o0,tZ,uR,zc,o0,o1,xf,o0,wx,uv,uM,o0,o1,tO,o0,xb,zD,xN,o0,o1,ya,o0,Av,wH,wl,o0,o1,uw,yc,AN,o0,o1,wz,o0,zF,uz,Aw,o0,o1,vA,o0,Ad,xJ,zS,o0,o1,yI,yC,vD,o0,o1,yw,o0,ue,AB,xQ,o0,o1,vv,o0,zl,zb,xk,o0,o1,wO,o0,uB,xI,ug,o0,o1,yM,o0,vS,Ap,zX,o0,o1,vN,o0,wj,tV,tR,o0,o1,zI,o0,wJ,yF,uJ,o0,o1,Ba,o0,zG,xS,vI,o0,o1,zU,o0,x9,xR,vb,o0,o1,zR,o0,yz,xa,yo,o0,o1,vn,o0,vW,AQ,zA,o0,o1,xW,o0,vQ,vR,vC,o0,o1,zm,o0,vE,Ae,yB,o0,o1,wB,o0,yP,vZ,tX,o0,o1,yV,o0,tM,ux,zM,o0,o1,y0,o0,yy,wg,yJ,o0,o1,vB,wf,xh]
def t2(P:Params):BT:=pF 11 (hL P)
def s2(w:World)(os:OsState):SharedT:=⟨t2 w.params,991,⟨[],[],[],0,[],[],false,#[],[],0,false,false,false,0,[2000,10,10],false,0,true,[],[],0,false⟩,#[],⟨0,0,0,0⟩,1606,os⟩
def l1:List Stmt:=(bi.drop 91).take 50
theorem r1(w:World)(os:OsState):
  segRunT treeTable pw w 11 an 1 1908 (s1 w os) (piecesOf l1 ev cd ⟨324,0,333,38⟩ bk) =
  some (.next,s2 w os,cd,⟨736,0,747,15⟩):=
 byRow2 "special-get-raises" (P:=fun w=>segRunT treeTable pw w 11 an 1 1908 (s1 w os) (piecesOf l1 ev cd ⟨324,0,333,38⟩ bk)=some (.next,s2 w os,cd,⟨736,0,747,15⟩)) (fun w=>by kernel_rfl) (fun w=>by kernel_rfl) w
def hF(P:Params):Heap:=⟨⟨hL P⟩,⟨[],[],[],0,[],[],false,#[],[],0,false,false,false,0,[2000,10,10],false,0,true,[],[],0,false⟩⟩
def sF(w:World)(os:OsState):Shared:=⟨hF w.params,#[],⟨0,0,0,0⟩,1606,os⟩
theorem fZ(w:World)(os:OsState):
  topRun treeTable pw w 11 an 2 (s2 w os).abs (restOf [] ev cd ⟨736,0,747,15⟩ bk) =
  some (sF w os):=by kernel_rfl
theorem Tv:bi=(l0++(l1++[])):=by kernel_rfl
theorem run(w:World)(os:OsState):topRun treeTable pw w 11 an (12+(1+(4984+(1908+(2))))) ⟨boot_heap w.params,⟨[]⟩,boot_drawn,boot_toks,os⟩ (topStub pw)=some (sF w os):=by
 refine go_top (pre w os) (piece_block (Rv w os) ?_)
 rw[Tv]
 exact (piece_app (segRun_of (r0 w os)) (piece_app (segRun_of (r1 w os)) (fZ w os)))
theorem R1:∀w:World,(fencedOpening treeTable pw w 13906).map (fun s=>(s.heap,s.gens,s.drawn,s.toks))=some (boot_heap w.params,⟨[]⟩,boot_drawn,boot_toks):=
 boot_open (by kernel_rfl) rfl (fun s=>by kernel_rfl)
theorem Xn(w:World):((boot_heap w.params).isNs mainGlobals&&(⟨[]⟩:Array GenState).size==0,(boot_heap w.params).objs.size,(boot_heap w.params).nsMap mainGlobals "__annotations__")=(true,11,an):=by kernel_rfl
end
end
theorem WO{q:Program}{loose mods:List Str}{Xt:Shared->Bool}{s:Shared}
  (e1:seen ((recsOf q).map (·.name)) (ownsOf q) [] {s with gens:= #[]}=expectedOf q) (e2:s.heap.bltView=bltViewBooted)
  (a1:s.heap.keysOk (looseW q loose) ((recsOf q).map (·.name)) ((litsOf q).map (·.1)) ((clssOf q (looseW q loose)).map (·.name))=true)
  (a2:s.heap.accountedOkI mods=true) (a3:s.heap.isNs mainGlobals=true) (a4:s.heap.isNs builtinsNs=true)
  (a5:tablesOk q s.heap=true) (a6:Xt s=true) (a7:(s.gens.size==0)=true) (e4:tabsOk q s=true)
  (e5:pinSeenD q (drecsOf q) s=pinGoodD (drecsOf q)) (e6:plainSeenE q (looseW q loose) s=plainGoodE q (looseW q loose))
  (e7:plainSeenD q loose s=plainGoodD q loose) (e8:wideSeen q s=wideGood q) (e9:clsSeenW q loose s=clsGoodW q loose):
  openSeen q loose mods Xt true s=openGood q loose:=by
 unfold openSeen openGood
 rw[e1,e2,a1,a2,a3,a4,a5,a6,if_pos rfl,a7,e4,e5,e6,e7,e8,e9];rfl
theorem Jx{α:Type}(n:Nat){l r:List α}(h1:l.take n=r.take n)(h2:l.drop n=r.drop n):l=r:=by
 rw[←List.take_append_drop n l,h1,h2,List.take_append_drop]
noncomputable def gA:Program:=view PySem.Challenge.pw_fivefields_k52_last_walked [0,2,3,4,5,7,9,10,11,12,13,14,15,16,17,18,19,20,22,23,24,26,27,28,30,31,32,33,34,35,36,38,39,40,41,42,43,44,46,47,48,49,51,52,53,54,55,56,57,59,60,61,62,63,64,65,66,67,68,69,71,72,73,74,75,76,77,78,79,80,81,82,83,84,85,86,87,88,89,90,91,92,93,94,95,96,97,99,100,101,102,103,104,105,106,107,108,109,110,111,112,114,115,116,117,118,119,120,121,122,123,124,125,126,127,128,129,130,131,132,133,134,135,136,137,138,139,140]
noncomputable def free:List Str:=[Str.ofString "Last",Str.ofString "BOUNDS"]
noncomputable def read:List (Str×WData):=[]
section
set_option maxHeartbeats 0
set_option maxRecDepth 100000
noncomputable section
def XT:Shared->Bool:=fun z=>xlAt gA read z&&recOk (RowW.records (OpenRow.toRowW (OpenLaw.row PySem.Challenge.rw_fivefields_k52_last_walked))) z
abbrev SE(w:World)(os:OsState):=openSeen gA free (importedModules pw.main.body) XT true (sF w os)
section
variable(w:World)(os:OsState)
theorem z1:seen ((recsOf gA).map (·.name)) (ownsOf gA) [] {sF w os with gens:= #[]}=expectedOf gA:=by kernel_rfl
theorem z2:(sF w os).heap.bltView=bltViewBooted:=by kernel_rfl
theorem y1:(sF w os).heap.keysOk (looseW gA free) ((recsOf gA).map (·.name)) ((litsOf gA).map (·.1)) ((clssOf gA (looseW gA free)).map (·.name))=true:=by kernel_rfl
theorem y2:(sF w os).heap.accountedOkI (importedModules pw.main.body)=true:=by kernel_rfl
theorem y3:(sF w os).heap.isNs mainGlobals=true:=by kernel_rfl
theorem y4:(sF w os).heap.isNs builtinsNs=true:=by kernel_rfl
theorem y5:tablesOk gA (sF w os).heap=true:=by kernel_rfl
theorem y6:XT (sF w os)=true:=by kernel_rfl
theorem y7:((sF w os).gens.size==0)=true:=by kernel_rfl
theorem z4:tabsOk gA (sF w os)=true:=by kernel_rfl
theorem z5:pinSeenD gA (drecsOf gA) (sF w os)=pinGoodD (drecsOf gA):=by kernel_rfl
theorem z6:plainSeenE gA (looseW gA free) (sF w os)=plainGoodE gA (looseW gA free):=by kernel_rfl
theorem z7:plainSeenD gA free (sF w os)=plainGoodD gA free:=by kernel_rfl
theorem z8:wideSeen gA (sF w os)=wideGood gA:=by kernel_rfl
theorem z9:clsSeenW gA free (sF w os)=clsGoodW gA free:=by kernel_rfl
theorem look:SE w os=openGood gA free:=WO (q:=gA) (loose:=free) (mods:=importedModules pw.main.body) (Xt:=XT) (s:=sF w os) (z1 w os) (z2 w os) (y1 w os) (y2 w os) (y3 w os) (y4 w os) (y5 w os) (y6 w os) (y7 w os) (z4 w os) (z5 w os) (z6 w os) (z7 w os) (z8 w os) (z9 w os)
end
theorem NB(w:World)(os:OsState):(staticsOk (importedModules pw.main.body) (boot_heap w.params) (hF w.params)&&namesBound pw (hF w.params)
  &&gensDone (sF w os)&&laidKept (boot_heap w.params) (hF w.params))=true:=by kernel_rfl
section
set_option Elab.async false
local macro_rules
  | `(tactic| o_head $H) => `(tactic| (have kk := $H; assumption))
theorem d0(h:PySem.Challenge.rw_fivefields_k52_last_walked.row.Holds):PySem.Challenge.rw_fivefields_k52_last_walked.row.Holds:=by
 w_on
 k_head
end
theorem kk(w:World)(os:OsState):((d0.heap_1 w.params).map fun p=>p.1).map (sF w os).heap.get? =(d0.heap_1 w.params).map fun p=>some p.2:=by
 iterate 3 (refine Jx 190 ?_ ?_;(· as_aux_lemma=>kernel_rfl))
 as_aux_lemma=>kernel_rfl
abbrev rR:OpenRow:=OpenLaw.row PySem.Challenge.rw_fivefields_k52_last_walked
def as0:List Addr:=(d0.heap_1 {strHash:=fun _=>0,shareClass:=fun _=>0,mergeTok:=fun t=>t,idOf:=fun _=>0,idOfShared:=fun _ _=>0,followText:=fun _=>true,idOfImm:=fun _=>0}).map (·.1)
theorem oh(P:Params):as0=(d0.heap_1 P).map (·.1):=by kernel_rfl
theorem YB:LeftO rR.prog gA free XT (kHook d0.heap_1 as0 oh).obs (kHook d0.heap_1 as0 oh).val 13906:=by
 refine LeftO.of_pieces R1 Xn run rfl ?_
 intro w
 funext os
 refine looks_pair (NB w os) (looks_pair (look w os) ?_)
 show as0.map (sF w os).heap.get? =(d0.heap_1 w.params).map fun p=>some p.2
 rw[oh w.params]
 exact kk w os
theorem dS:(defOf gA rR.name).isSome=true:=by kernel_rfl
def dL:DefRec:=((defOf gA rR.name).get dS).1
theorem h1:defOf gA rR.name=some (dL,[]):=by kernel_rfl
theorem h2:rR.prog.theDef rR.name=some (dL.params,dL.body,dL.scope):=by kernel_rfl
theorem h3:kwWritten? dL.params.kwonlyargs dL.params.kw_defaults=some []:=by kernel_rfl
theorem h4:dL.params.defaults=[]:=by kernel_rfl
theorem h5:dL.name="law":=by kernel_rfl
theorem h6:(!rR.writes||rR.records.isEmpty)=true:=by kernel_rfl
theorem h7:(chainsOk gA&&opensWell rR.prog&&(frees rR.toRowW&&rR.within.isEmpty))=true:=by decide +kernel
theorem h8:rR.prog.bare:=⟨rfl,rfl,rfl,rfl,rfl,by decide +kernel⟩
theorem lst(said:rR.wellSaid=true)(hw:rR.toRowW.promised)
  (hc:WalkO gA free (XL gA read) (kHook d0.heap_1 as0 oh).says rR.toRowW dL [] fun f vs=>PySem.call f vs):rR.Holds:=
 holds_open (q:=gA) (loose:=free) (Xt:=XT) (XP:=XL gA read) YB (kHook d0.heap_1 as0 oh).of (kHook d0.heap_1 as0 oh).keeps
  (fun z y=>xl_of z (Bool.and_eq_true_iff.mp y).1) XL.keeps h1 h2 h3 (fun z y=>recFacts_of (Bool.and_eq_true_iff.mp y).2) h6 said h7 h8 hw hc
theorem BR:((recsOf gA).find? (fun e=>e.name==Str.ofString "last_to")).isSome=true:=by kernel_rfl
theorem V7:(recsOf gA).find? (fun e=>e.name==Str.ofString "last_to")=some (((recsOf gA).find? (fun e=>e.name==Str.ofString "last_to")).get BR):=(Option.some_get BR).symm
theorem au2(P:Params):tabIn (d0.heap_1 P) "last_to"=some (305,301):=by kernel_rfl
theorem WT(P:Params):(d0.heap_1 P).lookup 301=none:=by kernel_rfl
theorem tb(w:World)(h:Heap)(mean:ExcName->Option Value)(mg mb:Str->Option Value)(X:(d0.heap_1 w.params).In h)(T:Top gA (looseW gA free) mean mg mb h):∀b∈[301],(isCodeTable h b/\h.get? b=some (tabObj #[]))/\(d0.heap_1 w.params).lookup b=none:=by
 intro b hb
 simp only[List.mem_cons,List.not_mem_nil,or_false] at hb
 rcases hb with rfl
 ·obtain⟨h1,h2⟩:=tab_of T X V7 (au2 w.params)
  exact⟨⟨(h1.tab h2).isCodeTable,h2⟩,WT w.params⟩
theorem Ou(P:Params):nsIn (d0.heap_1 P) mainGlobals "__builtins__"=some (some (.ref 4)):=by kernel_rfl
theorem T2(P:Params):(d0.heap_1 P).lookup 4=none:=by kernel_rfl
theorem tbm(w:World)(h:Heap)(mg:Str->Option Value)(X:(d0.heap_1 w.params).In h)(G:h.Ns mainGlobals mg):mg "__builtins__"=some (.ref 4)/\(d0.heap_1 w.params).lookup 4=none:=⟨mg_of X G (Ou w.params),T2 w.params⟩
end
end
end Hd
local macro_rules
  | `(⟨$xs,*⟩)=>do
    let s:=xs.getElems
    if s.any (fun y=>match y with|`(())=>true|`((()))=>true|_=>false) then
      let mut z:Array (Lean.TSyntax `term):=#[]
      for y in s do
        match y with
        | `(())=>z:=(z.push (<-`(_))).push (<-`(rfl))
        | `((()))=>z:=(((z.push (<-`(_))).push (<-`(_))).push (<-`(rfl))).push (<-`(rfl))
        | _=>z:=z.push y
      `(⟨$z,*⟩)
    else Lean.Macro.throwUnsupported
local macro_rules
  | `(⋯)=>`(by omega)
local macro_rules
  | `(tactic|trivial)=>`(tactic|(intro _ _ _ _ h;first|(cases h;subst_vars;rfl)|(repeat first|(have e:=h.1;subst e;rfl)|obtain⟨_,h⟩:=h)))
set_option Elab.async false
set_option linter.all false
set_option maxRecDepth 100000
namespace L2
open PySem PySem.Spec PyProof.Rows
abbrev FG:=PySem.W.Frag
abbrev eJ:=@wpAny_passesOwn
abbrev eK:=@wpAny_newObj_type
abbrev eO:=@wpAny_bind
abbrev eP:=@wpAny_mono
abbrev eQ:=@wpAny_setState_of
abbrev eT:=@sizeLine_eq
abbrev eU:=@wpAny_holding
abbrev eV:=@codeAny_mono
abbrev eX:=@of_decide_eq_true
abbrev eY:=@decide_eq_true
abbrev eZ:=@boot_range
abbrev fA:=@decide_eq_true_eq
abbrev fB:=@decide_eq_false
abbrev fC:=@wpAny_Call_Name_kw
abbrev fE:=@wpAny_pure
abbrev fF:=@wpAny_truthy_bool
abbrev aQ:=@Nat.le_refl
abbrev aR:=@List.length_map
abbrev aS:=@Int.le_refl
abbrev aU:=@Heap.get?_push_of_some
abbrev aV:=@Heap.lt_size
abbrev aW:=@Nat.ne_of_lt
abbrev aX:=@List.mem_cons
abbrev aY:=@List.length_append
abbrev aZ:=@Option.some.inj
abbrev a8:=@Bool.false_ne_true
abbrev a9:=@Heap.get?_push_size
abbrev bA:=@Nat.lt_of_lt_of_le
abbrev bB:=@List.map_append
abbrev bC:=@List.getElem?_map
abbrev bD:=@List.mem_map
abbrev bE:=@Bool.and_eq_true
abbrev bF:=@List.mem_cons_self
abbrev bG:=@List.mem_cons_of_mem
abbrev bH:=@List.map_cons
abbrev bI:=@List.size_toArray
abbrev bJ:=@List.mem_singleton
abbrev bK:=@Int.toNat_of_nonneg
abbrev bL:=@Nat.le_trans
abbrev bM:=@Nat.zero_le
abbrev bN:=@Int.le_of_lt
abbrev bO:=@Int.le_trans
abbrev bP:=@List.mem_append
abbrev bQ:=@Int.toNat_natCast
abbrev bR:=@List.any_cons
abbrev bS:=@Array.length_toList
abbrev bU:=@List.mem_of_getElem?
abbrev bV:=@List.all_eq_true
abbrev bW:=@List.getElem?_eq_getElem
abbrev bX:=@List.length_singleton
abbrev bY:=@List.map_map
abbrev bZ:=@List.length_cons
abbrev b8:=@List.take_succ
abbrev b9:=@Int.lt_or_le
abbrev cC:=@List.getElem?_eq_some_iff
abbrev cD:=@List.mem_append_right
abbrev cE:=@Heap.get?_update_other
abbrev cF:=@List.not_mem_nil
abbrev cG:=@Int.emod_nonneg
abbrev cH:=@Int.eq_ofNat_of_zero_le
abbrev cI:=@Array.getElem?_toList
abbrev cJ:=@List.length_range
abbrev cL:=@Nat.lt_or_ge
abbrev cM:=@Bool.and_false
abbrev cN:=@List.any_eq_true
abbrev cQ:=@List.take_length
abbrev cR:=@Nat.lt_irrefl
abbrev cT:=@List.mem_range
abbrev cU:=@List.append_nil
abbrev cV:=@Heap.get?_update_self
abbrev cW:=@Bool.or_eq_true
abbrev cX:=@Array.getElem?_eq_getElem
abbrev cY:=@Bool.true_and
abbrev cZ:=@Bool.false_and
abbrev c8:=@Bool.eq_iff_iff
abbrev c9:=@Heap.size_push
abbrev dA:=@Nat.lt_succ_of_lt
abbrev dB:=@Nat.not_lt_zero
abbrev dC:=@List.any_eq_false
abbrev dD:=@Nat.lt_succ_self
abbrev dE:=@List.length_take
abbrev dF:=@Int.emod_lt_of_pos
abbrev dG:=@Bool.false_or
abbrev dH:=@List.length_drop
abbrev dI:=@List.flatten_cons
abbrev dJ:=@List.pairwise_cons
abbrev dM:=@Nat.eq_of_beq_eq_true
abbrev dN:=@List.filterMap_cons
abbrev dO:=@Int.natCast_nonneg
abbrev dP:=@Option.isSome_iff_exists
abbrev dQ:=@List.length_replicate
abbrev dR:=@List.lookup_cons
abbrev dU:=@Option.map_some
abbrev dW:=@List.find?_cons
abbrev dX:=@List.cons_ne_nil
abbrev dY:=@List.mem_append_left
abbrev dZ:=@List.replicate_succ
abbrev d7:=@List.append_assoc
abbrev d8:=@Nat.lt_of_le_of_lt
abbrev d9:=@List.take_of_length_le
abbrev eC:=@List.getElem?_eq_none
abbrev eE:=@List.filterMap_append
abbrev eF:=@List.getD_eq_getElem?_getD
abbrev eG:=@Array.getElem?_eq_none
noncomputable abbrev gc:=Sum Int Str
noncomputable def oY:gc->Value->Bool
 |.inl k,v=>Value.isInt k v
 |.inr x,v=>Value.isStrOf x v
noncomputable def AC(w:World):gc->Int
 |.inl k=>hashInt k
 |.inr x=>hashStr w x
theorem mh:∀{k:gc} {v:Value},oY k v=true->(∃i t,k=Sum.inl i/\v=Value.int i t)∨(∃x t,k=Sum.inr x/\v=Value.str x t)
 |.inl i,v,h=>by
  obtain⟨t,e⟩:=Value.isInt_shape (k:=i) (v:=v) h;exact .inl ⟨i,t,rfl,e⟩
 |.inr x,v,h=>by
  obtain⟨t,e⟩:=Value.isStrOf_shape (x:=x) (v:=v) h;exact .inr ⟨x,t,rfl,e⟩
theorem JM(i:Int)(t:Tok):oY (.inl i) (.int i t)=true:=by simp[oY,Value.isInt]
theorem WR(x:Str)(t:Tok):oY (.inr x) (.str x t)=true:=by simp[oY,Value.isStrOf]
theorem aJN(a b:Int):decide ((Sum.inl a:gc)=Sum.inl b)=(a==b):=by
 by_cases e:a=b
 ·subst e;simp
 ·have h:¬(Sum.inl a:gc)=Sum.inl b:=λq=>e (Sum.inl.inj q);rw[fB h];exact (beq_eq_false_iff_ne.mpr e).symm
theorem Mx(a b:Str):decide ((Sum.inr a:gc)=Sum.inr b)=decide (a=b):=by
 by_cases e:a=b
 ·subst e;simp
 ·have h:¬(Sum.inr a:gc)=Sum.inr b:=λq=>e (Sum.inr.inj q);rw[fB h,fB e]
theorem RS(a:Int)(b:Str):decide ((Sum.inl a:gc)=Sum.inr b)=false:=fB (λq=>nomatch q)
theorem SW(a:Str)(b:Int):decide ((Sum.inr a:gc)=Sum.inl b)=false:=fB (λq=>nomatch q)
noncomputable def jy(prog:Program)(w:World):PySem.KeyKind prog w gc where
 is:=oY
 hash:=AC w
 inj:=λv a b ha hb=>by
  rcases mh ha with ⟨i,t,rfl,rfl⟩ | ⟨x,t,rfl,rfl⟩
  ·rcases mh hb with ⟨j,u,rfl,e⟩ | ⟨y,u,rfl,e⟩
   ·injection e with e1 _;rw[e1]
   ·exact nomatch e
  ·rcases mh hb with ⟨j,u,rfl,e⟩ | ⟨y,u,rfl,e⟩
   ·exact nomatch e
   ·injection e with e1 _;rw[e1]
 byValue:=λk v h=>by
  rcases mh h with ⟨i,t,rfl,rfl⟩ | ⟨x,t,rfl,rfl⟩<;>rfl
 pyHash:=λhv h=>by
  rcases mh hv with ⟨i,t,rfl,rfl⟩ | ⟨x,t,rfl,rfl⟩
  ·exact wpAny_pyHash_int h
  ·exact wpAny_pyHash_str h
 eqBool:=λhu hv h=>by
  rcases mh hu with ⟨i,t,rfl,rfl⟩ | ⟨x,t,rfl,rfl⟩
  ·rcases mh hv with ⟨j,u,rfl,rfl⟩ | ⟨y,u,rfl,rfl⟩
   ·rw[aJN] at h;exact wpAny_eqBool_int h
   ·rw[RS] at h;exact SeqAt.EqAt.int_str i t y u _ _ _ _ h
  ·rcases mh hv with ⟨j,u,rfl,rfl⟩ | ⟨y,u,rfl,rfl⟩
   ·rw[SW] at h;exact SeqAt.EqAt.str_int x t j u _ _ _ _ h
   ·rw[Mx] at h;exact wpAny_eqBool_str h
 «strs»:=λk x t v h=>by
  rcases mh h with ⟨i,u,rfl,e⟩ | ⟨y,u,rfl,e⟩
  ·exact nomatch e
  ·injection e with e1 _;subst e1;cases v<;>rfl
theorem Vj(prog:Program)(w:World)(i:Int)(t:Tok):(jy prog w).is (.inl i) (.int i t)=true:=JM i t
theorem LF(prog:Program)(w:World)(x:Str)(t:Tok):(jy prog w).is (.inr x) (.str x t)=true:=WR x t
inductive V where
 |non | bl (b:Bool) | int (i:Int) | str (x:Str) | byt (b:Array UInt8) | flt (b:UInt64) | ref (a:Addr) | ty (n:String)
 deriving DecidableEq
def RelV:V->Value->Prop
 |.non,u=>u=Value.none
 |.bl b,u=>u=Value.bool b
 |.int i,u=>∃t,u=Value.int i t
 |.str x,u=>∃t,u=Value.str x t
 |.byt b,u=>∃t,u=Value.bytes b t
 |.flt b,u=>∃t,u=Value.float b t
 |.ref a,u=>u=Value.ref a
 |.ty n,u=>u=Value.type n
abbrev Vals:List V->List Value->Prop:=Paired RelV
theorem Vals.length{xs:List V}{us:List Value}(r:Vals xs us):xs.length=us.length:=Paired.length r
theorem Vals.get:∀{xs:List V} {us:List Value} {i:Nat} {x:V},Vals xs us->xs[i]? =some x->∃u,us[i]? =some u/\RelV x u
 |_,_,_,_,.nil,e=>by simp at e
 |_,_,0,_,.cons r _,e=>by simp at e;subst e;exact⟨(),r⟩
 |_,_,i+1,x,.cons _ t,e=>by
  obtain⟨u,h1,h2⟩:=Vals.get (i:=i) (x:=x) t (by simpa using e);exact⟨u,by simpa using h1,h2⟩
theorem Vals.set{x:V}{u:Value}(r:RelV x u):∀{xs:List V} {us:List Value} (i:Nat),Vals xs us->Vals (xs.set i x) (us.set i u)
 |_,_,_,.nil=>.nil
 |_,_,0,.cons _ t=>.cons r t
 |_,_,i+1,.cons q t=>.cons q (Vals.set r i t)
theorem Vals.append:∀{xs ys:List V} {us ws:List Value},Vals xs us->Vals ys ws->Vals (xs++ys) (us++ws)
 |_,_,_,_,.nil,s=>s
 |_,_,_,_,.cons r t,s=>.cons r (Vals.append t s)
theorem Vals.take:∀{xs:List V} {us:List Value} (n:Nat),Vals xs us->Vals (xs.take n) (us.take n)
 |_,_,0,_=>.nil
 |_,_,_+1,.nil=>.nil
 |_,_,n+1,.cons r t=>.cons r (Vals.take n t)
theorem Vals.drop:∀{xs:List V} {us:List Value} (n:Nat),Vals xs us->Vals (xs.drop n) (us.drop n)
 |_,_,0,r=>r
 |_,_,_+1,.nil=>.nil
 |_,_,n+1,.cons _ t=>Vals.drop n t
def RelO:Option V->Option Value->Prop
 |some v,some u=>RelV v u
 |none,none=>True
 |_,_=>False
def KV{κ:Type}:List (κ×V)->List (κ×Value)->Prop:=Paired λ(p:κ×V) (q:κ×Value)=>p.1=q.1/\RelV p.2 q.2
noncomputable def kV:gc->V
 |.inl i=>.int i
 |.inr x=>.str x
inductive HO where
 |lst (xs:List V)
 |tup (xs:List V)
 |dK (kvs:List (gc×V)) | dT (kvs:List (List gc×V))
 |set (S:Int->Bool) (n:Nat)
 |ins (C dx:Addr) (fs:List (Str×V))
 |own (x:Addr)
 |xd (fs:List (Str×V))
 |met (f x:Addr)
 |rng (lo hi:Int)
 |frz (o:Obj) (u:HO)
 |tbl (ps:Array Value)
 |ext (φ:Heap->Prop)
noncomputable abbrev Hp:=Addr->Option HO
noncomputable def upd(H:Hp)(a:Addr)(o:HO):Hp:=λb=>if b=a then some o else H b
theorem fh{H:Hp}{a:Addr}{o:HO}:upd H a o a=some o:=by unfold upd;rw[if_pos rfl]
theorem fH{H:Hp}{a b:Addr}{o:HO}(h:b≠a):upd H a o b=H b:=by unfold upd;rw[if_neg h]
theorem Qp{H:Hp}{a b:Addr}{o u:HO}(h:H a=some o)(h':H b=some u)(d:o≠u):a≠b:=by
 intro e;subst e;rw[h] at h';exact d (aZ h')
theorem gU{H:Hp}{a b:Addr}{o:HO}(h:H a=some o)(h':H b=none):a≠b:=by
 intro e;subst e;rw[h] at h';cases h'
section
variable(P:Program)(w:World)
def ObjOk(H:Hp)(h:Heap)(a:Addr):HO->Prop
 |.lst xs=>xs.length<=sizeLine/\∃(its:List Value) (n:Nat),Vals xs its/\h.get? a=some {cls:=.type "list",data:=.seq its.toArray n}
 |.tup xs=>xs.length<=sizeLine/\∃its:List Value,Vals xs its/\IsTup h a its.toArray
 |.dK kvs=>kvs.length<=sizeLine/\(a==sysModules)=false/\∃vs,KV kvs vs/\h.DictOf (jy P w) a vs
 |.dT kvs=>kvs.length<=sizeLine/\(a==sysModules)=false/\∃xs:List (List gc×Addr×Value),
   Paired (λ(p:List gc×V) (q:List gc×Addr×Value)=>p.1=q.1/\H q.2.1=some (.tup (p.1.map kV))/\RelV p.2 q.2.2) kvs xs/\
   ∃o es ep,h.get? a=some o/\o.ExactDict/\o.data=.dict es ep/\es.toList=xs.map (entryOfKey (tupleKind (jy P w)))/\(xs.map (·.1)).Nodup
 |.set S n=>h.SetOf (intKind P w) a S n
 |.ins C dx fs=>H dx=some (.own a)/\fs.length<=1000/\dx≠a/\h.get? a=some (PySem.W.instObj C dx)/\
   ∃mA,h.Ns1 dx mA/\(∀f,RelO (fs.lookup f) (mA f))/\PySem.Within mA (fs.map (·.1))
 |.own _=>∃o,h.get? a=some o
 |.xd fs=>∃mA,h.Ns1 a mA/\∀f,RelO (fs.lookup f) (mA f)
 |.rng lo hi=>∃t u v,h.get? a=some {cls:=.type "range",data:=.fields #[.int lo t,.int hi u,.int 1 v]}
 |.frz o u=>h.get? a=some o/\ObjOk H h a u
 |.tbl ps=>h.get? a=some {cls:=.none,data:=.fields ps}
 |.met f x=>h.get? a=some (PySem.W.methodObj (.ref f) (.ref x))
 |.ext φ=>φ h/\(∃o,h.get? a=some o)/\∀h1 h2:Heap,φ h1->(∀o,h1.get? a=some o->h2.get? a=some o)->φ h2
def HOk(H:Hp)(h:Heap):Prop:=∀a o,H a=some o->ObjOk P w H h a o
end
section
variable{P:Program}{w:World}{H H':Hp}{h h':Heap}{a:Addr}{o:HO}
theorem ObjOk.lt(x:ObjOk P w H h a o):a<h.objs.size:=by
 cases o with
 |lst xs=>obtain⟨_,_,_,_,e⟩:=x;exact aV e
 |tup xs=>obtain⟨_,_,_,p⟩:=x;exact p.lt
 |dK kvs=>obtain⟨_,_,_,_,o,_,_,e,_⟩:=x;exact aV e
 |dT kvs=>obtain⟨_,_,_,_,o,_,_,e,_⟩:=x;exact aV e
 |set S n=>obtain⟨o,_,_,_,e,_⟩:=x;exact aV e
 |ins C dx fs=>obtain⟨_,_,_,e,_⟩:=x;exact aV e
 |own y=>obtain⟨_,e⟩:=x;exact aV e
 |xd fs=>obtain⟨_,⟨_,_,_,e,_⟩,_⟩:=x;exact aV e
 |rng lo hi=>obtain⟨_,_,_,e⟩:=x;exact aV e
 |frz ob u=>obtain⟨e,_⟩:=x;exact aV e
 |tbl ps=>exact aV (show h.get? a=some _ from x)
 |met f y=>exact aV (show h.get? a=some _ from x)
 |ext φ=>obtain⟨_,⟨_,e⟩,_⟩:=x;exact aV e
theorem Paired.mapP{α β:Type}{F G:α->β->Prop}:∀{l₁:List α} {l₂:List β},Paired F l₁ l₂->(∀a b,F a b->G a b)->Paired G l₁ l₂
 |_,_,.nil,_=>.nil
 |_,_,.cons r t,f=>.cons (f _ _ r) (Paired.mapP t f)
theorem Paired.imp'{α β:Type}{F G:α->β->Prop}(f:∀a b,F a b->G a b){l₁:List α}{l₂:List β}(r:Paired F l₁ l₂):Paired G l₁ l₂:=Paired.mapP r f
theorem ObjOk.stay(x:ObjOk P w H h a o)(k:∀b u,(b=a∨H b=some (.own a))->h.get? b=some u->h'.get? b=some u)
  (ho:∀b,H b=some (.own a)->H' b=some (.own a)) (ht:∀b xs,H b=some (.tup xs)->H' b=some (.tup xs)):ObjOk P w H' h' a o:=by
 induction o with
 |lst xs=>obtain⟨z,its,n,r,e⟩:=x;exact⟨z,its,n,r,k _ _ (.inl rfl) e⟩
 |tup xs=>obtain⟨z,its,r,ob,e,c⟩:=x;exact⟨z,its,r,ob,k _ _ (.inl rfl) e,c⟩
 |dK kvs=>obtain⟨z,y,vs,r,ob,es,ep,e,c⟩:=x;exact⟨z,y,vs,r,ob,es,ep,k _ _ (.inl rfl) e,c⟩
 |dT kvs=>
  obtain⟨z,y,xs,r,ob,es,ep,e,c⟩:=x;exact⟨z,y,xs,Paired.mapP r λp q z=>⟨z.1,ht _ _ z.2.1,z.2.2⟩,ob,es,ep,k _ _ (.inl rfl) e,c⟩
 |set S n=>obtain⟨ob,es,ep,t,e,c⟩:=x;exact⟨ob,es,ep,t,k _ _ (.inl rfl) e,c⟩
 |ins C dx fs=>
  obtain⟨d,z,ne,e,mA,⟨od,es,ep,e2,c⟩,r⟩:=x;exact⟨ho _ d,z,ne,k _ _ (.inl rfl) e,mA,⟨od,es,ep,k _ _ (.inr d) e2,c⟩,r⟩
 |own y=>obtain⟨ob,e⟩:=x;exact⟨ob,k _ _ (.inl rfl) e⟩
 |xd fs=>obtain⟨mA,⟨od,es,ep,e,c⟩,r⟩:=x;exact⟨mA,⟨od,es,ep,k _ _ (.inl rfl) e,c⟩,r⟩
 |rng lo hi=>obtain⟨t,u,v,e⟩:=x;exact⟨t,u,v,k _ _ (.inl rfl) e⟩
 |frz ob u ih=>obtain⟨e,q⟩:=x;exact⟨k _ _ (.inl rfl) e,ih q⟩
 |tbl ps=>
  have e:h.get? a=some {cls:=.none,data:=.fields ps}:=x;show h'.get? a=some {cls:=.none,data:=.fields ps};exact k a _ (.inl rfl) e
 |met f y=>
  have e:h.get? a=some (PySem.W.methodObj (.ref f) (.ref y)):=x;show h'.get? a=some (PySem.W.methodObj (.ref f) (.ref y));exact k a _ (.inl rfl) e
 |ext φ=>obtain⟨p,⟨o,e⟩,st⟩:=x;exact⟨st _ _ p λo q=>k _ _ (.inl rfl) q,⟨o,k _ _ (.inl rfl) e⟩,st⟩
theorem HOk.lt(x:HOk P w H h)(e:H a=some o):a<h.objs.size:=(x a o e).lt
theorem HOk.fresh(x:HOk P w H h)(e:h.objs.size<=a):H a=none:=by
 cases q:H a with
 |none=>rfl
 |some u=>exact absurd (bA (x.lt q) e) (cR _)
theorem HOk.kept(x:HOk P w H h)(k:∀b u,h.get? b=some u->h'.get? b=some u):HOk P w H h':=λa o e=>
 (x a o e).stay (λb u _ q=>k b u q) (λ_ q=>q) λ_ _ q=>q
theorem HOk.laid(x:HOk P w H h)(k:∀b u,h.get? b=some u->h'.get? b=some u)(hp:h.objs.size<=a)(new:ObjOk P w (upd H a o) h' a o):HOk P w (upd H a o) h':=λb u e=>by
 have hn:=x.fresh hp;by_cases hb:b=a
 ·subst hb;rw[fh] at e;cases e;exact new
 ·rw[fH hb] at e;exact (x b u e).stay (λc v _ q=>k c v q) (λc q=>by rw[fH (gU q hn)];exact q) λc xs q=>by rw[fH (gU q hn)];exact q
end
def Rd(H:Hp)(a:Addr)(u:HO):Prop:=H a=some u∨∃o,H a=some (.frz o u)
theorem Rd.ok{P:Program}{w:World}{H:Hp}{h:Heap}{a:Addr}{u:HO}(r:Rd H a u)(x:HOk P w H h):ObjOk P w H h a u:=by
 rcases r with r | ⟨o,r⟩
 ·exact x a u r
 ·obtain⟨_,q⟩:=x a _ r;exact q
def qu:Option HO->Prop
 |some (.lst _)=>True
 |some (.dK _)=>True
 |some (.dT _)=>True
 |some (.set _ _)=>True
 |some (.ins _ _ _)=>True
 |some (.ext _)=>True
 |_=>False
section
variable{P:Program}{w:World}{H:Hp}{h h':Heap}{x e:Addr}{o':HO}
theorem HOk.write(ok:HOk P w H h)(mu:qu (H x))(he:e=x∨H e=some (.own x))(k:∀b u,b≠e->h.get? b=some u->h'.get? b=some u)(heo:∃u,h'.get? e=some u)
  (new:ObjOk P w (upd H x o') h' x o'):HOk P w (upd H x o') h':=λb u q=>by
 have nown:∀c y,H c=some (.own y)->c≠x:=λc y r z=>by subst z;rw[r] at mu;exact mu
 have ntup:∀c xs,H c=some (.tup xs)->c≠x:=λc xs r z=>by subst z;rw[r] at mu;exact mu
 by_cases hb:b=x
 ·subst hb;rw[fh] at q;cases q;exact new
 ·rw[fH hb] at q;by_cases hbe:b=e
  ·have q':H b=some (.own x):=by
    rcases he with z | z
    ·exact absurd (hbe.trans z) hb
    ·rw[hbe];exact z
   rw[q] at q';cases q';obtain⟨v,hv⟩:=heo;exact⟨v,by rw[hbe];exact hv⟩
  ·refine (ok b u q).stay (λc v hc r=>k c v ?_ r) (λc r=>by rw[fH (nown c b r)];exact r) λc xs r=>by rw[fH (ntup c xs r)];exact r
   rcases hc with rfl | hc
   ·exact hbe
   ·rintro rfl;rcases he with z | z
    ·exact nown c b hc z
    ·rw[hc] at z;cases z;exact hb rfl
end
structure Un(fs ex:List Addr)(H H':Hp)(h h':Heap):Prop where
 keep:∀b o,h.get? b=some o->H b=none->b∉fs->b∉ex->h'.get? b=some o
 slot:∀b o,h.get? b=some o->H b=none->b∈fs->b∉ex->∃sl,h'.get? b=some {o with slots:=sl}
 free:∀b o,h.get? b=some o->H b=none->b∉ex->H' b=none
 there:∀b o,h.get? b=some o->b∉ex->∃o',h'.get? b=some o'
 tups:∀b xs,H b=some (.tup xs)->H' b=some (.tup xs)
 frzs:∀b o u,H b=some (.frz o u)->H' b=some (.frz o u)
 tbls:∀b ps,H b=some (.tbl ps)->∃more,H' b=some (.tbl (ps++more))
section
variable{fs fs' ex ex':List Addr}{H H1 H2:Hp}{h h1 h2 h':Heap}{a x e:Addr}{o:HO}
theorem Un.any(u:Un fs ex H H1 h h1){b:Addr}{ob:Obj}(q:h.get? b=some ob)(n:H b=none)(hx:b∉ex):∃sl,h1.get? b=some {ob with slots:=sl}:=by
 by_cases hb:b∈fs
 ·exact u.slot b ob q n hb hx
 ·exact⟨ob.slots,u.keep b ob q n hb hx⟩
theorem Un.trans(a:Un fs ex H H1 h h1)(b:Un fs ex H1 H2 h1 h2):Un fs ex H H2 h h2 where
 keep:=λc ob q n hc hx=>b.keep c ob (a.keep c ob q n hc hx) (a.free c ob q n hx) hc hx
 slot:=λc ob q n hc hx=>by
  obtain⟨sl,e1⟩:=a.slot c ob q n hc hx;obtain⟨sl',e2⟩:=b.slot c _ e1 (a.free c ob q n hx) hc hx;exact⟨sl',e2⟩
 free:=λc ob q n hx=>by
  obtain⟨o',e1⟩:=a.there c ob q hx;exact b.free c o' e1 (a.free c ob q n hx) hx
 there:=λc ob q hx=>by
  obtain⟨o',e1⟩:=a.there c ob q hx;exact b.there c o' e1 hx
 tups:=λc xs q=>b.tups c xs (a.tups c xs q)
 frzs:=λc ob xs q=>b.frzs c ob xs (a.frzs c ob xs q)
 tbls:=λc ps q=>by
  obtain⟨m1,e1⟩:=a.tbls c ps q;obtain⟨m2,e2⟩:=b.tbls c _ e1;exact⟨m1++m2,by rw[e2,Array.append_assoc]⟩
theorem Un.kept(k:∀b u,h.get? b=some u->h'.get? b=some u):Un fs ex H H h h':=
 ⟨λb ob q _ _ _=>k b ob q,λb ob q _ _ _=>⟨ob.slots,k b ob q⟩,λ_ _ _ n _=>n,λb ob q _=>⟨ob,k b ob q⟩,λ_ _ q=>q,λ_ _ _ q=>q,λ_ ps q=>⟨#[],by rw[q];simp⟩⟩
theorem Un.refl:Un fs ex H H h h:=Un.kept λ_ _ q=>q
theorem Un.laid(k:∀b u,h.get? b=some u->h'.get? b=some u)(hp:h.objs.size<=a)(hn:H a=none):Un fs ex H (upd H a o) h h' where
 keep:=λb u q _ _ _=>k b u q
 slot:=λb u q _ _ _=>⟨u.slots,k b u q⟩
 free:=λb u q n _=>by rw[fH (aW (bA (aV q) hp))];exact n
 there:=λb u q _=>⟨u,k b u q⟩
 tups:=λb xs q=>by rw[fH (gU q hn)];exact q
 frzs:=λb u xs q=>by rw[fH (gU q hn)];exact q
 tbls:=λb ps q=>⟨#[],by rw[fH (gU q hn),q];simp⟩
theorem Un.write(mu:qu (H x))(he:e=x∨H e=some (.own x))(k:∀b u,b≠e->h.get? b=some u->h'.get? b=some u)(heo:∃u,h'.get? e=some u):Un fs ex H (upd H x o) h h':=by
 have hx:∀b,H b=none->b≠x:=λb n z=>by subst z;rw[n] at mu;exact mu
 have hb:∀b,H b=none->b≠e:=λb n z=>by
  subst z;rcases he with r | r
  ·exact hx b n r
  ·rw[n] at r;cases r
 have hm:∀b u,H b=some u->¬qu (some u)->b≠x:=λb u q nm z=>by subst z;rw[q] at mu;exact nm mu
 refine⟨λb u q n _ _=>k b u (hb b n) q,λb u q n _ _=>⟨u.slots,k b u (hb b n) q⟩,λb u q n _=>by rw[fH (hx b n)];exact n,λb u q _=>?_,
  λb xs q=>by rw[fH (hm b _ q λz=>z)];exact q,λb u xs q=>by rw[fH (hm b _ q λz=>z)];exact q,λb ps q=>⟨#[],by rw[fH (hm b _ q λz=>z),q];simp⟩⟩
 by_cases hbe:b=e
 ·subst hbe;exact heo
 ·exact⟨u,k b u hbe q⟩
end
noncomputable def jZ(h:Heap)(H:Hp):List Addr:=(List.range h.objs.size).filter λa=>(H a).isSome
noncomputable def lX(h:Heap)(H:Hp):Heap:=PySem.W.hideAll h (jZ h H)
theorem O4(h:Heap)(H:Hp):(lX h H).objs.size=h.objs.size:=PySem.W.hideAll_size _ _
theorem aCX{h:Heap}{H:Hp}{b:Addr}{o:Obj}(e:h.get? b=some o)(n:H b=none):(lX h H).get? b=some o:=
 PySem.W.hideAll_get _ e λhm=>by
  have q:(H b).isSome=true:=(List.mem_filter.mp hm).2;rw[n] at q;simp at q
theorem Qe{h:Heap}{H:Hp}{b:Addr}{o:Obj}(e:(lX h H).get? b=some o):h.get? b=some o/\H b=none:=by
 have e':h.get? b=some o:=PySem.W.of_hideAll (jZ h H) e;refine⟨e',?_⟩;cases q:H b with
 |none=>rfl
 |some x=>
  have hm:b∈jZ h H:=List.mem_filter.mpr ⟨cT.mpr (aV e'),by simp[q]⟩;have z:(lX h H).get? b=none:=PySem.W.hideAll_none (jZ h H) hm;rw[z] at e;cases e
structure Mod(K:FG)(mg:Str->Option Value)(base:Heap):Prop where
 kin:K.In base
 glob:base.Ns mainGlobals mg
 blt:∃mb,base.Ns builtinsNs mb/\∀x:Str,x≠"__name__"->mb x=bootBuiltins x
 nolimit:base.NoLimit
structure Cx where
 prog:Program
 w:World
 K:FG
 mg:Str->Option Value
 base:Heap
 A:Around
 N:List Str
 s₀:Shared
 H₀:Hp
 env:Env
 outer:List Env
 stack:List Env
 ex:List Addr
 fn:Str->Bool
 calm:Bool
 pn:List (Addr×Obj)
 xe:Value->Shared->Prop
noncomputable def ki(l:List Env):List Addr:=l.filterMap (·.frame)
noncomputable abbrev Cx.fs(X:Cx):List Addr:=ki X.outer
def xH(sc:Scope)(x:Str):Prop:=sc.names.lookup x=some .local∨sc.names.lookup x=some .cell∨sc.names.lookup x=some .free
def pv(sc:Scope)(x:Str):Prop:=sc.names.lookup x=some .local∨sc.names.lookup x=some .cell
def zH(env:Env)(h:Heap)(m:Str->Option Value)(x:Str)(u:Value):Prop:=
 (env.kindOf x=some .local/\m x=some u)∨((env.kindOf x=some .cell∨env.kindOf x=some .free)/\∃c,env.cells.lookup x=some c/\h.IsCell c (some u))
structure Cx.Ok(X:Cx):Prop where
 mod:Mod X.K X.mg X.base
 kind:X.env.scope.kind=.function
 glob:X.env.globals=mainGlobals
 blt:X.env.builtins=builtinsNs
 above:X.s₀.heap.objs.size<=X.env.locals
 inj:∀x y c,X.env.cells.lookup x=some c->X.env.cells.lookup y=some c->x=y
 has:∀x,(X.env.kindOf x=some .cell∨X.env.kindOf x=some .free)->∃c,X.env.cells.lookup x=some c
 cab:∀x c,X.fn x=true->X.env.cells.lookup x=some c->X.s₀.heap.objs.size<=c
 hd:X.calm=true->X.A.handled=none
 frames:X.A.frames=some X.stack
 stk:X.stack=X.outer∨(X.stack=X.env::X.outer/\X.env.frame=some X.env.locals)
 exf:∀b∈X.ex,b≠X.env.locals/\∀x c,X.env.cells.lookup x=some c->c≠b
 bs:∀b o,X.base.get? b=some o->X.s₀.heap.get? b=some o/\X.H₀ b=none
 bsz:X.base.objs.size<=X.s₀.heap.objs.size
 noex:∀b o,X.base.get? b=some o->b∉X.ex
 exfs:∀b∈X.ex,b∉X.fs
 funs:X.s₀.heap.FunFrames X.base X.outer
 frf:∀b∈X.fs,X.H₀ b=none
structure Inv(X:Cx)(pins:List (Addr×Obj))(σ:List (Option V))(H:Hp)(s:Shared):Prop where
 ok:X.Ok
 os:s.os=X.s₀.os
 bare:AllBare s.gens
 base:Un X.fs X.ex X.H₀ H X.s₀.heap s.heap
 loc:∃m,s.heap.Ns X.env.locals m/\∀(i:Nat) (x:Str) (v:V),X.N[i]? =some x->σ[i]? =some (some v)->xH X.env.scope x->∃u,RelV v u/\zH X.env s.heap m x u
 cell:∀x c,X.env.cells.lookup x=some c->∃v,s.heap.IsCell c v
 free:H X.env.locals=none
 freeC:∀x c,X.env.cells.lookup x=some c->H c=none
 pin:∀p∈X.pn++pins,s.heap.get? p.1=some p.2/\H p.1=none/\p.1≠X.env.locals/\p.1∉X.fs/\∀v,p.2.data≠ .cell v
 hok:HOk X.prog X.w H s.heap
 len:σ.length=X.N.length
section
variable{X:Cx}{pins:List (Addr×Obj)}{σ:List (Option V)}{H H':Hp}{s:Shared}{h':Heap}
theorem Cx.Ok.nofr(ok:X.Ok){b:Addr}{o:Obj}(e:X.base.get? b=some o):b∉X.fs:=λhb=>by
 have:=(ok.funs.mem hb).1;rw[e] at this;cases this
theorem Inv.bs(I:Inv X pins σ H s):∀b o,X.base.get? b=some o->s.heap.get? b=some o/\H b=none:=λb o e=>
 ⟨I.base.keep b o (I.ok.bs b o e).1 (I.ok.bs b o e).2 (I.ok.nofr e) (I.ok.noex b o e),I.base.free b o (I.ok.bs b o e).1 (I.ok.bs b o e).2 (I.ok.noex b o e)⟩
theorem Inv.bk(I:Inv X pins σ H s):∀b o,X.base.get? b=some o->s.heap.get? b=some o:=λb o e=>(I.bs b o e).1
theorem Inv.mod(I:Inv X pins σ H s):Mod X.K X.mg X.base:=I.ok.mod
theorem Inv.kIn(I:Inv X pins σ H s):X.K.In s.heap:=I.ok.mod.kin.keeps I.bk
theorem Inv.nolimit(I:Inv X pins σ H s):s.heap.NoLimit:=I.ok.mod.nolimit.keeps I.bk
theorem Inv.lt(I:Inv X pins σ H s):X.env.locals<s.heap.objs.size:=let ⟨_,hn,_⟩:=I.loc;hn.lt
theorem Inv.sz(I:Inv X pins σ H s):X.s₀.heap.objs.size<=s.heap.objs.size:=bL I.ok.above (Nat.le_of_lt I.lt)
theorem Inv.nofs(I:Inv X pins σ H s){a:Addr}(h:s.heap.objs.size<=a):a∉X.fs:=λhb=>by
 obtain⟨_,o,ho,_⟩:=I.ok.funs.mem hb;exact absurd (bA (aV ho) (bL I.sz h)) (cR _)
theorem Inv.cne(I:Inv X pins σ H s):∀x c,X.env.cells.lookup x=some c->c≠X.env.locals:=λx c e z=>by
 obtain⟨v,o,ho,hd⟩:=I.cell x c e;obtain⟨m,⟨o',es,ep,ho',hd',_⟩,_⟩:=I.loc;rw[z,ho'] at ho;cases ho;rw[hd'] at hd;cases hd
theorem Inv.funs(I:Inv X pins σ H s):s.heap.FunFrames X.base X.outer:=by
 have all:∀(l:List Env),(∀b∈ki l,b∈X.fs)->X.s₀.heap.FunFrames X.base l->s.heap.FunFrames X.base l:=by
  intro l;induction l with
  |nil=>intro _ _;trivial
  |cons env r ih=>
   intro hs hl;obtain⟨hk,⟨L,o,hf,hn,ho,hd⟩,hr⟩:=hl;have hL:L∈X.fs:=hs L (by unfold ki;rw[dN,hf];exact bF);obtain⟨sl,e⟩:=I.base.slot L o ho (I.ok.frf L hL) hL λz=>I.ok.exfs L z hL;exact⟨hk,⟨L,_,hf,hn,e,hd⟩,ih (λb hb=>hs b (by unfold ki;rw[dN,hf];exact bG _ hb)) hr⟩
 exact all X.outer (λ_ hb=>hb) I.ok.funs
theorem Inv.stack(I:Inv X pins σ H s):s.heap.FunFrames X.base X.stack:=by
 rcases I.ok.stk with e | ⟨e,hf⟩
 ·rw[e];exact I.funs
 ·rw[e];obtain⟨m,hn,_⟩:=I.loc;refine .cons (by rw[I.ok.kind];decide) hf hn ?_ I.funs;exact Heap.get?_none_of_le (bL I.ok.bsz I.ok.above)
theorem Inv.stkSub(I:Inv X pins σ H s):∀b∈ki X.stack,b∈X.env.locals::X.fs:=λb hb=>by
 rcases I.ok.stk with e | ⟨e,hf⟩
 ·rw[e] at hb;exact bG _ hb
 ·rw[e] at hb;unfold ki at hb;rw[dN,hf] at hb;exact hb
theorem Inv.stkFree(I:Inv X pins σ H s):∀b∈ki X.stack,H b=none:=λb hb=>by
 rcases aX.mp (I.stkSub b hb) with e | hb
 ·rw[e];exact I.free
 ·obtain⟨_,o,ho,_⟩:=I.ok.funs.mem hb;exact I.base.free b o ho (I.ok.frf b hb) λz=>I.ok.exfs b z hb
theorem Inv.step{g':Array GenState}{t':Nat}{d':Drawn}{ch:List Addr}(I:Inv X pins σ H s)
  (hch:∀b∈ch,(b∈X.ex∨X.s₀.heap.objs.size<=b)/\b≠X.env.locals/\(∀x c,X.env.cells.lookup x=some c->c≠b)/\∀p∈X.pn++pins,p.1≠b)
  (keep:∀b o,b≠X.env.locals->b∉X.fs->b∉ch->s.heap.get? b=some o->H b=none->h'.get? b=some o)
  (slot:∀b o,b≠X.env.locals->b∈X.fs->b∉ch->s.heap.get? b=some o->H b=none->∃sl,h'.get? b=some {o with slots:=sl}) (free:∀b o,b∉ch->s.heap.get? b=some o->H b=none->H' b=none)
  (there:∀b o,b∉ch->s.heap.get? b=some o->∃o',h'.get? b=some o')
  (tups:∀b xs,H b=some (.tup xs)->H' b=some (.tup xs)) (frzs:∀b o u,H b=some (.frz o u)->H' b=some (.frz o u)) (tbls:∀b ps,H b=some (.tbl ps)->∃more,H' b=some (.tbl (ps++more)))
  (ns:∀m,s.heap.Ns X.env.locals m->h'.Ns X.env.locals m) (hok:HOk X.prog X.w H' h') (hg:AllBare g'):
  Inv X pins σ H' {s with heap:=h',gens:=g',drawn:=d',toks:=t'}:=by
 have neL:∀b o,X.s₀.heap.get? b=some o->b≠X.env.locals:=λb o e=>aW (bA (aV e) I.ok.above);have neC:∀b o,X.s₀.heap.get? b=some o->b∉X.ex->b∉ch:=λb o e hx hb=>by
  rcases (hch b hb).1 with z | z
  ·exact hx z
  ·exact absurd (bA (aV e) z) (cR _)
 have cellK:∀x c,X.env.cells.lookup x=some c->∀v,s.heap.IsCell c v->h'.IsCell c v:=λx c e v ⟨o,ho,hd⟩=>by
  have nch:c∉ch:=λz=>(hch c z).2.2.1 x c e rfl;by_cases hc:c∈X.fs
  ·obtain⟨sl,q⟩:=slot c o (I.cne x c e) hc nch ho (I.freeC x c e);exact⟨_,q,hd⟩
  ·exact⟨o,keep c o (I.cne x c e) hc nch ho (I.freeC x c e),hd⟩
 refine⟨I.ok,I.os,hg,⟨λb o e n hb hx=>?_,λb o e n hb hx=>?_,λb o e n hx=>?_,λb o e hx=>?_,λb xs e=>tups b xs (I.base.tups b xs e),λb o xs e=>frzs b o xs (I.base.frzs b o xs e),λb ps e=>?_⟩,?_,λx c e=>?_,?_,λx c e=>?_,λp hp=>?_,hok,I.len⟩
 ·exact keep b o (neL b o e) hb (neC b o e hx) (I.base.keep b o e n hb hx) (I.base.free b o e n hx)
 ·obtain⟨sl,e1⟩:=I.base.slot b o e n hb hx;obtain⟨sl',e2⟩:=slot b _ (neL b o e) hb (neC b o e hx) e1 (I.base.free b o e n hx);exact⟨sl',e2⟩
 ·obtain⟨o',e1⟩:=I.base.there b o e hx;exact free b o' (neC b o e hx) e1 (I.base.free b o e n hx)
 ·obtain⟨o',e1⟩:=I.base.there b o e hx;exact there b o' (neC b o e hx) e1
 ·obtain⟨m1,e1⟩:=I.base.tbls b ps e;obtain⟨m2,e2⟩:=tbls b _ e1;exact⟨m1++m2,by rw[e2,Array.append_assoc]⟩
 ·obtain⟨m,hn,hl⟩:=I.loc;refine⟨m,ns m hn,λi x v e1 e2 e3=>?_⟩;obtain⟨u,r,l⟩:=hl i x v e1 e2 e3;refine⟨u,r,?_⟩;rcases l with l | ⟨k,c,e,z⟩
  ·exact .inl l
  ·exact .inr ⟨k,c,e,cellK x c e _ z⟩
 ·obtain⟨v,z⟩:=I.cell x c e;exact⟨v,cellK x c e v z⟩
 ·obtain⟨m,⟨o,_,_,ho,_⟩,_⟩:=I.loc;exact free _ o (λz=>(hch _ z).2.1 rfl) ho I.free
 ·obtain⟨v,o,ho,hd⟩:=I.cell x c e;exact free c o (λz=>(hch c z).2.2.1 x c e rfl) ho (I.freeC x c e)
 ·obtain⟨e,n,ne,nf,d⟩:=I.pin p hp;have nch:p.1∉ch:=λz=>(hch p.1 z).2.2.2 p hp rfl;exact⟨keep p.1 p.2 ne nf nch e n,free p.1 p.2 nch e n,ne,nf,d⟩
theorem Inv.un{t':Nat}(I:Inv X pins σ H s)(u:Un X.fs [] H H' s.heap h')(hok:HOk X.prog X.w H' h'):Inv X pins σ H' {s with heap:=h',toks:=t'}:=by
 obtain⟨m,⟨o,es,ep,ho,r⟩,_⟩:=id I.loc;obtain⟨sl,hL⟩:=u.any ho I.free (by simp);exact I.step (g':=s.gens) (d':=s.drawn) (ch:=[]) (λ_ z=>nomatch z) (λb o _ hb _ e n=>u.keep b o e n hb (by simp)) (λb o _ hb _ e n=>u.slot b o e n hb (by simp)) (λb o _ e n=>u.free b o e n (by simp)) (λb o _ e=>u.there b o e (by simp)) u.tups u.frzs u.tbls (λm' hm=>by
  obtain⟨o',es',ep',ho',r'⟩:=hm;rw[ho] at ho';cases ho';exact⟨_,es',ep',hL,r'⟩) hok I.bare
theorem Inv.call{g':Array GenState}{t':Nat}{d':Drawn}{ch:List Addr}(I:Inv X pins σ H s)(u:Un (ki X.stack) ch H H' s.heap h')(hok:HOk X.prog X.w H' h')(hg:AllBare g')
  (hch:∀b∈ch,(b∈X.ex∨X.s₀.heap.objs.size<=b)/\b≠X.env.locals/\(∀x c,X.env.cells.lookup x=some c->c≠b)/\∀p∈X.pn++pins,p.1≠b):
  Inv X pins σ H' {s with heap:=h',gens:=g',drawn:=d',toks:=t'}:=by
 obtain⟨m,⟨o,es,ep,ho,r⟩,_⟩:=id I.loc;obtain⟨sl,hL⟩:=u.any ho I.free λz=>(hch _ z).2.1 rfl;exact I.step (ch:=ch) hch (λb o hL hb hc e n=>u.keep b o e n (λz=>(aX.mp (I.stkSub b z)).elim hL hb) hc) (λb o _ _ hc e n=>u.any e n hc) (λb o hc e n=>u.free b o e n hc) (λb o hc e=>u.there b o e hc) u.tups u.frzs u.tbls (λm' hm=>by
  obtain⟨o',es',ep',ho',r'⟩:=hm;rw[ho] at ho';cases ho';exact⟨_,es',ep',hL,r'⟩) hok hg
theorem Inv.turned{t':Nat}{it:Addr}(I:Inv X pins σ H s)(k:∀b o,b≠it->s.heap.get? b=some o->h'.get? b=some o)(hn:H it=none)(hL:it≠X.env.locals)
  (h1:it∈X.ex∨X.s₀.heap.objs.size<=it) (h2:∀x c,X.env.cells.lookup x=some c->c≠it) (h3:∀p∈X.pn++pins,p.1≠it):Inv X pins σ H {s with heap:=h',toks:=t'}:=by
 have nit:∀b u,H b=some u->b≠it:=λb u e z=>by rw[z,hn] at e;cases e
 refine I.step (g':=s.gens) (d':=s.drawn) (ch:=[it]) (λb hb=>?_) (λb o _ _ hc e _=>k b o (λz=>hc (by simp[z])) e) (λb o _ _ hc e _=>⟨o.slots,k b o (λz=>hc (by simp[z])) e⟩) (λ_ _ _ _ n=>n)
  (λb o hc e=>⟨o,k b o (λz=>hc (by simp[z])) e⟩) (λ_ _ e=>e) (λ_ _ _ e=>e) (λb ps e=>⟨#[],by rw[e];simp⟩) (λm hm=>?_) (λb u e=>?_) I.bare
 ·have e:b=it:=by simpa using hb
  subst e;exact⟨h1,hL,h2,h3⟩
 ·obtain⟨o,es,ep,ho,r⟩:=hm;exact⟨o,es,ep,k _ o (Ne.symm hL) ho,r⟩
 ·refine (I.hok b u e).stay (λc v hc q=>k c v ?_ q) (λ_ q=>q) λ_ _ q=>q;rcases hc with z | z
  ·rw[z];exact nit b u e
  ·exact nit c _ z
theorem Inv.tok(I:Inv X pins σ H s)(t:Nat):Inv X pins σ H {s with toks:=t}:=I.un (h':=s.heap) (t':=t) Un.refl I.hok
theorem Inv.kept{t':Nat}(I:Inv X pins σ H s)(k:∀b u,s.heap.get? b=some u->h'.get? b=some u):Inv X pins σ H {s with heap:=h',toks:=t'}:=I.un (Un.kept k) (I.hok.kept k)
theorem Inv.laid{a:Addr}{o:HO}{t':Nat}(I:Inv X pins σ H s)(k:∀b u,s.heap.get? b=some u->h'.get? b=some u)(hp:s.heap.objs.size<=a)(new:ObjOk X.prog X.w (upd H a o) h' a o):
  Inv X pins σ (upd H a o) {s with heap:=h',toks:=t'}:=I.un (Un.laid k hp (I.hok.fresh hp)) (I.hok.laid k hp new)
theorem Inv.write{x e:Addr}{o:HO}{t':Nat}(I:Inv X pins σ H s)(mu:qu (H x))(he:e=x∨H e=some (.own x))(k:∀b u,b≠e->s.heap.get? b=some u->h'.get? b=some u)(heo:∃u,h'.get? e=some u)
  (new:ObjOk X.prog X.w (upd H x o) h' x o):Inv X pins σ (upd H x o) {s with heap:=h',toks:=t'}:=I.un (Un.write mu he k heo) (I.hok.write mu he k heo new)
theorem Inv.pins_of{pins':List (Addr×Obj)}(I:Inv X pins σ H s)(h:∀p∈pins',s.heap.get? p.1=some p.2/\H p.1=none/\p.1≠X.env.locals/\p.1∉X.fs/\∀v,p.2.data≠ .cell v):Inv X pins' σ H s:=
 ⟨I.ok,I.os,I.bare,I.base,I.loc,I.cell,I.free,I.freeC,λp hp=>(bP.mp hp).elim (λz=>I.pin p (dY _ z)) (h p),I.hok,I.len⟩
theorem CM{N:List Str}(hN:N.Nodup){i j:Nat}{x:Str}(a:N[i]? =some x)(b:N[j]? =some x):i=j:=by
 obtain⟨h1,e1⟩:=cC.mp a;obtain⟨h2,e2⟩:=cC.mp b;exact (List.getElem_inj hN).mp (e1.trans e2.symm)
theorem DM{M:Model}{A:Around}{E:Value->Shared->Prop}{i:Nat}{x:Str}{v:V}{u:Value}{Q:Unit->Shared->Prop}(I:Inv X pins σ H s)(hN:X.N.Nodup)(hi:X.N[i]? =some x)(hx:pv X.env.scope x)(r:RelV v u)
  (h:∀s',Inv X pins (σ.set i (some v)) H s'->(∃a,Heap.SameBut a s.heap s'.heap/\(a=X.env.locals∨X.env.cells.lookup x=some a))->Q () s') (hf:X.fn x=true∨X.env.scope.names.lookup x=some .local:=by first | exact .inl rfl | exact .inr rfl | assumption):wpAny M A (storeName X.env x u) Q E s:=by
 obtain⟨m,hn,hl⟩:=id I.loc;have hcls:(X.env.scope.kind== .class||(X.env.scope.kind== .module&&X.env.locals !=X.env.globals))=false:=by rw[I.ok.kind];rfl
 have hiσ:i<σ.length:=by rw[I.len];exact (cC.mp hi).1
 have cne:=I.cne;have tracked:∀{a:Addr} {h':Heap},(∃o,s.heap.get? a=some o/\H a=none)->Heap.SameBut a s.heap h'->HOk X.prog X.w H h':=λ{a h'} ha hs b ob e=>by
  obtain⟨_,_,hfree⟩:=ha;refine (I.hok b ob e).stay (λc w' hc q=>(hs.2 c ?_).trans q) (λ_ q=>q) λ_ _ q=>q;rintro rfl;rcases hc with rfl | hc
  ·rw[hfree] at e;cases e
  ·rw[hfree] at hc;cases hc
 rcases hx with hk | hk
 ·refine wpAny_storeName_local hk hn (λh' hn' hs=>?_) hcls;obtain⟨oL,_,_,hoL,_⟩:=id hn;refine h _ ⟨I.ok,I.os,I.bare,⟨λb o e n hb hx=>?_,λb o e n hb hx=>?_,I.base.free,λb o e hx=>?_,I.base.tups,I.base.frzs,I.base.tbls⟩,⟨_,hn',λj y v' e1 e2 e3=>?_⟩,λy c e=>?_,I.free,I.freeC,λp hp=>?_,tracked ⟨oL,hoL,I.free⟩ hs,by simpa using I.len⟩ ⟨_,hs,.inl rfl⟩
  ·exact (hs.2 b (aW (bA (aV e) I.ok.above))).trans (I.base.keep b o e n hb hx)
  ·obtain⟨sl,e1⟩:=I.base.slot b o e n hb hx;exact⟨sl,(hs.2 b (aW (bA (aV e) I.ok.above))).trans e1⟩
  ·obtain⟨o',e1⟩:=I.base.there b o e hx;exact⟨o',(hs.2 b (aW (bA (aV e) I.ok.above))).trans e1⟩
  ·by_cases hj:j=i
   ·subst hj;rw[hi] at e1;cases e1;rw[List.getElem?_set_self hiσ] at e2;cases e2;exact⟨u,r,.inl ⟨hk,by simp⟩⟩
   ·rw[List.getElem?_set_ne (Ne.symm hj)] at e2;obtain⟨u',r',q⟩:=hl j y v' e1 e2 e3;refine⟨u',r',?_⟩;rcases q with ⟨k,e⟩ | ⟨k,c,e,z⟩
    ·refine .inl ⟨k,?_⟩;have:y≠x:=λe=>hj (CM hN e1 (e▸hi));simp[this,e]
    ·exact .inr ⟨k,c,e,z.sameBut hs (cne y c e)⟩
  ·obtain⟨w',z⟩:=I.cell y c e;exact⟨w',z.sameBut hs (cne y c e)⟩
  ·obtain⟨e,n,ne,nf,d⟩:=I.pin p hp;exact⟨(hs.2 p.1 ne).trans e,n,ne,nf,d⟩
 ·have hfn:X.fn x=true:=by
   rcases hf with z | z
   ·exact z
   ·rw[z] at hk;cases hk
  obtain⟨c,hc⟩:=I.ok.has x (.inl hk);obtain⟨w',z⟩:=I.cell x c hc;refine wpAny_storeName_cell I.ok.kind hk hc z (λh' hc' hs=>?_);obtain⟨oc,hoc,hocd⟩:=id z;refine h {s with heap:=h'} ⟨I.ok,I.os,I.bare,⟨λb o e n hb hx=>?_,λb o e n hb hx=>?_,I.base.free,λb o e hx=>?_,I.base.tups,I.base.frzs,I.base.tbls⟩,⟨m,hn.sameBut hs (Ne.symm (cne x c hc)),λj y v' e1 e2 e3=>?_⟩,λy c' e=>?_,I.free,I.freeC,λp hp=>?_,tracked ⟨oc,hoc,I.freeC x c hc⟩ hs,by simpa using I.len⟩ ⟨c,hs,.inr hc⟩
  ·exact (hs.2 b (aW (bA (aV e) (I.ok.cab x c hfn hc)))).trans (I.base.keep b o e n hb hx)
  ·obtain⟨sl,e1⟩:=I.base.slot b o e n hb hx;exact⟨sl,(hs.2 b (aW (bA (aV e) (I.ok.cab x c hfn hc)))).trans e1⟩
  ·obtain⟨o',e1⟩:=I.base.there b o e hx;exact⟨o',(hs.2 b (aW (bA (aV e) (I.ok.cab x c hfn hc)))).trans e1⟩
  ·by_cases hj:j=i
   ·subst hj;rw[hi] at e1;cases e1;rw[List.getElem?_set_self hiσ] at e2;cases e2;exact⟨u,r,.inr ⟨.inl hk,c,hc,hc'⟩⟩
   ·rw[List.getElem?_set_ne (Ne.symm hj)] at e2;obtain⟨u',r',q⟩:=hl j y v' e1 e2 e3;refine⟨u',r',?_⟩;rcases q with q | ⟨k,c',e,z'⟩
    ·exact .inl q
    ·refine .inr ⟨k,c',e,z'.sameBut hs ?_⟩;rintro rfl;exact hj (CM hN e1 (I.ok.inj _ _ _ e hc▸hi))
  ·by_cases hcc:c'=c
   ·subst hcc;exact⟨_,hc'⟩
   ·obtain⟨w2,z2⟩:=I.cell y c' e;exact⟨w2,z2.sameBut hs hcc⟩
  ·obtain⟨e,n,ne,nf,d⟩:=I.pin p hp;refine⟨(hs.2 p.1 ?_).trans e,n,ne,nf,d⟩;intro q;rw[q,hoc] at e;have q':oc=p.2:=aZ e;exact d w' (by rw[←q'];exact hocd)
theorem rP{M:Model}{A:Around}{E:Value->Shared->Prop}{i:Nat}{x:Str}{v:V}{u:Value}{Q:Unit->Shared->Prop}(I:Inv X pins σ H s)(hN:X.N.Nodup)(hi:X.N[i]? =some x)(hx:pv X.env.scope x)(r:RelV v u)
  (h:∀s',Inv X pins (σ.set i (some v)) H s'->Q () s') (hf:X.fn x=true∨X.env.scope.names.lookup x=some .local:=by first | exact .inl rfl | exact .inr rfl | assumption):wpAny M A (storeName X.env x u) Q E s:=
 DM I hN hi hx r (λs' I' _=>h s' I') hf
theorem Inv.call'{s':Shared}{ch:List Addr}(I:Inv X pins σ H s)(ho:s'.os=s.os)(u:Un (ki X.stack) ch H H' s.heap s'.heap)(hok:HOk X.prog X.w H' s'.heap)(hg:AllBare s'.gens)
  (hch:∀b∈ch,(b∈X.ex∨X.s₀.heap.objs.size<=b)/\b≠X.env.locals/\(∀x c,X.env.cells.lookup x=some c->c≠b)/\∀p∈X.pn++pins,p.1≠b):Inv X pins σ H' s':=by
 obtain⟨h',g',d',t',o'⟩:=s';have e:o'=s.os:=ho;subst e;exact I.call (g':=g') (t':=t') (d':=d') u hok hg hch
end
noncomputable abbrev XK:=Value->Option Addr->Hp->Prop
noncomputable abbrev St:=List (Option V)
noncomputable abbrev VK:=V->Hp->Prop
noncomputable abbrev TE:=St->Hp->VK->Prop
noncomputable abbrev TT:=St->Hp->(Bool->Hp->Prop)->Prop
noncomputable abbrev TA:=St->Hp->(List V->Hp->Prop)->Prop
structure iC where
 nx:St->Hp->Prop
 rt:VK
 bk:St->Hp->Prop:=λ_ _=>False
 ct:St->Hp->Prop:=λ_ _=>False
noncomputable abbrev TS:=iC->St->Hp->Prop
def EP(X:Cx)(pins:List (Addr×Obj))(σ:St)(Q:VK)(u:Value)(s':Shared):Prop:=∃v H',Inv X pins σ H' s'/\RelV v u/\Q v H'
def TP(X:Cx)(pins:List (Addr×Obj))(σ:St)(Q:Bool->Hp->Prop)(b:Bool)(s':Shared):Prop:=∃H',Inv X pins σ H' s'/\Q b H'
def AP(X:Cx)(pins:List (Addr×Obj))(σ:St)(Q:List V->Hp->Prop)(us:List Value)(s':Shared):Prop:=∃vs H',Inv X pins σ H' s'/\Vals vs us/\Q vs H'
def SP(X:Cx)(pins:List (Addr×Obj))(D:iC)(f:Flow)(s':Shared):Prop:=
 match f with
 |.next=>∃σ' H',Inv X pins σ' H' s'/\D.nx σ' H'
 |.brk=>∃σ' H',Inv X pins σ' H' s'/\D.bk σ' H'
 |.cont=>∃σ' H',Inv X pins σ' H' s'/\D.ct σ' H'
 |.ret u=>∃v σ' H',Inv X pins σ' H' s'/\RelV v u/\D.rt v H'
def PE(X:Cx)(e:Expr)(t:TE):Prop:=
 ∀(pins:List (Addr×Obj)) (s:Shared) (σ:St) (H:Hp) (Q:VK),Inv X pins σ H s->t σ H Q->wpAny (model X.prog X.w) X.A (eval e X.env) (EP X pins σ Q) X.xe s
def PT(X:Cx)(e:Expr)(t:TT):Prop:=
 ∀(pins:List (Addr×Obj)) (s:Shared) (σ:St) (H:Hp) (Q:Bool->Hp->Prop),Inv X pins σ H s->t σ H Q->wpAny (model X.prog X.w) X.A (isTrue e X.env (eval e X.env)) (TP X pins σ Q) X.xe s
def PW(X:Cx)(e:Expr)(t:TT):Prop:=
 ∀(whole:Sem Value) (pins:List (Addr×Obj)) (s:Shared) (σ:St) (H:Hp) (Q:Bool->Hp->Prop),Inv X pins σ H s->t σ H Q->wpAny (model X.prog X.w) X.A (isTrue e X.env whole) (TP X pins σ Q) X.xe s
theorem PW.pt{X:Cx}{e:Expr}{t:TT}(h:PW X e t):PT X e t:=h _
def PA(X:Cx)(es:List Expr)(t:TA):Prop:=
 ∀(pos:Pos) (pins:List (Addr×Obj)) (s:Shared) (σ:St) (H:Hp) (Q:List V->Hp->Prop),Inv X pins σ H s->t σ H Q->wpAny (model X.prog X.w) X.A (spliced (backTo pos (starEach es X.env))) (AP X pins σ Q) X.xe s
def PS(X:Cx)(st:Stmt)(t:TS):Prop:=
 ∀(pins:List (Addr×Obj)) (s:Shared) (σ:St) (H:Hp) (D:iC),Inv X pins σ H s->t D σ H->wpAny (model X.prog X.w) X.A (exec st X.env) (SP X pins D) X.xe s
def PSs(X:Cx)(st:List Stmt)(t:TS):Prop:=
 ∀(pins:List (Addr×Obj)) (s:Shared) (σ:St) (H:Hp) (D:iC),Inv X pins σ H s->t D σ H->wpAny (model X.prog X.w) X.A (execs st X.env) (SP X pins D) X.xe s
theorem fU{α:Type}{t:Sem α}{Q Q':α->Shared->Prop}{M:Model}{A:Around}{E:Value->Shared->Prop}{s:Shared}(h:wpAny M A t Q E s)(hQ:∀a s,Q a s->Q' a s):wpAny M A t Q' E s:=eP h hQ λ_ _ x=>x
section
variable{X:Cx}
inductive Ia (i:Nat) (σ:St) (H:Hp) (Q:VK):Prop
 |mk (v:V) (e:σ[i]? =some (some v)) (r:Q v H)
def rj(i:Nat):TE:=Ia i
def tC(v:V):TE:=λ_ H Q=>Q v H
theorem Nc{i:Nat}{x:Str}{pos:Pos}(hN:X.N[i]? =some x)(hv:xH X.env.scope x)(hd:(x==("__debug__":Str))=false:=by decide)(hcd:(x==("__classdict__":Str))=false:=by decide):PE X (.Name x pos) (rj i):=by
 intro pins s σ H Q I h;obtain⟨v,e,h⟩:=h;obtain⟨m,hn,hl⟩:=I.loc;obtain⟨u,r,l⟩:=hl i x v hN e hv;have fZ:EP X pins σ Q u s:=⟨v,H,I,r,h⟩;rcases l with ⟨hk,hm⟩ | ⟨hk,c,hc,hcell⟩
 ·exact wpAny_Name (wpAny_loadName_local I.ok.kind hk hn hm fZ) hd
 ·rcases hk with hk | hk
  ·exact wpAny_Name (wpAny_loadName_cell I.ok.kind hk hc hcell fZ) hd
  ·exact wpAny_Name (wpAny_loadName_free I.ok.kind hk hc hcell fZ hcd) hd
theorem GO{i j pos}:PE X (.Constant (.int i) j pos) (tC (.int i)):=λ_ _ _ H _ I h=>wpAny_Constant_int ⟨.int i,H,I.tok _,⟨()⟩,h⟩
theorem Lp{b j pos}:PE X (.Constant (.bool b) j pos) (tC (.bl b)):=λ_ _ _ H _ I h=>Constant_bool ⟨.bl b,H,I,rfl,h⟩
theorem aJ7{j pos}:PE X (.Constant .none j pos) (tC .non):=λ_ _ _ H _ I h=>Constant_none ⟨.non,H,I,rfl,h⟩
theorem CB{x j pos}:PE X (.Constant (.str x) j pos) (tC (.str x)):=λ_ _ _ H _ I h=>Calls.Constant_str ⟨.str x,H,I.tok _,⟨()⟩,h⟩
def Gl(X:Cx)(x:Str):Prop:=X.env.kindOf x=some .globalImplicit
theorem pe{E:Value->Shared->Prop}{pins:List (Addr×Obj)}{s:Shared}{σ:St}{H:Hp}{x:Str}{u:Value}{pos:Pos}{Q:Value->Shared->Prop}(I:Inv X pins σ H s)(hg:Gl X x)(hm:X.mg x=some u)(h:Q u s)
  (hd:(x==("__debug__":Str))=false:=by decide):wpAny (model X.prog X.w) X.A (eval (.Name x pos) X.env) Q E s:=
 Calls.Name_function_global I.ok.kind hg (Calls.loadGlobal_global (by rw[I.ok.glob];exact I.mod.glob.keeps I.bk) hm h) hd
theorem nV{E:Value->Shared->Prop}{pins:List (Addr×Obj)}{s:Shared}{σ:St}{H:Hp}{x:Str}{u:Value}{pos:Pos}{Q:Value->Shared->Prop}(I:Inv X pins σ H s)(hg:Gl X x)(hm:X.mg x=none)(hv:bootBuiltins x=some u)(h:Q u s)
  (hn:x≠"__name__":=by decide) (hd:(x==("__debug__":Str))=false:=by decide):wpAny (model X.prog X.w) X.A (eval (.Name x pos) X.env) Q E s:=by
 obtain⟨mb,h1,h2⟩:=I.mod.blt;exact Calls.Name_function_global I.ok.kind hg (Calls.loadGlobal_builtin (by rw[I.ok.glob];exact I.mod.glob.keeps I.bk) hm (by rw[I.ok.blt];exact h1.keeps I.bk) ((h2 x hn).trans hv) h) hd
theorem IC{x:Str}{v:V}{u:Value}{pos:Pos}(hg:Gl X x)(hm:X.mg x=some u)(r:RelV v u)(hd:(x==("__debug__":Str))=false:=by decide):PE X (.Name x pos) (tC v):=
 λ_ _ _ H _ I h=>pe I hg hm ⟨v,H,I,r,h⟩ hd
theorem SO{x:Str}{v:V}{u:Value}{pos:Pos}(hg:Gl X x)(hm:X.mg x=none)(hv:bootBuiltins x=some u)(r:RelV v u)(hn:x≠"__name__":=by decide)(hd:(x==("__debug__":Str))=false:=by decide):PE X (.Name x pos) (tC v):=
 λ_ _ _ H _ I h=>nV I hg hm hv ⟨v,H,I,r,h⟩ hn hd
variable{a b:Expr}{ta tb:TE}{pos:Pos}
def PC(X:Cx)(op:CmpOp)(a b:Expr)(t:TE):Prop:=
 ∀(pins:List (Addr×Obj)) (s:Shared) (σ:St) (H:Hp) (Q:VK),Inv X pins σ H s->t σ H Q->
  wpAny (model X.prog X.w) X.A (eval a X.env) (λv s₁=>wpAny (model X.prog X.w) X.A (eval b X.env) (λu s₂=>wpAny (model X.prog X.w) X.A (compareOp op v u) (EP X pins σ Q) X.xe s₂) X.xe s₁) X.xe s
theorem Qt(b:Expr){op:CmpOp}(h:op≠ .In)(h2:op≠ .NotIn):behindInMarks op b=false:=by
 have e1:(op==CmpOp.In)=false:=by cases op<;>first | rfl | exact absurd rfl h
 have e2:(op==CmpOp.NotIn)=false:=by cases op<;>first | rfl | exact absurd rfl h2
 cases b<;>simp[behindInMarks,e1,e2]
inductive pE (x:V) (H:Hp) (Q:Bool->Hp->Prop):Prop
 |mk (c:Bool) (e:x=.bl c) (r:Q c H)
def tB(t:TE):TT:=λσ H Q=>t σ H λx H1=>pE x H1 Q
theorem LJ{op:CmpOp}{t:TE}(h:PC X op a b t)(h1:behindInMarks op b=false:=by first | exact Qt _ (by decide) (by decide) | rfl):PT X (.Compare a [op] [b] pos) (tB t):=by
 intro pins s σ H Q I hw;refine wpAny_isTrue_Compare1 (fU (h pins s σ H _ I hw) λv s1 h1=>fU h1 λu s2 h2=>fU h2 λc s3 ⟨x,H1,I1,r1,q1⟩=>?_) h1;obtain⟨d,rfl,q⟩:=q1;cases r1;exact fF ⟨H1,I1,q⟩
theorem Ri{e:Expr}{t:TE}(h:PE X e t)(he:∀whole,isTrue e X.env whole=(do let v ←whole;standAt e.pos;holding [v] (truthy v)):=by intro _;rfl):PT X e (tB t):=by
 intro pins s σ H Q I hw;refine isTrue_plain (fU (h pins s σ H _ I hw) λv s1 ⟨x,H1,I1,r1,q1⟩=>?_) (he _);obtain⟨d,rfl,q⟩:=q1;cases r1;exact fF ⟨H1,I1,q⟩
variable{tA tB':TT}{rest:List Expr}
def Ec(t u:TT):TT:=λσ H Q=>t σ H λc H1=>if c=true then u σ H1 Q else Q false H1
def FI(t u:TT):TT:=λσ H Q=>t σ H λc H1=>if c=true then Q true H1 else u σ H1 Q
def Fl(t:TT):TT:=λσ H Q=>t σ H λc H1=>Q (!c) H1
theorem MB(ha:PT X a tA):PW X (.BoolOp .And [a] pos) tA:=by
 intro wh pins s σ H Q I h;refine isTrue_and (fU (ha pins s σ H Q I h) λc s1 e=>?_);cases c with
 |true=>exact isTrue_and_nil e
 |false=>exact e
theorem Vg(ha:PT X a tA):PW X (.BoolOp .Or [a] pos) tA:=by
 intro wh pins s σ H Q I h;refine isTrue_or (fU (ha pins s σ H Q I h) λc s1 e=>?_);cases c with
 |false=>exact isTrue_or_nil e
 |true=>exact e
theorem YS(ha:PT X a tA)(hb:PW X (.BoolOp .And (b::rest) pos) tB'):PW X (.BoolOp .And (a::b::rest) pos) (Ec tA tB'):=by
 intro wh pins s σ H Q I h;refine isTrue_and (fU (ha pins s σ H _ I h) λc s1 ⟨H1,I1,q1⟩=>?_);cases c with
 |true=>exact hb wh pins s1 σ H1 Q I1 q1
 |false=>exact⟨H1,I1,q1⟩
theorem T1(ha:PT X a tA)(hb:PW X (.BoolOp .Or (b::rest) pos) tB'):PW X (.BoolOp .Or (a::b::rest) pos) (FI tA tB'):=by
 intro wh pins s σ H Q I h;refine isTrue_or (fU (ha pins s σ H _ I h) λc s1 ⟨H1,I1,q1⟩=>?_);cases c with
 |true=>exact⟨H1,I1,q1⟩
 |false=>exact hb wh pins s1 σ H1 Q I1 q1
theorem Pq(ha:PT X a tA):PT X (.UnaryOp .Not a pos) (Fl tA):=by
 intro pins s σ H Q I h;exact isTrue_not (ha pins s σ H (λc H1=>Q (!c) H1) I h)
def Fz(ta tb:TE):TE:=λσ H Q=>ta σ H λx H1=>pE x H1 λc H1=>if c=true then tb σ H1 Q else Q (.bl false) H1
def GF(ta tb:TE):TE:=λσ H Q=>ta σ H λx H1=>pE x H1 λc H1=>if c=true then Q (.bl true) H1 else tb σ H1 Q
def EX(ta:TE):TE:=λσ H Q=>ta σ H λx H1=>pE x H1 λc H1=>Q (.bl (!c)) H1
theorem ZC{op}{t:TE}(h:PE X a t):PE X (.BoolOp op [a] pos) t:=λpins s σ H Q I hw=>BoolOp_one (h pins s σ H Q I hw)
theorem Zt(ha:PE X a ta)(hb:PE X (.BoolOp .And (b::rest) pos) tb):PE X (.BoolOp .And (a::b::rest) pos) (Fz ta tb):=by
 intro pins s σ H Q I h;refine BoolOp_and (fU (ha pins s σ H _ I h) λv s1 ⟨x,H1,I1,r1,q1⟩=>?_);obtain⟨c,rfl,q1⟩:=q1;cases r1;refine fF ?_;cases c with
 |true=>exact hb pins s1 σ H1 Q I1 q1
 |false=>exact⟨.bl false,H1,I1,rfl,q1⟩
theorem XU(ha:PE X a ta)(hb:PE X (.BoolOp .Or (b::rest) pos) tb):PE X (.BoolOp .Or (a::b::rest) pos) (GF ta tb):=by
 intro pins s σ H Q I h;refine BoolOp_or (fU (ha pins s σ H _ I h) λv s1 ⟨x,H1,I1,r1,q1⟩=>?_);obtain⟨c,rfl,q1⟩:=q1;cases r1;refine fF ?_;cases c with
 |false=>exact hb pins s1 σ H1 Q I1 q1
 |true=>exact⟨.bl true,H1,I1,rfl,q1⟩
theorem Vn(ha:PE X a ta):PE X (.UnaryOp .Not a pos) (EX ta):=by
 intro pins s σ H Q I h;refine UnaryOp_ (fU (ha pins s σ H _ I h) λv s1 ⟨x,H1,I1,r1,q1⟩=>?_);obtain⟨c,rfl,q1⟩:=q1;cases r1;exact not_of (fF ⟨.bl (!c),H1,I1,rfl,q1⟩)
def B8(t:TT)(ta tb:TE):TE:=λσ H Q=>t σ H λc H1=>if c=true then ta σ H1 Q else tb σ H1 Q
theorem Nu{c:Expr}(hc:PT X c tA)(ha:PE X a ta)(hb:PE X b tb):PE X (.IfExp c a b pos) (B8 tA ta tb):=by
 intro pins s σ H Q I h;refine wpAny_IfExp (fU (hc pins s σ H _ I h) λd s1 ⟨H1,I1,q1⟩=>?_);cases d with
 |true=>exact ha pins s1 σ H1 Q I1 q1
 |false=>exact hb pins s1 σ H1 Q I1 q1
end
def SqL(K:FG)(H:Hp)(a:Addr)(xs:List V):Prop:=
 Rd H a (.lst xs)∨
  ∃(o:Obj) (its:Array Value) (n:Nat),K.lookup a=some o/\o.cls=.type "list"/\o.dict=none/\o.data=.seq its n/\its.size<=sizeLine/\Vals xs its.toList
def SqT(K:FG)(H:Hp)(a:Addr)(xs:List V):Prop:=
 Rd H a (.tup xs)∨
  ∃(o:Obj) (its:Array Value) (n:Nat),K.lookup a=some o/\o.cls=.type "tuple"/\o.data=.seq its n/\its.size<=sizeLine/\Vals xs its.toList
noncomputable def vc:Value->Option V
 |.none=>some .non
 |.bool b=>some (.bl b)
 |.int i _=>some (.int i)
 |.str x _=>some (.str x)
 |.bytes b _=>some (.byt b)
 |.float b _=>some (.flt b)
 |.ref a=>some (.ref a)
 |.type n=>some (.ty n)
 |_=>none
theorem RelV.abs{x:V}{u:Value}(r:RelV x u):vc u=some x:=by
 cases x with
 |non=>cases r;rfl
 |bl _=>cases r;rfl
 |int _=>obtain⟨t,rfl⟩:=r;rfl
 |str _=>obtain⟨t,rfl⟩:=r;rfl
 |byt _=>obtain⟨t,rfl⟩:=r;rfl
 |flt _=>obtain⟨t,rfl⟩:=r;rfl
 |ref _=>cases r;rfl
 |ty _=>cases r;rfl
theorem RelV.inj{x y:V}{u:Value}(r:RelV x u)(q:RelV y u):x=y:=aZ (r.abs.symm.trans q.abs)
theorem Vals.inj:∀{xs ys:List V} {us:List Value},Vals xs us->Vals ys us->xs=ys
 |_,_,_,.nil,.nil=>rfl
 |_,_,_,.cons r t,.cons r' t'=>by rw[r.inj r',Vals.inj t t']
section
variable{X:Cx}{pins:List (Addr×Obj)}{σ:St}{H:Hp}{s:Shared}{a:Addr}{xs ys:List V}
theorem SqL.of{K:FG}(h:H a=some (.lst xs)):SqL K H a xs:=.inl (.inl h)
theorem SqT.of{K:FG}(h:H a=some (.tup xs)):SqT K H a xs:=.inl (.inl h)
theorem Inv.list(I:Inv X pins σ H s)(h:SqL X.K H a xs):∃its:List Value,Vals xs its/\PlainL s.heap a its.toArray/\xs.length<=sizeLine:=by
 rcases h with h | ⟨o,its,n,hk,hc,hd,hs,hz,r⟩
 ·obtain⟨z,its,n,r,e⟩:=h.ok I.hok;exact⟨its,r,⟨_,n,e,rfl,rfl,rfl⟩,z⟩
 ·refine⟨its.toList,r,⟨o,n,I.kIn a o hk,hc,hd,by simpa using hs⟩,?_⟩;have e:=r.length;simp only[bS] at e;omega
theorem Inv.tuple(I:Inv X pins σ H s)(h:SqT X.K H a xs):∃its:List Value,Vals xs its/\IsTup s.heap a its.toArray/\xs.length<=sizeLine:=by
 rcases h with h | ⟨o,its,n,hk,hc,hs,hz,r⟩
 ·obtain⟨z,its,r,p⟩:=h.ok I.hok;exact⟨its,r,p,z⟩
 ·refine⟨its.toList,r,⟨o,I.kIn a o hk,hc,n,by simpa using hs⟩,?_⟩;have e:=r.length;simp only[bS] at e;omega
theorem Inv.list_inj(I:Inv X pins σ H s)(h:SqL X.K H a xs)(h':SqL X.K H a ys):xs=ys:=by
 obtain⟨its,r,⟨o,n,e,_,_,d⟩,_⟩:=I.list h;obtain⟨its',r',⟨o',n',e',_,_,d'⟩,_⟩:=I.list h';rw[e] at e';cases e';rw[d] at d';injection d' with d1 _;have:its=its':=by simpa using congrArg Array.toList d1
 subst this;exact r.inj r'
theorem Inv.tuple_inj(I:Inv X pins σ H s)(h:SqT X.K H a xs)(h':SqT X.K H a ys):xs=ys:=by
 obtain⟨its,r,⟨o,e,_,n,d⟩,_⟩:=I.tuple h;obtain⟨its',r',⟨o',e',_,n',d'⟩,_⟩:=I.tuple h';rw[e] at e';cases e';rw[d] at d';injection d' with d1 _;have:its=its':=by simpa using congrArg Array.toList d1
 subst this;exact r.inj r'
end
noncomputable abbrev Cx.wish(X:Cx)(E:Value->Shared->Prop):Cx:={X with xe:=E}
noncomputable abbrev Cx.nox(X:Cx):Cx:=X.wish λ_ _=>False
theorem Cx.Ok.wish{X:Cx}(ok:X.Ok)(E:Value->Shared->Prop):(X.wish E).Ok:=
 ⟨ok.mod,ok.kind,ok.glob,ok.blt,ok.above,ok.inj,ok.has,ok.cab,ok.hd,ok.frames,ok.stk,ok.exf,ok.bs,ok.bsz,ok.noex,ok.exfs,ok.funs,ok.frf⟩
theorem Cx.Ok.unwish{X:Cx}{E:Value->Shared->Prop}(ok:(X.wish E).Ok):X.Ok:=
 ⟨ok.mod,ok.kind,ok.glob,ok.blt,ok.above,ok.inj,ok.has,ok.cab,ok.hd,ok.frames,ok.stk,ok.exf,ok.bs,ok.bsz,ok.noex,ok.exfs,ok.funs,ok.frf⟩
section
variable{X:Cx}{pins:List (Addr×Obj)}{σ:St}{H:Hp}{s:Shared}{E:Value->Shared->Prop}
theorem Inv.wish(I:Inv X pins σ H s)(E:Value->Shared->Prop):Inv (X.wish E) pins σ H s:=⟨I.ok.wish E,I.os,I.bare,I.base,I.loc,I.cell,I.free,I.freeC,I.pin,I.hok,I.len⟩
theorem Inv.unwish(I:Inv (X.wish E) pins σ H s):Inv X pins σ H s:=⟨I.ok.unwish,I.os,I.bare,I.base,I.loc,I.cell,I.free,I.freeC,I.pin,I.hok,I.len⟩
theorem SP.unwish{D:iC}{f:Flow}{s':Shared}(h:SP (X.wish E) pins D f s'):SP X pins D f s':=by
 cases f with
 |next=>obtain⟨σ',H',I,q⟩:=h;exact⟨σ',H',I.unwish,q⟩
 |brk=>obtain⟨σ',H',I,q⟩:=h;exact⟨σ',H',I.unwish,q⟩
 |cont=>obtain⟨σ',H',I,q⟩:=h;exact⟨σ',H',I.unwish,q⟩
 |ret u=>obtain⟨v,σ',H',I,r,q⟩:=h;exact⟨v,σ',H',I.unwish,r,q⟩
theorem PSs.nox{st:List Stmt}{t:TS}(h:PSs X.nox st t):PSs X st t:=λpins s σ H D I hw=>
 eP (h pins s σ H D (I.wish _) hw) (λ_ _ q=>q.unwish) λ_ _ z=>False.elim z
end
section
variable{X:Cx}{st:Stmt}{rest:List Stmt}{t u:TS}{e:Expr}{te:TE}{pos:Pos}
def GM:TS:=λD σ H=>D.nx σ H
def rM(t u:TS):TS:=λD σ H=>t {D with nx:=u D} σ H
theorem WV:PSs X [] GM:=λ_ _ σ H _ I h=>wpAny_execs_nil ⟨σ,H,I,h⟩
theorem Lz(h1:PS X st t)(h2:PSs X rest u):PSs X (st::rest) (rM t u):=by
 intro pins s σ H D I h;refine wpAny_execs_cons (fU (h1 pins s σ H {D with nx:=u D} I h) λf s1 q=>?_);cases f with
 |next=>
  obtain⟨σ',H',I',q⟩:=q;exact h2 pins s1 σ' H' D I' q
 |ret v=>exact q
 |brk=>exact q
 |cont=>exact q
theorem MN(h1:PS X st t):PSs X [st] t:=by
 intro pins s σ H D I h;refine wpAny_execs_cons (fU (h1 pins s σ H D I h) λf s1 q=>?_);cases f with
 |next=>exact wpAny_execs_nil q
 |ret v=>exact q
 |brk=>exact q
 |cont=>exact q
theorem Inv.quiet{pins:List (Addr×Obj)}{σ:St}{H:Hp}{s:Shared}(I:Inv X pins σ H s):interactive X.env=false:=by simp[interactive,I.ok.kind]
def BP(te:TE):TS:=λD σ H=>te σ H λ_ H1=>D.nx σ H1
theorem ZO(he:PE X e te)(hs:swapsWith e none pos.line X.env=pure false:=by rfl):PS X (.Expr e pos) (BP te):=by
 intro pins s σ H D I h;exact wpAny_Expr_any (fU (he pins s σ H _ I h) λv s1 ⟨x,H1,I1,r1,q1⟩=>⟨σ,H1,I1,q1⟩) I.quiet hs
def DC(te:TE):TS:=λD σ H=>te σ H D.rt
theorem Nd(he:PE X e te):PS X (.Return (some e) pos) (DC te):=by
 intro pins s σ H D I h;exact wpAny_Return_some (fU (he pins s σ H _ I h) λv s1 ⟨x,H1,I1,r1,q1⟩=>⟨x,σ,H1,I1,r1,q1⟩)
def B4(c:TT)(t u:TS):TS:=λD σ H=>c σ H λb H1=>if b=true then t D σ H1 else u D σ H1
theorem K6{c:Expr}{a b:List Stmt}{tc:TT}(hc:PT X c tc)(ha:PSs X a t)(hb:PSs X b u):PS X (.If c a b pos) (B4 tc t u):=by
 intro pins s σ H D I h;refine wpAny_If (fU (hc pins s σ H _ I h) λd s1 ⟨H1,I1,q1⟩=>?_);cases d with
 |true=>exact ha pins s1 σ H1 D I1 q1
 |false=>exact hb pins s1 σ H1 D I1 q1
def Es:TS:=λ_ _ _=>False
theorem RL:PS X st Es:=λ_ _ _ _ _ _ h=>h.elim
end
noncomputable abbrev TG:=V->St->Hp->(St->Hp->Prop)->Prop
noncomputable abbrev jx:=List V->St->Hp->(St->Hp->Prop)->Prop
def PG(X:Cx)(target:Expr)(t:TG):Prop:=
 ∀(pins:List (Addr×Obj)) (s:Shared) (σ:St) (H:Hp) (v:V) (u:Value) (Q:St->Hp->Prop),Inv X pins σ H s->RelV v u->t v σ H Q->
  wpAny (model X.prog X.w) X.A (assign target X.env u) (λ_ s'=>∃σ' H',Inv X pins σ' H' s'/\Q σ' H') X.xe s
def qq(X:Cx)(ts:List Expr)(t:jx):Prop:=
 ∀(pins:List (Addr×Obj)) (s:Shared) (σ:St) (H:Hp) (vs:List V) (us:List Value) (Q:St->Hp->Prop),Inv X pins σ H s->Vals vs us->t vs σ H Q->
  wpAny (model X.prog X.w) X.A (assignInOrder ((assignEach ts X.env).map (·.2)) us) (λ_ s'=>∃σ' H',Inv X pins σ' H' s'/\Q σ' H') X.xe s
noncomputable abbrev uQ:=V->V->V->Hp->(Hp->Prop)->Prop
def CY(X:Cx)(t:uQ):Prop:=
 ∀(pins:List (Addr×Obj)) (s:Shared) (σ:St) (H:Hp) (o i v:V) (ov iv u:Value) (Q:Hp->Prop),Inv X pins σ H s->RelV o ov->RelV i iv->RelV v u->t o i v H Q->
  wpAny (model X.prog X.w) X.A (setItem ov iv u) (λ_ s'=>∃H',Inv X pins σ H' s'/\Q H') X.xe s
section
variable{X:Cx}{pos:Pos}
def i7(i:Nat):TG:=λv σ H Q=>Q (σ.set i (some v)) H
theorem FQ{i:Nat}{x:Str}(hN:X.N.Nodup)(hi:X.N[i]? =some x)(hx:pv X.env.scope x)(hf:X.fn x=true∨X.env.scope.names.lookup x=some .local:=by first | exact .inl rfl | exact .inr rfl | assumption):PG X (.Name x pos) (i7 i):=by
 intro pins s σ H v u Q I r h;exact wpAny_assign_Name (rP I hN hi hx r (λs' I'=>⟨_,H,I',h⟩) hf)
inductive NV (vs:List V) (σ:St) (H:Hp) (Q:St->Hp->Prop):Prop
 |mk (e:vs=[]) (r:Q σ H)
def tH:jx:=NV
inductive W9 (t:TG) (u:jx) (vs:List V) (σ:St) (H:Hp) (Q:St->Hp->Prop):Prop
 |mk (v:V) (r:List V) (e:vs=v::r) (h:t v σ H λσ' H'=>u r σ' H' Q)
def qM(t:TG)(u:jx):jx:=W9 t u
theorem SK:qq X [] tH:=by
 intro pins s σ H vs us Q I r h;obtain⟨e,h⟩:=h;subst e;cases r;exact assignInOrder_nil ⟨σ,H,I,h⟩
theorem Xv{e:Expr}{es:List Expr}{t:TG}{u:jx}(h1:PG X e t)(h2:qq X es u)
  (hs:(assignEach (e::es) X.env).map (·.2)=assign e X.env::(assignEach es X.env).map (·.2):=by rfl):qq X (e::es) (qM t u):=by
 intro pins s σ H vs us Q I r h;obtain⟨v,vr,e1,h⟩:=h;subst e1;cases r with
 |cons r rr=>
  rw[hs];refine assignInOrder_cons (fU (h1 pins s σ H _ _ _ I r h) λ_ s1 ⟨σ1,H1,I1,q1⟩=>?_);exact h2 pins s1 σ1 H1 _ _ Q I1 rr q1
inductive XG (K:FG) (n:Nat) (t:jx) (v:V) (σ:St) (H:Hp) (Q:St->Hp->Prop):Prop
 |mk (a:Addr) (xs:List V) (e:v=.ref a) (s:SqT K H a xs) (l:xs.length=n) (r:t xs σ H Q)
def sg(K:FG)(n:Nat)(t:jx):TG:=XG K n t
theorem QT{es:List Expr}{k:Nat}{t:jx}{n:Nat}(hc:X.calm=true)(h:qq X es t)
  (hn:(assignEach es X.env).length=n:=by rfl) (hst:(assignEach es X.env).findIdx? (·.1)=none:=by rfl):PG X (.Tuple es k pos) (sg X.K n t):=by
 intro pins s σ H v u Q I r hw;obtain⟨a,xs,e1,hq,hl,hw⟩:=hw;subst e1;cases r;obtain⟨its,rv,ht,hz⟩:=I.tuple hq;refine assign_Tuple_tuple (I.ok.hd hc) ht (by simp[hn,←hl,rv.length]) hst λh' hx=>?_;have I1:Inv X pins σ H {s with heap:=h'}:=I.kept (t':=s.toks) λb o e=>hx b o (aW (aV e)) e;exact h pins _ σ H xs _ Q I1 (by simpa using rv) hw
def Ca(to ti:TE)(t:uQ):TG:=λv σ H Q=>to σ H λo H1=>ti σ H1 λi H2=>t o i v H2 λH3=>Q σ H3
theorem K8{o i:Expr}{to ti:TE}{t:uQ}(ho:PE X o to)(hi:PE X i ti)(hs:CY X t)
  (ha:∀v,assign (.Subscript o i pos) X.env v=(do
   let ov ←holding [v] (eval o X.env)
   let iv ←holding [v,ov] (eval i X.env)
   standAt pos
   holding [v,ov,iv] (setItem ov iv v)
   release [v,ov,iv] []):=by intro _;rfl):PG X (.Subscript o i pos) (Ca to ti t):=by
 intro pins s σ H v u Q I r h;rw[ha];refine eO (eU (fU (ho pins s σ H _ I h) λov s1 ⟨x,H1,I1,r1,q1⟩=>?_));refine eO (eU (fU (hi pins s1 σ H1 _ I1 q1) λiv s2 ⟨y,H2,I2,r2,q2⟩=>?_));refine eO (wpAny_standAt (eO (eU (fU (hs pins s2 σ H2 x y v ov iv u _ I2 r1 r2 r q2) λ_ s3 ⟨H3,I3,q3⟩=>?_))));exact wpAny_release ⟨σ,H3,I3,q3⟩
def pA(te:TE)(g:TG):TS:=λD σ H=>te σ H λx H1=>g x σ H1 D.nx
theorem OU{tg e:Expr}{te:TE}{g:TG}(he:PE X e te)(hg:PG X tg g)(hs:swapsWithSole [tg] e pos.line X.env=pure false:=by rfl)(hw:swappedStores [tg] e X.env=pure none:=by rfl)
  (h1:(assignEach [tg] X.env).map (·.2)=[assign tg X.env]:=by rfl):PS X (.Assign [tg] e pos) (pA te g):=by
 intro pins s σ H D I h;refine wpAny_Assign_stores (fU (he pins s σ H _ I h) λv s1 ⟨x,H1,I1,r1,q1⟩=>?_) hs hw;rw[h1];exact fU (hg pins s1 σ H1 x v _ I1 r1 q1) λ_ s2 q=>q
theorem IP{i:Nat}{x:Str}{e:Expr}{te:TE}{pos':Pos}(hN:X.N.Nodup)(hi:X.N[i]? =some x)(hx:pv X.env.scope x)(he:PE X e te)(hs:swapsWith e (some (.Name x pos')) pos.line X.env=pure false:=by rfl)(hf:X.fn x=true∨X.env.scope.names.lookup x=some .local:=by first | exact .inl rfl | exact .inr rfl | assumption):
  PS X (.Assign [.Name x pos'] e pos) (pA te (i7 i)):=by
 intro pins s σ H D I h;refine wpAny_Assign_Name (fU (he pins s σ H _ I h) λv s1 ⟨y,H1,I1,r1,q1⟩=>?_) hs;exact rP I1 hN hi hx r1 (λs2 I2=>⟨_,H1,I2,q1⟩) hf
def Bx(i j:Nat)(ta:TA):TS:=λD σ H=>ta σ H λvs H1=>∃v w,vs=[v,w]/\D.nx ((σ.set i (some v)).set j (some w)) H1
theorem Sa{i j:Nat}{x y:Str}{a b:Expr}{ta:TA}{px py pt:Pos}{kt k2 pt2}(hc:X.calm=true)(hN:X.N.Nodup)(hi:X.N[i]? =some x)(hj:X.N[j]? =some y)(hij:i≠j)
  (hx:X.env.scope.names.lookup x=some .local) (hy:X.env.scope.names.lookup y=some .local) (ha:PA X [a,b] ta)
  (hw:swappedStores [.Tuple [.Name x px,.Name y py] kt pt] (.Tuple [a,b] k2 pt2) X.env=pure (some [x,y]))
  (hs:swapsWithSole [.Tuple [.Name x px,.Name y py] kt pt] (.Tuple [a,b] k2 pt2) pos.line X.env=pure false:=by rfl):
  PS X (.Assign [.Tuple [.Name x px,.Name y py] kt pt] (.Tuple [a,b] k2 pt2) pos) (Bx i j ta):=by
 intro pins s σ H D I h;rw[exec_Assign_arm];refine eO (wpAny_standAt ?_);rw[hs];refine eO (fE ?_);rw[if_neg (by decide)];refine eO (Tuple_ (fU (ha _ pins s σ H _ I h) λus s1 ⟨vs,H1,I1,r1,q1⟩=>?_));obtain⟨v,w,e1,q1⟩:=q1;subst e1;obtain⟨u1,u2,rfl,rv,rw'⟩:∃u1 u2,us=[u1,u2]/\RelV v u1/\RelV w u2:=by
  cases r1 with
  |cons p q=>
   cases q with
   |cons p' q'=>
    cases q';exact⟨_,(),p,p'⟩
 refine eK ?_ (by show 2<=sizeLine;decide);have I2:Inv X pins σ H1 {s1 with heap:=s1.heap.push {cls:=.type "tuple",data:=.seq [u1,u2].toArray} }:=I1.kept (t':=s1.toks) λb o e=>aU _ e;rw[hw];refine eO (fE ?_);show wpAny (model X.prog X.w) X.A (do rule "assign.swapped-stores";let items ←unpackItems (.ref s1.heap.objs.size) 2 none;assignInOrder [λv=>bindName X.env y v,λv=>bindName X.env x v] items.reverse;pure Flow.next) _ _ _
 refine eO (wpAny_rule (eO (unpackItems_tuple (items:= #[u1,u2]) (I.ok.hd hc) (IsTup.new s1.heap _) λh' hx'=>?_)));have I3:=I2.kept (h':=h') (t':=s1.toks) λb o e=>hx' b o (aW (aV e)) e;show wpAny _ _ (assignInOrder [λv=>bindName X.env y v,λv=>bindName X.env x v] [u2,u1] >>=λ_=>pure Flow.next) _ _ _;refine eO (assignInOrder_cons (wpAny_bindName (rP I3 hN hj (.inl hy) rw' (λs2 I4=>?_) (.inr hy))));refine assignInOrder_cons (wpAny_bindName (rP I4 hN hi (.inl hx) rv (λs3 I5=>assignInOrder_nil (fE ?_)) (.inr hx)))
 rw[List.set_comm _ _ (Ne.symm hij)] at I5;exact⟨_,H1,I5,q1⟩
def uF(c:TT)(tb:TS):TS:=λD σ H=>∃W:Nat->St->Hp->Prop,(∃m,W m σ H)/\∀m σ H,W m σ H->
 c σ H λb H1=>if b=true then ∃N:St->Hp->Prop,(∀σ' H',N σ' H'->∃m',m'<m/\W m' σ' H')/\tb {D with nx:=N,ct:=N,bk:=D.nx} σ H1 else D.nx σ H1
theorem VI{c:Expr}{body:List Stmt}{tc:TT}{tb:TS}(hp:PassesOwn (model X.prog X.w) X.A X.env X.xe)(hc:PT X c tc)(hb:PSs X body tb):PS X (.While c body [] pos) (uF tc tb):=by
 intro pins s σ H D I h;obtain⟨W,⟨m0,w0⟩,turn⟩:=h;refine wpAny_While (codeAny_whileLoop (λn s'=>∃σ' H',Inv X pins σ' H' s'/\W n σ' H') ?_ m0 ⟨σ,H,I,w0⟩);rintro n s1 ⟨σ1,H1,I1,w1⟩;refine eJ hp (fU (hc pins s1 σ1 H1 _ I1 (turn n σ1 H1 w1)) λb s2 ⟨H2,I2,q2⟩=>?_);cases b with
 |true=>
  obtain⟨N,hN,q2⟩:=q2;rw[if_pos rfl];refine eJ hp (fU (hb pins s2 σ1 H2 _ I2 q2) λf s3 q3=>?_);cases f with
  |next=>
   obtain⟨σ3,H3,I3,n3⟩:=q3;obtain⟨m',hm,w3⟩:=hN σ3 H3 n3;exact⟨m',hm,σ3,H3,I3,w3⟩
  |cont=>
   obtain⟨σ3,H3,I3,n3⟩:=q3;obtain⟨m',hm,w3⟩:=hN σ3 H3 n3;exact⟨m',hm,σ3,H3,I3,w3⟩
  |brk=>exact q3
  |ret v=>exact q3
 |false=>
  rw[if_neg a8];exact wpAny_execs_nil ⟨σ1,H2,I2,q2⟩
end
structure It where
 go:Nat->Hp->Prop
 yld:Nat->Hp->V->Hp->Prop
 stop:Nat->Hp->Prop
def j4(X:Cx)(pins:List (Addr×Obj))(H:Hp)(b:Addr):Prop:=
 H b=none/\b≠X.env.locals/\b∉X.fs/\(b∈X.ex∨X.s₀.heap.objs.size<=b)/\(∀x c,X.env.cells.lookup x=some c->c≠b)/\∀p∈X.pn++pins,p.1≠b
theorem Inv.fpOk{X:Cx}{pins:List (Addr×Obj)}{σ:St}{H H':Hp}{s:Shared}{b:Addr}(I:Inv X pins σ H s)(hb:s.heap.objs.size<=b)(hn:H' b=none):j4 X pins H' b:=by
 refine⟨hn,Nat.ne_of_gt (bA I.lt hb),I.nofs hb,.inr (bL I.sz hb),λx c e z=>?_,λp hp z=>?_⟩
 ·obtain⟨v,q⟩:=I.cell x c e;exact absurd (bA q.lt (by rw[z];exact hb)) (cR _)
 ·exact absurd (bA (aV (I.pin p hp).1) (by rw[z];exact hb)) (cR _)
structure iO(P:Program)(w:World)(K:FG)(tg:Expr)(J:It)(fp:List Addr)(it:Addr)(tn:Nat->Heap->Prop):Prop where
 mem:it∈fp
 obj:∀i h,tn i h->∀b∈fp,∃o,h.get? b=some o/\∀v,o.data≠ .cell v
 keep:∀i h h',tn i h->(∀b∈fp,∀o,h.get? b=some o->h'.get? b=some o)->tn i h'
 item:∀(X:Cx),X.prog=P->X.w=w->X.K=K->X.calm=true->∀(i:Nat) (pins:List (Addr×Obj)) (s:Shared) (σ:St) (H:Hp) (E:Value->Shared->Prop),Inv X pins σ H s->(∀b∈fp,j4 X pins H b)->tn i s.heap->J.go i H->
  wpAny (model P w) X.A (pyNext (.ref it)) (λr s1=>∃u,r=some u/\
   wpAny (model P w) X.A (letOwnedTupleGo tg (.ref it) u) (λ_ s2=>∃x H',Inv X pins σ H' s2/\RelV x u/\J.yld i H x H'/\tn (i+1) s2.heap/\∀b∈fp,H' b=none) E s1) E s
 done:∀(X:Cx),X.prog=P->X.w=w->X.K=K->X.calm=true->∀(i:Nat) (pins:List (Addr×Obj)) (s:Shared) (σ:St) (H:Hp) (E:Value->Shared->Prop),Inv X pins σ H s->(∀b∈fp,j4 X pins H b)->tn i s.heap->J.stop i H->
  wpAny (model P w) X.A (pyNext (.ref it)) (λr s1=>r=none/\Inv X pins σ H s1) E s
 self:∀(A:Around) (i:Nat) (s:Shared) (Q:Value->Shared->Prop) (E:Value->Shared->Prop),tn i s.heap->Q (.ref it) s->wpAny (model P w) A (pyIter (.ref it)) Q E s
noncomputable abbrev TI:=St->Hp->(It->Hp->Prop)->Prop
def Ak(X:Cx)(pins:List (Addr×Obj))(σ:St)(tg:Expr)(R:It->Hp->Prop)(itv:Value)(s2:Shared):Prop:=
 ∃(it:Addr) (fp:List Addr) (tn:Nat->Heap->Prop) (J:It) (H':Hp),itv=.ref it/\Inv X pins σ H' s2/\iO X.prog X.w X.K tg J fp it tn/\tn 0 s2.heap/\(∀b∈fp,j4 X pins H' b)/\R J H'
def PI(X:Cx)(tg iter:Expr)(wi:TI):Prop:=
 ∀(pins:List (Addr×Obj)) (s:Shared) (σ:St) (H:Hp) (R:It->Hp->Prop),Inv X pins σ H s->wi σ H R->
  wpAny (model X.prog X.w) X.A (eval iter X.env) (λv s1=>wpAny (model X.prog X.w) X.A (pyIter v) (Ak X pins σ tg R) X.xe s1) X.xe s
theorem nz{M:Model}{A:Around}{E:Value->Shared->Prop}{s:Shared}{tg:Expr}{it:Addr}{u:Value}{o:Obj}{n:String}{vs:Array Value}{Q:Unit->Shared->Prop}(ho:s.heap.get? it=some o)(hc:o.cls=.type n)(hd:o.data=.fields vs)
  (hn:["enumerate","zip","dict_itemiterator","dict_reverseitemiterator","odict_iterator","itertools.zip_longest","itertools.pairwise"].contains n=false) (hQ:Q () s):wpAny M A (letOwnedTupleGo tg (.ref it) u) Q E s:=by
 unfold letOwnedTupleGo;cases tg<;>first
  |exact fE hQ
  |(cases u<;>first
    |exact fE hQ
    |(refine eO (wpAny_load ho ?_)
      rw[hc,hd];show wpAny M A (if (["enumerate","zip","dict_itemiterator","dict_reverseitemiterator","odict_iterator","itertools.zip_longest","itertools.pairwise"].contains n&&vs[0]? ==some (rawInt _))=true then _ else _) Q E s;rw[if_neg (by intro h;rw[hn,cZ] at h;cases h)];exact fE hQ))
noncomputable def nX(K:FG)(a:Addr):It:=
 ⟨λi H=>∃xs x,SqL K H a xs/\xs[i]? =some x,λi H x H'=>H'=H/\∀xs,SqL K H a xs->xs[i]? =some x,λi H=>∃xs,SqL K H a xs/\xs.length<=i⟩
noncomputable def pW(K:FG)(a:Addr):It:=
 ⟨λi H=>∃xs x,SqT K H a xs/\xs[i]? =some x,λi H x H'=>H'=H/\∀xs,SqT K H a xs->xs[i]? =some x,λi H=>∃xs,SqT K H a xs/\xs.length<=i⟩
noncomputable def lc(lo:Int)(n:Nat):It:=⟨λi _=>i<n,λi H x H'=>H'=H/\x=.int (lo+i),λi _=>n<=i⟩
theorem KN{P:Program}{w:World}{K:FG}{tg:Expr}(a it:Addr):iO P w K tg (nX K a) [it] it (λi h=>h.IsListIter it a i) where
 mem:=by simp
 obj:=λi h st b hb=>by
  have e:b=it:=by simpa using hb
  subst e;obtain⟨o,e,c,d⟩:=st;exact⟨o,e,λv z=>by rw[d] at z;cases z⟩
 keep:=λi h h' st k=>st.at λo e=>k it (by simp) o e
 item:=by
  intro X hP hw hK hc i pins s σ H E I hf st hg;subst hP hw hK;obtain⟨xs,x,hq,hx⟩:=hg;obtain⟨its,rv,p,hz⟩:=I.list hq;obtain⟨u,hu,ru⟩:=rv.get hx;obtain⟨f0,f1,f2,f3,f4,f5⟩:=hf it (by simp);refine wpAny_pyNext_list_item st p.isList (x:=u) (by simpa using hu) λh' st' sb=>?_;have I1:Inv X pins σ H {s with heap:=h'}:=I.turned (t':=s.toks) (λb o hb e=>(sb.2 b hb).trans e) f0 f1 f3 f4 f5;obtain⟨o,e,c,d⟩:=id st'
  exact⟨u,rfl,nz (s:={s with heap:=h'}) e c d (by decide) ⟨x,H,I1,ru,⟨rfl,λys hy=>by rw[I.list_inj hy hq];exact hx⟩,st',λb hb=>(hf b hb).1⟩⟩
 done:=by
  intro X hP hw hK hc i pins s σ H E I hf st hg;subst hP hw hK;obtain⟨xs,hq,hx⟩:=hg;obtain⟨its,rv,p,hz⟩:=I.list hq;obtain⟨f0,f1,f2,f3,f4,f5⟩:=hf it (by simp);have hl:=rv.length;exact wpAny_pyNext_list_end (I.ok.hd hc) st p.isList (by simp;omega) λh' eb=>⟨rfl,I.turned (t':=s.toks) (λb o hb e=>eb b o hb e) f0 f1 f3 f4 f5⟩
 self:=λ_ _ _ _ _ st h=>wpAny_pyIter_listiter st h
theorem JE{P:Program}{w:World}{K:FG}{tg:Expr}(a it:Addr):iO P w K tg (pW K a) [it] it (λi h=>h.IsTupleIter it a i) where
 mem:=by simp
 obj:=λi h st b hb=>by
  have e:b=it:=by simpa using hb
  subst e;obtain⟨o,e,c,d⟩:=st;exact⟨o,e,λv z=>by rw[d] at z;cases z⟩
 keep:=λi h h' st k=>st.at λo e=>k it (by simp) o e
 item:=by
  intro X hP hw hK hc i pins s σ H E I hf st hg;subst hP hw hK;obtain⟨xs,x,hq,hx⟩:=hg;obtain⟨its,rv,p,hz⟩:=I.tuple hq;obtain⟨u,hu,ru⟩:=rv.get hx;obtain⟨f0,f1,f2,f3,f4,f5⟩:=hf it (by simp);refine wpAny_pyNext_tuple_item st (show s.heap.IsTuple a its.toArray from p) (x:=u) (by simpa using hu) λh' st' sb=>?_;have I1:Inv X pins σ H {s with heap:=h'}:=I.turned (t':=s.toks) (λb o hb e=>(sb.2 b hb).trans e) f0 f1 f3 f4 f5
  obtain⟨o,e,c,d⟩:=id st';exact⟨u,rfl,nz (s:={s with heap:=h'}) e c d (by decide) ⟨x,H,I1,ru,⟨rfl,λys hy=>by rw[I.tuple_inj hy hq];exact hx⟩,st',λb hb=>(hf b hb).1⟩⟩
 done:=by
  intro X hP hw hK hc i pins s σ H E I hf st hg;subst hP hw hK;obtain⟨xs,hq,hx⟩:=hg;obtain⟨its,rv,p,hz⟩:=I.tuple hq;obtain⟨f0,f1,f2,f3,f4,f5⟩:=hf it (by simp);have hl:=rv.length;exact wpAny_pyNext_tuple_end (I.ok.hd hc) st (show s.heap.IsTuple a its.toArray from p) (by simp;omega) λh' eb=>⟨rfl,I.turned (t':=s.toks) (λb o hb e=>eb b o hb e) f0 f1 f3 f4 f5⟩
 self:=λ_ _ _ _ _ st h=>wpAny_pyIter_tupleiter st h
theorem VJ{P:Program}{w:World}{K:FG}{tg:Expr}(it:Addr)(lo:Int)(n:Nat):iO P w K tg (lc lo n) [it] it (λi h=>IsRangeIter h it (lo+(i:Nat)*1) ((n:Int)-(i:Nat)) 1) where
 mem:=by simp
 obj:=λi h st b hb=>by
  have e:b=it:=by simpa using hb
  subst e;exact⟨_,st,λv z=>by
   have z':Data.fields _=Data.cell v:=z;cases z'⟩
 keep:=λi h h' st k=>k it (by simp) _ st
 item:=by
  intro X hP hw hK hc i pins s σ H E I hf st hg;subst hP hw hK;obtain⟨f0,f1,f2,f3,f4,f5⟩:=hf it (by simp);have W:=Walks.range (prog:=X.prog) (w:=X.w) (I.ok.hd hc) it lo 1 n;refine W.item i s _ _ hg st λv h' tk hv st' kk=>?_;obtain⟨t,rfl⟩:=hv;have I1:Inv X pins σ H {s with heap:=h',toks:=tk}:=I.turned (λb o hb e=>kk b o (by simpa using hb) e) f0 f1 f3 f4 f5;refine⟨(),nz (s:={s with heap:=h',toks:=tk}) (n:="range_iterator") st' rfl rfl (by decide) ⟨.int (lo+i),H,I1,⟨t,?_⟩,⟨rfl,rfl⟩,st',λb hb=>(hf b hb).1⟩⟩
  rw[Int.mul_one]
 done:=by
  intro X hP hw hK hc i pins s σ H E I hf st hg;subst hP hw hK;obtain⟨f0,f1,f2,f3,f4,f5⟩:=hf it (by simp);exact wpAny_pyNext_range_end (I.ok.hd hc) st (by have:n<=i:=hg;omega) λh' eb=>⟨rfl,I.turned (t':=s.toks) (λb o hb e=>eb b o hb e) f0 f1 f3 f4 f5⟩
 self:=λ_ _ _ _ _ st h=>wpAny_pyIter_rangeiter st h
section
variable{X:Cx}{tg:Expr}
def AX(K:FG)(tl:TE):TI:=λσ H R=>tl σ H λx H1=>∃a,x=.ref a/\(∃xs,SqL K H1 a xs)/\R (nX K a) H1
def Cv(K:FG)(tl:TE):TI:=λσ H R=>tl σ H λx H1=>∃a,x=.ref a/\(∃xs,SqT K H1 a xs)/\R (pW K a) H1
theorem JG{l:Expr}{tl:TE}(hl:PE X l tl):PI X tg l (AX X.K tl):=by
 intro pins s σ H R I h;refine fU (hl pins s σ H _ I h) λv s1 ⟨x,H1,I1,r1,q1⟩=>?_;obtain⟨a,e,⟨xs,hq⟩,q⟩:=q1;subst e;cases r1;obtain⟨its,rv,p,hz⟩:=I1.list hq;refine wpAny_pyIter_list p.isList ?_;refine⟨s1.heap.objs.size,[s1.heap.objs.size],_,_,H1,rfl,I1.kept (t':=s1.toks) λb o e=>aU _ e,KN a _,⟨_,a9 _ rfl,rfl,rfl⟩,λb hb=>?_,q⟩;have e:b=s1.heap.objs.size:=by simpa using hb
 subst e;exact I1.fpOk (aQ _) (I1.hok.fresh (aQ _))
theorem Mr{l:Expr}{tl:TE}(hl:PE X l tl):PI X tg l (Cv X.K tl):=by
 intro pins s σ H R I h;refine fU (hl pins s σ H _ I h) λv s1 ⟨x,H1,I1,r1,q1⟩=>?_;obtain⟨a,e,⟨xs,hq⟩,q⟩:=q1;subst e;cases r1;obtain⟨its,rv,p,hz⟩:=I1.tuple hq;refine wpAny_pyIter_tuple (show s1.heap.IsTuple a its.toArray from p) ?_;refine⟨s1.heap.objs.size,[s1.heap.objs.size],_,_,H1,rfl,I1.kept (t':=s1.toks) λb o e=>aU _ e,JE a _,⟨_,a9 _ rfl,rfl,rfl⟩,λb hb=>?_,q⟩;have e:b=s1.heap.objs.size:=by simpa using hb
 subst e;exact I1.fpOk (aQ _) (I1.hok.fresh (aQ _))
theorem Dz{pins:List (Addr×Obj)}{σ:St}{H:Hp}{s:Shared}{R:It->Hp->Prop}{E:Value->Shared->Prop}{lo hi:Int}{t u v:Tok}{tk:Nat}(I:Inv X pins σ H s)(h1: -(2^62)<=lo)(h2:lo<2^62)(h3: -(2^62)<=hi)(h4:hi<2^62)
  (q:R (lc lo (hi-lo).toNat) H):wpAny (model X.prog X.w) X.A (pyIter (.ref s.heap.objs.size)) (Ak X pins σ tg R) E {s with heap:=s.heap.push {cls:=.type "range",data:=.fields #[.int lo t,.int hi u,.int 1 v]},toks:=tk}:=by
 refine wpAny_pyIter_range (IsRange.new ..) (small_one h1 h2 h3 h4) ?_;have I1:Inv X pins σ H {s with heap:=s.heap.push {cls:=.type "range",data:=.fields #[.int lo t,.int hi u,.int 1 v]},toks:=tk}:=I.kept λb o e=>aU _ e;refine⟨(s.heap.push {cls:=.type "range",data:=.fields #[.int lo t,.int hi u,.int 1 v]}).objs.size,[(s.heap.push {cls:=.type "range",data:=.fields #[.int lo t,.int hi u,.int 1 v]}).objs.size],_,_,H,rfl,
  I1.kept (t':=tk) λb o e=>aU _ e,VJ _ lo (hi-lo).toNat,?_,λb hb=>?_,q⟩
 ·have e1:lo+((0:Nat):Int)*1=lo:=by simp
  have e2:(((hi-lo).toNat:Nat):Int)-((0:Nat):Int)=Builtin.Range.rangeSize lo hi 1:=by rw[rangeSize_one];split<;>omega
  show IsRangeIter _ _ (lo+((0:Nat):Int)*1) ((((hi-lo).toNat:Nat):Int)-((0:Nat):Int)) 1;rw[e1,e2];exact a9 _ rfl
 ·have e:b=(s.heap.push {cls:=.type "range",data:=.fields #[.int lo t,.int hi u,.int 1 v]}).objs.size:=by simpa using hb
  subst e;exact I1.fpOk (aQ _) (I1.hok.fresh (aQ _))
def B5(ta:TA):TI:=λσ H R=>ta σ H λvs H1=>∃j:Int,vs=[.int j]/\ -(2^62)<=j/\j<2^62/\R (lc 0 j.toNat) H1
def DI(ta:TA):TI:=λσ H R=>ta σ H λvs H1=>∃i j:Int,vs=[.int i,.int j]/\(-(2^62)<=i/\i<2^62/\ -(2^62)<=j/\j<2^62)/\R (lc i (j-i).toNat) H1
theorem Kb{a:Expr}{ta:TA}{p pos:Pos}(hg:Gl X "range")(hm:X.mg "range"=none)(ha:PA X [a] ta)(hs:starEach [a] X.env=[(false,eval a X.env)]:=by rfl):PI X tg (.Call (.Name "range" p) [a] [] pos) (B5 ta):=by
 intro pins s σ H R I h;refine Call_ (nV I hg hm eZ (PyProof.Rows.callWith_type1 (fU (ha pos pins s σ H _ I h) λus s1 ⟨vs,H1,I1,r1,q1⟩=>?_) hs rfl));obtain⟨j,e,q1,q2,q⟩:=q1;subst e;cases r1 with
 |cons r rr=>
  cases rr;obtain⟨t,rfl⟩:=r;exact call_range_1 (Dz I1 ⋯ ⋯ q1 q2 (by simpa using q))
theorem LG{a b:Expr}{ta:TA}{p pos:Pos}(hg:Gl X "range")(hm:X.mg "range"=none)(ha:PA X [a,b] ta)(hs:starEach [a,b] X.env=[(false,eval a X.env),(false,eval b X.env)]:=by rfl)(hs2:starEach [b] X.env=[(false,eval b X.env)]:=by rfl):
  PI X tg (.Call (.Name "range" p) [a,b] [] pos) (DI ta):=by
 intro pins s σ H R I h;refine Call_ (nV I hg hm eZ (PyProof.Rows.callWith_type1 (fU (ha pos pins s σ H _ I h) λus s1 ⟨vs,H1,I1,r1,q1⟩=>?_) (by rw[hs,hs2]) (by rw[hs2];rfl)));obtain⟨i,j,e,⟨q1,q2,q3,q4⟩,q⟩:=q1;subst e;cases r1 with
 |cons r rr=>
  cases rr with
  |cons r' rr=>
   cases rr;obtain⟨t,rfl⟩:=r;obtain⟨t',rfl⟩:=r';exact call_range_2 (Dz I1 q1 q2 q3 q4 q)
def Bn(wi:TI)(g:TG)(tb:TS):TS:=λD σ H=>wi σ H λJ H1=>∃W:Nat->Nat->St->Hp->Prop,(∃m,W 0 m σ H1)/\∀i m σ H,W i m σ H->
 (J.stop i H/\D.nx σ H)∨(J.go i H/\∃N:St->Hp->Prop,(∀σ' H',N σ' H'->∃m',m'<m/\W (i+1) m' σ' H')/\∀x H',J.yld i H x H'->g x σ H' λσ2 H2=>tb {D with nx:=N,ct:=N,bk:=D.nx} σ2 H2)
noncomputable def qf(fp:List Addr)(h:Heap):List (Addr×Obj):=fp.filterMap λb=>(h.get? b).map λo=>(b,o)
theorem sM{fp:List Addr}{h:Heap}{b:Addr}{o:Obj}(hb:b∈fp)(e:h.get? b=some o):(b,o)∈qf fp h:=List.mem_filterMap.mpr ⟨b,hb,by rw[e];rfl⟩
theorem Z3{fp:List Addr}{h:Heap}{p:Addr×Obj}(hp:p∈qf fp h):p.1∈fp/\h.get? p.1=some p.2:=by
 obtain⟨b,hb,e⟩:=List.mem_filterMap.mp hp;cases q:h.get? b with
 |none=>rw[q] at e;cases e
 |some o=>
  rw[q] at e;have e':(b,o)=p:=aZ e;subst e';exact⟨hb,q⟩
theorem Inv.pinned{pins:List (Addr×Obj)}{σ:St}{H:Hp}{s:Shared}{fp:List Addr}(I:Inv X pins σ H s)(hf:∀b∈fp,j4 X pins H b)(ho:∀b∈fp,∃o,s.heap.get? b=some o/\∀v,o.data≠ .cell v):Inv X (pins++qf fp s.heap) σ H s:=
 I.pins_of λp hp=>(bP.mp hp).elim (λz=>I.pin p (cD _ z)) λz=>by
  obtain⟨hb,e⟩:=Z3 z;obtain⟨f0,f1,f2,_⟩:=hf p.1 hb;obtain⟨o,e',d⟩:=ho p.1 hb;rw[e] at e';cases e';exact⟨e,f0,f1,f2,d⟩
theorem Inv.unpinned{pins pl:List (Addr×Obj)}{σ:St}{H:Hp}{s:Shared}(I:Inv X (pins++pl) σ H s):Inv X pins σ H s:=I.pins_of λp hp=>I.pin p (cD _ (dY _ hp))
theorem VC{iter:Expr}{body:List Stmt}{wi:TI}{g:TG}{tb:TS}{pos:Pos}(hp:PassesOwn (model X.prog X.w) X.A X.env X.xe)(hc:X.calm=true)(hi:PI X tg iter wi)(hg:PG X tg g)(hb:PSs X body tb)
  (hs:∀x,foldedSetIterable iter X.env x=pure x:=by intro _;rfl):PS X (.For tg iter body [] pos) (Bn wi g tb):=by
 intro pins s σ H D I h;refine wpAny_For (fU (hi pins s σ H _ I h) λv s1 h1=>fU h1 λitv s2 h2=>?_) hs;obtain⟨it,fp,tn,J,H2,e,I2,T,st2,f2,W,⟨m0,w0⟩,turn⟩:=h2;subst e
 -- what stays true of the iterator's objects through the loop
 have stat:∀{H':Hp},(∀b∈fp,H' b=none)->∀b∈fp,j4 X pins H' b:=λhn b hb=>⟨hn b hb,(f2 b hb).2⟩;refine codeAny_forLoop_any (λn s'=>∃i σ' H',Inv X pins σ' H' s'/\tn i s'.heap/\(∀b∈fp,H' b=none)/\W i n σ' H') ?_ m0 ⟨0,σ,H2,I2,st2,λb hb=>(f2 b hb).1,w0⟩;rintro n s3 ⟨i,σ3,H3,I3,st3,fr3,w3⟩;rcases turn i n σ3 H3 w3 with ⟨stop,qn⟩ | ⟨go,N,hN,step⟩
 ·refine eJ hp (fU (T.done X rfl rfl rfl hc i pins s3 σ3 H3 X.xe I3 (stat fr3) st3 stop) λr s4 ⟨hr,I4⟩=>?_);subst hr;exact wpAny_execs_nil ⟨σ3,H3,I4,qn⟩
 ·refine eJ hp (fU (T.item X rfl rfl rfl hc i pins s3 σ3 H3 X.xe I3 (stat fr3) st3 go) λr s4 ⟨u,hr,h4⟩=>?_);subst hr;refine eJ hp (fU h4 λ_ s5 ⟨x,H5,I5,r5,y5,st5,fr5⟩=>?_);have I5':=I5.pinned (stat fr5) (T.obj _ _ st5);refine eJ hp (fU (hg _ s5 σ3 H5 x u _ I5' r5 (step x H5 y5)) λ_ s6 ⟨σ6,H6,I6,q6⟩=>?_);refine eJ hp (fU (hb _ s6 σ6 H6 _ I6 q6) λf s7 q7=>?_);have again:∀{σ7:St} {H7:Hp},Inv X (pins++qf fp s5.heap) σ7 H7 s7->N σ7 H7->∃m,m<n/\∃i σ' H',Inv X pins σ' H' s7/\tn i s7.heap/\(∀b∈fp,H' b=none)/\W i m σ' H':=λ{σ7 H7} I7 n7=>by
   obtain⟨m',hm,w7⟩:=hN σ7 H7 n7;refine⟨m',hm,i+1,σ7,H7,I7.unpinned,T.keep _ _ _ st5 λb hb o e=>(I7.pin (b,o) (cD _ (cD _ (sM hb e)))).1,λb hb=>?_,w7⟩;obtain⟨o,e,d⟩:=T.obj _ _ st5 b hb;exact (I7.pin (b,o) (cD _ (cD _ (sM hb e)))).2.1
  cases f with
  |next=>obtain⟨σ7,H7,I7,n7⟩:=q7;exact again I7 n7
  |cont=>obtain⟨σ7,H7,I7,n7⟩:=q7;exact again I7 n7
  |brk=>obtain⟨σ7,H7,I7,q7⟩:=q7;exact⟨σ7,H7,I7.unpinned,q7⟩
  |ret v=>obtain⟨x7,σ7,H7,I7,r7,q7⟩:=q7;exact⟨x7,σ7,H7,I7.unpinned,r7,q7⟩
end
theorem l9{K:FG}{a:Addr}{xs:List V}{g:TG}{tb:TS}{D:iC}{σ:St}{H:Hp}(Pv:Nat->St->Hp->Prop)(h0:Pv 0 σ H)(hl:∀i σ H,i<=xs.length->Pv i σ H->SqL K H a xs)
  (hs:∀i x σ H,xs[i]? =some x->Pv i σ H->g x σ H λσ2 H2=>tb {D with nx:=Pv (i+1),ct:=Pv (i+1),bk:=D.nx} σ2 H2) (hd:∀σ H,Pv xs.length σ H->D.nx σ H):
  ∃W:Nat->Nat->St->Hp->Prop,(∃m,W 0 m σ H)/\∀i m σ H,W i m σ H->
   ((nX K a).stop i H/\D.nx σ H)∨((nX K a).go i H/\∃N:St->Hp->Prop,(∀σ' H',N σ' H'->∃m',m'<m/\W (i+1) m' σ' H')/\∀x H',(nX K a).yld i H x H'->g x σ H' λσ2 H2=>tb {D with nx:=N,ct:=N,bk:=D.nx} σ2 H2):=by
 refine⟨λi m σ H=>m=xs.length-i/\i<=xs.length/\Pv i σ H,⟨xs.length,by simp,bM _,h0⟩,?_⟩;rintro i m σ H ⟨rfl,hi,p⟩;have q:=hl i σ H hi p;by_cases hlt:i<xs.length
 ·refine .inr ⟨⟨xs,xs[i],q,by simp[hlt]⟩,Pv (i+1),λσ' H' p'=>⟨xs.length-(i+1),⋯,rfl,hlt,p'⟩,λx H' y=>?_⟩;obtain⟨e,y⟩:=y;subst e;exact hs i x σ _ (y xs q) p
 ·have e:i=xs.length:=⋯;subst e;exact .inl ⟨⟨xs,q,aQ _⟩,hd σ H p⟩
theorem xD{K:FG}{a:Addr}{xs:List V}{g:TG}{tb:TS}{D:iC}{σ:St}{H:Hp}(Pv:Nat->St->Hp->Prop)(h0:Pv 0 σ H)(hl:∀i σ H,i<=xs.length->Pv i σ H->SqT K H a xs)
  (hs:∀i x σ H,xs[i]? =some x->Pv i σ H->g x σ H λσ2 H2=>tb {D with nx:=Pv (i+1),ct:=Pv (i+1),bk:=D.nx} σ2 H2) (hd:∀σ H,Pv xs.length σ H->D.nx σ H):
  ∃W:Nat->Nat->St->Hp->Prop,(∃m,W 0 m σ H)/\∀i m σ H,W i m σ H->
   ((pW K a).stop i H/\D.nx σ H)∨((pW K a).go i H/\∃N:St->Hp->Prop,(∀σ' H',N σ' H'->∃m',m'<m/\W (i+1) m' σ' H')/\∀x H',(pW K a).yld i H x H'->g x σ H' λσ2 H2=>tb {D with nx:=N,ct:=N,bk:=D.nx} σ2 H2):=by
 refine⟨λi m σ H=>m=xs.length-i/\i<=xs.length/\Pv i σ H,⟨xs.length,by simp,bM _,h0⟩,?_⟩;rintro i m σ H ⟨rfl,hi,p⟩;have q:=hl i σ H hi p;by_cases hlt:i<xs.length
 ·refine .inr ⟨⟨xs,xs[i],q,by simp[hlt]⟩,Pv (i+1),λσ' H' p'=>⟨xs.length-(i+1),⋯,rfl,hlt,p'⟩,λx H' y=>?_⟩;obtain⟨e,y⟩:=y;subst e;exact hs i x σ _ (y xs q) p
 ·have e:i=xs.length:=⋯;subst e;exact .inl ⟨⟨xs,q,aQ _⟩,hd σ H p⟩
theorem kE{lo:Int}{n:Nat}{g:TG}{tb:TS}{D:iC}{σ:St}{H:Hp}(Pv:Nat->St->Hp->Prop)(h0:Pv 0 σ H)
  (hs:∀i σ H,i<n->Pv i σ H->g (.int (lo+i)) σ H λσ2 H2=>tb {D with nx:=Pv (i+1),ct:=Pv (i+1),bk:=D.nx} σ2 H2) (hd:∀σ H,Pv n σ H->D.nx σ H):
  ∃W:Nat->Nat->St->Hp->Prop,(∃m,W 0 m σ H)/\∀i m σ H,W i m σ H->
   ((lc lo n).stop i H/\D.nx σ H)∨((lc lo n).go i H/\∃N:St->Hp->Prop,(∀σ' H',N σ' H'->∃m',m'<m/\W (i+1) m' σ' H')/\∀x H',(lc lo n).yld i H x H'->g x σ H' λσ2 H2=>tb {D with nx:=N,ct:=N,bk:=D.nx} σ2 H2):=by
 refine⟨λi m σ H=>m=n-i/\i<=n/\Pv i σ H,⟨n,by simp,bM _,h0⟩,?_⟩;rintro i m σ H ⟨rfl,hi,p⟩;by_cases hlt:i<n
 ·refine .inr ⟨hlt,Pv (i+1),λσ' H' p'=>⟨n-(i+1),⋯,rfl,hlt,p'⟩,λx H' y=>?_⟩;obtain⟨e,y⟩:=y;subst e y;exact hs i σ _ hlt p
 ·have e:i=n:=⋯;subst e;exact .inl ⟨aQ _,hd σ H p⟩
noncomputable abbrev R2:=V->V->Hp->VK->Prop
def gH(X:Cx)(f:Value->Value->Sem Value)(r:R2):Prop:=
 ∀(pins:List (Addr×Obj)) (s:Shared) (σ:St) (H:Hp) (x y:V) (v u:Value) (Q:VK),Inv X pins σ H s->RelV x v->RelV y u->r x y H Q->
  wpAny (model X.prog X.w) X.A (f v u) (EP X pins σ Q) X.xe s
def sP(X:Cx)(f:Value->Sem Value)(r:V->Hp->VK->Prop):Prop:=
 ∀(pins:List (Addr×Obj)) (s:Shared) (σ:St) (H:Hp) (x:V) (v:Value) (Q:VK),Inv X pins σ H s->RelV x v->r x H Q->
  wpAny (model X.prog X.w) X.A (f v) (EP X pins σ Q) X.xe s
def kh(X:Cx)(f:Value)(r:List V->Hp->VK->Prop):Prop:=
 ∀(pins:List (Addr×Obj)) (s:Shared) (σ:St) (H:Hp) (xs:List V) (us:List Value) (Q:VK),Inv X pins σ H s->Vals xs us->r xs H Q->
  wpAny (model X.prog X.w) X.A (call f us) (EP X pins σ Q) X.xe s
def mV(r:R2)(ta tb:TE):TE:=λσ H Q=>ta σ H λx H1=>tb σ H1 λy H2=>r x y H2 Q
def F2(r:V->Hp->VK->Prop)(ta:TE):TE:=λσ H Q=>ta σ H λx H1=>r x H1 Q
inductive S6 (C:Int->Int->Prop) (g:Int->Int->V) (x y:V) (H:Hp) (Q:VK):Prop
 |mk (i j:Int) (a:x=.int i) (b:y=.int j) (c:C i j) (r:Q (g i j) H)
def rI(C:Int->Int->Prop)(g:Int->Int->V):R2:=S6 C g
inductive Wq (g:Int->Int->V) (x y:V) (H:Hp) (Q:VK):Prop
 |mk (i j:Int) (a:x=.int i) (b:y=.int j) (r:Q (g i j) H)
def jg(g:Int->Int->V):R2:=Wq g
inductive Wv (g:Int->V) (x:V) (H:Hp) (Q:VK):Prop
 |mk (i:Int) (a:x=.int i) (r:Q (g i) H)
def rU(g:Int->V):V->Hp->VK->Prop:=Wv g
section
variable{X:Cx}{a b c:Expr}{ta tb tc:TE}{pos:Pos}
theorem xr(ha:PE X a ta)(hb:PE X b tb){pins:List (Addr×Obj)}{s:Shared}{σ:St}{H:Hp}{R:V->V->Hp->Prop}(I:Inv X pins σ H s)
  (h:ta σ H λx H1=>tb σ H1 λy H2=>R x y H2) {Q:Value->Shared->Prop} {f:Value->Value->Sem Value}
  (hf:∀v u s2 x y H2,Inv X pins σ H2 s2->RelV x v->RelV y u->R x y H2->wpAny (model X.prog X.w) X.A (f v u) Q X.xe s2):
  wpAny (model X.prog X.w) X.A (eval a X.env) (λv s₁=>wpAny (model X.prog X.w) X.A (eval b X.env) (λu s₂=>wpAny (model X.prog X.w) X.A (f v u) Q X.xe s₂) X.xe s₁) X.xe s:=by
 refine fU (ha pins s σ H _ I h) λv s1 ⟨x,H1,I1,r1,q1⟩=>?_;refine fU (hb pins s1 σ H1 _ I1 q1) λu s2 ⟨y,H2,I2,r2,q2⟩=>?_;exact hf v u s2 x y H2 I2 r1 r2 q2
theorem WQ{op:Operator}{r:R2}(ho:gH X (binaryOp op) r)(ha:PE X a ta)(hb:PE X b tb):PE X (.BinOp a op b pos) (mV r ta tb):=by
 intro pins s σ H Q I h;exact wpAny_BinOp (xr ha hb I h λv u s2 x y H2 I2 rx ry q=>ho pins s2 σ H2 x y v u Q I2 rx ry q)
theorem Rg{op:UnaryOp}{r:V->Hp->VK->Prop}(ho:sP X (unaryOp op) r)(ha:PE X a ta):PE X (.UnaryOp op a pos) (F2 r ta):=by
 intro pins s σ H Q I h;exact UnaryOp_ (fU (ha pins s σ H _ I h) λv s1 ⟨x,H1,I1,r1,q1⟩=>ho pins s1 σ H1 x v Q I1 r1 q1)
theorem nH{f:Value->Value->Sem Value}{C:Int->Int->Prop}{g:Int->Int->Int}
  (rule:∀(i j:Int) (t u:Tok) (s:Shared) (Q:Value->Shared->Prop) (E:Value->Shared->Prop),C i j->Q (.int (g i j) s.toks) {s with toks:=s.toks+1}->wpAny (model X.prog X.w) X.A (f (.int i t) (.int j u)) Q E s):
  gH X f (rI C λi j=>.int (g i j)):=by
 intro pins s σ H x y v u Q I rx ry h;obtain⟨i,j,rfl,rfl,hc,q⟩:=h;obtain⟨t,rfl⟩:=rx;obtain⟨t',rfl⟩:=ry;exact rule i j t t' s _ _ hc ⟨.int (g i j),H,I.tok _,⟨()⟩,q⟩
theorem sh{f:Value->Value->Sem Value}{g:Int->Int->Int}
  (rule:∀(i j:Int) (t u:Tok) (s:Shared) (Q:Value->Shared->Prop) (E:Value->Shared->Prop),Q (.int (g i j) s.toks) {s with toks:=s.toks+1}->wpAny (model X.prog X.w) X.A (f (.int i t) (.int j u)) Q E s):
  gH X f (jg λi j=>.int (g i j)):=by
 intro pins s σ H x y v u Q I rx ry h;obtain⟨i,j,rfl,rfl,q⟩:=h;obtain⟨t,rfl⟩:=rx;obtain⟨t',rfl⟩:=ry;exact rule i j t t' s _ _ ⟨.int (g i j),H,I.tok _,⟨()⟩,q⟩
theorem qZ{f:Value->Value->Sem Value}{g:Int->Int->Bool}
  (rule:∀(i j:Int) (t u:Tok) (s:Shared) (Q:Value->Shared->Prop) (E:Value->Shared->Prop),Q (.bool (g i j)) s->wpAny (model X.prog X.w) X.A (f (.int i t) (.int j u)) Q E s):
  gH X f (jg λi j=>.bl (g i j)):=by
 intro pins s σ H x y v u Q I rx ry h;obtain⟨i,j,rfl,rfl,q⟩:=h;obtain⟨t,rfl⟩:=rx;obtain⟨t',rfl⟩:=ry;exact rule i j t t' s _ _ ⟨.bl (g i j),H,I,rfl,q⟩
def Fj(i j:Int):Prop:=0<j/\j<1073741824
def sy(i j:Int):Prop:=0<=j/\j<=1000000/\i.natAbs<2^64
def CMul(i j:Int):Prop:=(-(2^64)<i/\i<2^64)∨(-(2^64)<j/\j<2^64)
theorem CMul.ok{i j:Int}(h:CMul i j):IntMulOk i j:=by
 rcases h with ⟨h1,h2⟩ | ⟨h1,h2⟩
 ·exact .of_left (intBits_le_64 h1 h2)
 ·exact .of_right (intBits_le_64 h1 h2)
theorem OE(k:Nat):(0:Int)<=2^k:=by
 rw[two_pow_cast];exact dO _
theorem aIM:gH X (binaryOp .Add) (jg λi j=>.int (i+j)):=sh λ_ _ _ _ _ _ _ q=>add_int q
theorem Oa:gH X (binaryOp .Sub) (jg λi j=>.int (i-j)):=sh λ_ _ _ _ _ _ _ q=>sub_int q
theorem Lx:gH X (binaryOp .Mult) (rI CMul λi j=>.int (i*j)):=nH λ_ _ _ _ _ _ _ hc q=>mul_int q hc.ok
theorem Mw:gH X (binaryOp .FloorDiv) (rI Fj λi j=>.int (i / j)):=nH λi j _ _ _ _ _ hc q=>by
 have h1:(0:Int)<j:=hc.1;have h2:j<1073741824:=hc.2;exact floordiv_int ⋯ (by rw[Int.fdiv_eq_ediv_of_nonneg i ⋯];exact q) (.inl (PyProof.noPylong_small ⋯))
theorem Ln:gH X (binaryOp .Mod) (rI (λ_ j=>0<j) λi j=>.int (i%j)):=nH λi j _ _ _ _ _ hc q=>by
 have h1:(0:Int)<j:=hc;exact mod_int' ⋯ (by rw[Int.fmod_eq_emod_of_nonneg i ⋯];exact q)
theorem Vz:gH X (binaryOp .Pow) (rI sy λi j=>.int (i^j.toNat)):=nH λ_ _ _ _ _ _ _ hc q=>pow_int_small hc.1 hc.2.1 hc.2.2 q
theorem Py:gH X (binaryOp .LShift) (rI sy λi j=>.int (i*2^j.toNat)):=nH λ_ _ _ _ _ _ _ hc q=>lshift_int_small hc.1 hc.2.1 hc.2.2 q
theorem W4:gH X (binaryOp .RShift) (rI (λ_ j=>0<=j) λi j=>.int (i / 2^j.toNat)):=nH λi j _ _ _ _ _ hc q=>
 rshift_int hc (by rw[Int.fdiv_eq_ediv_of_nonneg i (OE _)];exact q)
theorem Nv:gH X (binaryOp .BitAnd) (jg λi j=>.int (Builtin.bitAnd i j)):=sh λ_ _ _ _ _ _ _ q=>and_int q
theorem Jw:gH X (binaryOp .BitOr) (jg λi j=>.int (Builtin.bitOr i j)):=sh λ_ _ _ _ _ _ _ q=>or_int q
theorem Pm{f:Value->Sem Value}{g:Int->Int}
  (rule:∀(i:Int) (t:Tok) (s:Shared) (Q:Value->Shared->Prop) (E:Value->Shared->Prop),Q (.int (g i) s.toks) {s with toks:=s.toks+1}->wpAny (model X.prog X.w) X.A (f (.int i t)) Q E s):
  sP X f (rU λi=>.int (g i)):=by
 intro pins s σ H x v Q I rx h;obtain⟨i,rfl,q⟩:=h;obtain⟨t,rfl⟩:=rx;exact rule i t s _ _ ⟨.int (g i),H,I.tok _,⟨()⟩,q⟩
theorem TJ:sP X (unaryOp .USub) (rU λi=>.int (-i)):=Pm λ_ _ _ _ _ q=>neg_int q
end
noncomputable def Fm:V->V->Bool
 |.non,.non=>true | .non,.int _=>true | .int _,.non=>true | .non,.bl _=>true | .bl _,.non=>true | .non,.str _=>true | .str _,.non=>true
 |.int _,.int _=>true | .bl _,.bl _=>true | .str _,.str _=>true | .byt _,.byt _=>true
 |.int _,.str _=>true | .str _,.int _=>true | .bl _,.str _=>true | .str _,.bl _=>true
 |_,_=>false
inductive XEq (x y:V) (H:Hp) (Q:VK):Prop
 |mk (s:Fm x y=true) (r:Q (.bl (decide (x=y))) H)
def Bp:R2:=XEq
inductive NI (x y:V) (H:Hp) (Q:VK):Prop
 |mk (s:Fm x y=true) (r:Q (.bl (!decide (x=y))) H)
def DB:R2:=NI
theorem mF{i j:Int}:decide (V.int i=V.int j)=(i==j):=by
 rw[c8];simp
theorem GL{i j:Bool}:decide (V.bl i=V.bl j)=(i==j):=by
 rw[c8];simp
theorem GV{i j:Str}:decide (V.str i=V.str j)=(i==j):=by
 rw[c8];simp
theorem DS{i j:Array UInt8}:decide (V.byt i=V.byt j)=(i.toList==j.toList):=by
 rw[c8];cases i;cases j;simp
section
variable{X:Cx}{a b c:Expr}{ta tb tc:TE}{pos:Pos}
theorem gR{pins:List (Addr×Obj)}{σ:St}{H:Hp}{s:Shared}{Q:VK}{k k':Bool}(I:Inv X pins σ H s)(q:Q (.bl k) H)(e:k=k'):EP X pins σ Q (.bool k') s:=by
 subst e;exact⟨.bl k,H,I,rfl,q⟩
theorem VP:gH X (compareOp .Eq) Bp:=by
 intro pins s σ H x y v u Q I rx ry h;obtain⟨hs,q⟩:=h;cases x with
 |non=>
  cases rx;cases y with
  |non=>cases ry;exact PySem.EqNone.eq_none_none (gR I q (by simp))
  |bl j=>cases ry;exact PySem.EqNone.eq_none_bool (gR I q (by simp))
  |int j=>obtain⟨t',rfl⟩:=ry;exact PySem.EqNone.eq_none_int (gR I q (by simp))
  |str j=>obtain⟨t',rfl⟩:=ry;exact PySem.EqNone.eq_none_str (gR I q (by simp))
  |_=>exact absurd (show false=true from hs) a8
 |bl i=>
  cases rx;cases y with
  |non=>cases ry;exact PySem.EqNone.eq_bool_none (gR I q (by simp))
  |bl j=>cases ry;exact eq_bool (gR I q GL)
  |str j=>obtain⟨t',rfl⟩:=ry;exact PySem.EqMixed.eq_bool_str (gR I q (by simp))
  |_=>exact absurd (show false=true from hs) a8
 |int i=>
  obtain⟨t,rfl⟩:=rx;cases y with
  |non=>cases ry;exact PySem.EqNone.eq_int_none (gR I q (by simp))
  |int j=>obtain⟨t',rfl⟩:=ry;exact eq_int (gR I q mF)
  |str j=>obtain⟨t',rfl⟩:=ry;exact PySem.EqMixed.eq_int_str (gR I q (by simp))
  |_=>exact absurd (show false=true from hs) a8
 |str i=>
  obtain⟨t,rfl⟩:=rx;cases y with
  |non=>cases ry;exact PySem.EqNone.eq_str_none (gR I q (by simp))
  |bl j=>cases ry;exact PySem.EqMixed.eq_str_bool (gR I q (by simp))
  |int j=>obtain⟨t',rfl⟩:=ry;exact PySem.EqMixed.eq_str_int (gR I q (by simp))
  |str j=>obtain⟨t',rfl⟩:=ry;exact eq_str (gR I q GV)
  |_=>exact absurd (show false=true from hs) a8
 |byt i=>
  obtain⟨t,rfl⟩:=rx;cases y with
  |byt j=>obtain⟨t',rfl⟩:=ry;exact PySem.W.eq_bytes (gR I q DS)
  |_=>exact absurd (show false=true from hs) a8
 |_=>cases y<;>exact absurd (show false=true from hs) a8
theorem SX:gH X (compareOp .NotEq) DB:=by
 intro pins s σ H x y v u Q I rx ry h;obtain⟨hs,q⟩:=h;cases x with
 |non=>
  cases rx;cases y with
  |non=>cases ry;exact PySem.EqNone.ne_none_none (gR I q (by simp))
  |bl j=>cases ry;exact PySem.EqNone.ne_none_bool (gR I q (by simp))
  |int j=>obtain⟨t',rfl⟩:=ry;exact PySem.EqNone.ne_none_int (gR I q (by simp))
  |str j=>obtain⟨t',rfl⟩:=ry;exact PySem.EqNone.ne_none_str (gR I q (by simp))
  |_=>exact absurd (show false=true from hs) a8
 |bl i=>
  cases rx;cases y with
  |non=>cases ry;exact PySem.EqNone.ne_bool_none (gR I q (by simp))
  |bl j=>cases ry;exact ne_bool (gR I q (congrArg not GL))
  |str j=>obtain⟨t',rfl⟩:=ry;exact PySem.EqMixed.ne_bool_str (gR I q (by simp))
  |_=>exact absurd (show false=true from hs) a8
 |int i=>
  obtain⟨t,rfl⟩:=rx;cases y with
  |non=>cases ry;exact PySem.EqNone.ne_int_none (gR I q (by simp))
  |int j=>obtain⟨t',rfl⟩:=ry;exact ne_int (gR I q (congrArg not mF))
  |str j=>obtain⟨t',rfl⟩:=ry;exact PySem.EqMixed.ne_int_str (gR I q (by simp))
  |_=>exact absurd (show false=true from hs) a8
 |str i=>
  obtain⟨t,rfl⟩:=rx;cases y with
  |non=>cases ry;exact PySem.EqNone.ne_str_none (gR I q (by simp))
  |bl j=>cases ry;exact PySem.EqMixed.ne_str_bool (gR I q (by simp))
  |int j=>obtain⟨t',rfl⟩:=ry;exact PySem.EqMixed.ne_str_int (gR I q (by simp))
  |str j=>obtain⟨t',rfl⟩:=ry;exact ne_str (gR I q (congrArg not GV))
  |_=>exact absurd (show false=true from hs) a8
 |byt i=>
  obtain⟨t,rfl⟩:=rx;cases y with
  |byt j=>obtain⟨t',rfl⟩:=ry;exact PySem.W.ne_bytes (gR I q (congrArg not DS))
  |_=>exact absurd (show false=true from hs) a8
 |_=>cases y<;>exact absurd (show false=true from hs) a8
theorem Nn:gH X (compareOp .Lt) (jg λi j=>.bl (decide (i<j))):=qZ λ_ _ _ _ _ _ _ q=>lt_int q
theorem KS:gH X (compareOp .LtE) (jg λi j=>.bl (decide (i<=j))):=qZ λ_ _ _ _ _ _ _ q=>le_int q
theorem Ng:gH X (compareOp .Gt) (jg λi j=>.bl (decide (j<i))):=qZ λ_ _ _ _ _ _ _ q=>gt_int q
theorem Lq:gH X (compareOp .GtE) (jg λi j=>.bl (decide (j<=i))):=qZ λ_ _ _ _ _ _ _ q=>ge_int q
theorem Ze:gH X (compareOp .In) (λx y H Q=>∃i j,x=.str i/\y=.str j/\Q (.bl (!(Builtin.Str.occurrences j i 0 j.length 1).isEmpty)) H):=by
 intro pins s σ H x y v u Q I rx ry h;obtain⟨i,j,rfl,rfl,q⟩:=h;obtain⟨t,rfl⟩:=rx;obtain⟨t',rfl⟩:=ry;exact in_str (gR I q rfl)
theorem YN:gH X (compareOp .Is) (λx y H Q=>y=.non/\Q (.bl (decide (x=.non))) H):=by
 intro pins s σ H x y v u Q I rx ry h;obtain⟨rfl,q⟩:=h;cases ry;refine is_none_gen (gR I q ?_);cases x<;>first
  |(cases rx;rfl)
  |(obtain⟨t,rfl⟩:=rx;rfl)
theorem Xz:gH X (compareOp .IsNot) (λx y H Q=>y=.non/\Q (.bl (!decide (x=.non))) H):=by
 intro pins s σ H x y v u Q I rx ry h;obtain⟨rfl,q⟩:=h;cases ry;refine isnot_none_gen (gR I q ?_);cases x<;>first
  |(cases rx;rfl)
  |(obtain⟨t,rfl⟩:=rx;rfl)
theorem Ee(b:Expr){op:CmpOp}(h:op≠ .In:=by decide)(h2:op≠ .NotIn:=by decide):behindInMarks op b=false:=by
 have e1:(op==CmpOp.In)=false:=by cases op<;>first | rfl | exact absurd rfl h
 have e2:(op==CmpOp.NotIn)=false:=by cases op<;>first | rfl | exact absurd rfl h2
 cases b<;>simp[behindInMarks,e1,e2]
theorem Yj{op:CmpOp}{r:R2}(ho:gH X (compareOp op) r)(ha:PE X a ta)(hb:PE X b tb)(hm:behindInMarks op b=false):PE X (.Compare a [op] [b] pos) (mV r ta tb):=by
 intro pins s σ H Q I h;exact wpAny_Compare1 (xr ha hb I h λv u s2 x y H2 I2 rx ry q=>ho pins s2 σ H2 x y v u Q I2 rx ry q) hm
def rC(t:TE):TT:=λσ H Q=>t σ H λx H'=>pE x H' Q
theorem IG{op:CmpOp}{r:R2}(ho:gH X (compareOp op) r)(ha:PE X a ta)(hb:PE X b tb)(hm:behindInMarks op b=false):PT X (.Compare a [op] [b] pos) (rC (mV r ta tb)):=by
 intro pins s σ H Q I h;refine wpAny_isTrue_Compare1 (fU (ha pins s σ H _ I h) λv s1 ⟨x,H1,I1,r1,q1⟩=>fU (hb pins s1 σ H1 _ I1 q1) λu s2 ⟨y,H2,I2,r2,q2⟩=>
  fU (ho pins s2 σ H2 x y v u _ I2 r1 r2 q2) λc s3 ⟨z,H3,I3,r3,k,e,q3⟩=>?_) hm
 subst e;cases r3;exact fF ⟨H3,I3,q3⟩
def rL(r r':R2)(ta tb tc:TE):TE:=λσ H Q=>ta σ H λx H1=>tb σ H1 λy H2=>r x y H2 λz H3=>∃k,z=.bl k/\
 (if k=true then tc σ H3 λw' H4=>r' y w' H4 Q else Q (.bl false) H3)
theorem JH{op op':CmpOp}{r r':R2}(ho:gH X (compareOp op) r)(ho':gH X (compareOp op') r')(ha:PE X a ta)(hb:PE X b tb)(hc:PE X c tc)
  (hm:lastMarks [op,op'] [b,c]=false:=by with_unfolding_all rfl):PE X (.Compare a [op,op'] [b,c] pos) (rL r r' ta tb tc):=by
 intro pins s σ H Q I h;refine Compare_chain (fU (ha pins s σ H _ I h) λv s1 ⟨x,H1,I1,r1,q1⟩=>chain_link (fU (hb pins s1 σ H1 _ I1 q1) λu s2 ⟨y,H2,I2,r2,q2⟩=>
  fU (ho pins s2 σ H2 x y v u _ I2 r1 r2 q2) λd s3 ⟨z,H3,I3,r3,k,e,q3⟩=>?_)) hm
 subst e;cases r3;refine fF ?_;cases k with
 |false=>exact ite_ff ⟨.bl false,H3,I3,rfl,q3⟩
 |true=>exact ite_tt (chain_last (fU (hc pins s3 σ H3 _ I3 q3) λw' s4 ⟨z',H4,I4,r4,q4⟩=>ho' pins s4 σ H4 y z' u w' Q I4 r2 r4 q4))
theorem OD{op op':CmpOp}{r r':R2}(ho:gH X (compareOp op) r)(ho':gH X (compareOp op') r')(ha:PE X a ta)(hb:PE X b tb)(hc:PE X c tc)
  (hm:lastMarks [op,op'] [b,c]=false:=by with_unfolding_all rfl):PT X (.Compare a [op,op'] [b,c] pos) (rC (rL r r' ta tb tc)):=by
 intro pins s σ H Q I h;refine isTrue_chain (fU (ha pins s σ H _ I h) λv s1 ⟨x,H1,I1,r1,q1⟩=>test_link (fU (hb pins s1 σ H1 _ I1 q1) λu s2 ⟨y,H2,I2,r2,q2⟩=>
  fU (ho pins s2 σ H2 x y v u _ I2 r1 r2 q2) λd s3 ⟨z,H3,I3,r3,k,e,q3⟩=>?_)) hm
 subst e;cases r3;refine fF ?_;cases k with
 |false=>
  obtain⟨k',e',q'⟩:=q3;cases e';exact ite_ff ⟨H3,I3,q'⟩
 |true=>
  refine ite_tt (test_last (fU (hc pins s3 σ H3 _ I3 q3) λw' s4 ⟨z',H4,I4,r4,q4⟩=>fU (ho' pins s4 σ H4 y z' u w' _ I4 r2 r4 q4) λd' s5 ⟨z2,H5,I5,r5,k2,e2,q5⟩=>?_));subst e2;cases r5;exact fF ⟨H5,I5,q5⟩
theorem ou:(sizeLine:Nat)<2^63:=by rw[eT];decide
theorem QX:gH X (binaryOp .Add) (λx y H Q=>∃i j,x=.str i/\y=.str j/\i.length+j.length<=sizeLine/\Q (.str (i++j)) H):=by
 intro pins s σ H x y v u Q I rx ry h;obtain⟨i,j,rfl,rfl,hz,q⟩:=h;obtain⟨t,rfl⟩:=rx;obtain⟨t',rfl⟩:=ry;exact add_str (λt' tk=>⟨.str (i++j),H,I.tok _,⟨()⟩,q⟩) hz
theorem jk{x:V}{us:List Value}(r:Vals [x] us):∃u,us=[u]/\RelV x u:=by
 cases r with
 |cons r1 r2=>cases r2;exact⟨(),r1⟩
theorem ox{x y:V}{us:List Value}(r:Vals [x,y] us):∃u w',us=[u,w']/\RelV x u/\RelV y w':=by
 cases r with
 |cons r1 r2=>
  cases r2 with
  |cons r3 r4=>cases r4;exact⟨_,(),r1,r3⟩
theorem Jd:kh X (.builtin "abs") (λxs H Q=>∃i,xs=[.int i]/\Q (.int (if i<0 then -i else i)) H):=by
 intro pins s σ H xs us Q I r h;obtain⟨i,rfl,q⟩:=h;obtain⟨u,rfl,t,rfl⟩:=jk r;exact call_abs_int λu tk=>⟨.int (if i<0 then -i else i),H,I.tok _,⟨()⟩,q⟩
theorem Wo(hc:X.calm=true):kh X (.builtin "max") (λxs H Q=>∃i j,xs=[.int i,.int j]/\Q (.int (if j>i then j else i)) H):=by
 intro pins s σ H xs us Q I r h;obtain⟨i,j,rfl,q⟩:=h;obtain⟨u,w',rfl,⟨t,rfl⟩,⟨t',rfl⟩⟩:=ox r;refine max_two_ints (I.ok.hd hc) λh' tk k=>⟨_,H,I.kept k,?_,q⟩;by_cases hj:j>i
 ·rw[if_pos hj,if_pos hj];exact⟨()⟩
 ·rw[if_neg hj,if_neg hj];exact⟨()⟩
theorem XR(hc:X.calm=true):kh X (.builtin "min") (λxs H Q=>∃i j,xs=[.int i,.int j]/\Q (.int (if j<i then j else i)) H):=by
 intro pins s σ H xs us Q I r h;obtain⟨i,j,rfl,q⟩:=h;obtain⟨u,w',rfl,⟨t,rfl⟩,⟨t',rfl⟩⟩:=ox r;refine min_two_ints (I.ok.hd hc) λh' tk k=>⟨_,H,I.kept k,?_,q⟩;by_cases hj:j<i
 ·rw[if_pos hj,if_pos hj];exact⟨()⟩
 ·rw[if_neg hj,if_neg hj];exact⟨()⟩
theorem NR:kh X (.type "int") (λxs H Q=>(∃i,xs=[.int i]/\Q (.int i) H)∨∃k,xs=[.bl k]/\Q (.int (if k then 1 else 0)) H):=by
 intro pins s σ H xs us Q I r h;rcases h with ⟨i,rfl,q⟩ | ⟨k,rfl,q⟩
 ·obtain⟨u,rfl,t,rfl⟩:=jk r;exact call_int_int ⟨.int i,H,I,⟨()⟩,q⟩
 ·obtain⟨u,rfl,r1⟩:=jk r;cases r1;exact call_int_bool ⟨.int (if k then 1 else 0),H,I.tok _,⟨()⟩,q⟩
theorem RV:kh X (.type "str") (λxs H Q=>∃i,xs=[.int i]/\i.natAbs.log2<1920/\Q (.str (toString i)) H):=by
 intro pins s σ H xs us Q I r h;obtain⟨i,rfl,hz,q⟩:=h;obtain⟨u,rfl,t,rfl⟩:=jk r;exact PySem.P.str_of_int hz ⟨.str _,H,I.tok _,⟨()⟩,q⟩
end
structure ObjM(h:Heap)(x dx C:Addr)(mA:Str->Option Value):Prop where
 obj:h.get? x=some (PySem.W.instObj C dx)
 ns:h.Ns1 dx mA
 ne:dx≠x
theorem Tg{h:Heap}{dx:Addr}{mA:Str->Option Value}(n:h.Ns1 dx mA):∃od,h.get? dx=some od/\∀name,PySem.W.lookIn name od=some (mA name):=by
 obtain⟨o,es,ep,ho,hd,hk,_,hm⟩:=n;refine⟨o,ho,λname=>?_⟩;have e:=hm name;unfold nsFind findBy at e;rw[←Array.find?_toList] at e;unfold PySem.W.lookIn;rw[hd];dsimp only;split
 ·rename_i y q;rw[q] at e;exact congrArg some e
 ·rename_i q;rw[q] at e;have a:es.toList.any (·.refKey)=false:=by
   rw[dC];intro y hy;obtain⟨z,t,hkey⟩:=hk y (Array.mem_toList_iff.mp hy);simp[DictEntry.refKey,hkey]
  have a':¬es.toList.any (·.refKey)=true:=by rw[a];exact a8
  rw[if_neg a'];exact congrArg some e
theorem ObjM.look{h:Heap}{x dx C:Addr}{mA:Str->Option Value}(I:ObjM h x dx C mA):∃od,PySem.W.InstAt h x (PySem.W.instObj C dx) C (some od)/\∀name,PySem.W.lookIn name od=some (mA name):=
 let ⟨od,ho,hl⟩:=Tg I.ns
 ⟨od,⟨I.obj,rfl,rfl,ho⟩,hl⟩
section
variable{prog:Program}{w:World}{A:Around}{E:Value->Shared->Prop}{s:Shared}{K:FG}{x dx C f:Addr}{mA:Str->Option Value}{name:Str}{v:Value}
theorem Xd{expr:Bool}{Q:Value->Shared->Prop}(X:K.In s.heap)(I:ObjM s.heap x dx C mA)(hg:PySem.W.plainGet K C name=true)(hh:PySem.W.hasDictIn K C=true)
  (ha:PySem.W.findIn K (.ref C) name=some none) (hv:mA name=some v) (hv':PySem.W.handedIn v=true) (h:Q v {s with toks:=s.toks+1}):
  wpAny (model prog w) A (getAttr (.ref x) name expr) Q E s:=by
 obtain⟨od,J,hl⟩:=I.look;exact PySem.W.get_value X J (PySem.W.plainGet_of hg).1 (PySem.W.findObj_own hh ha rfl (by rw[hl,hv])) hv' h
theorem RB{pl:Sem Bool}{Q:Value×List Value->Shared->Prop}(X:K.In s.heap)(I:ObjM s.heap x dx C mA)(hg:PySem.W.plainGet K C name=true)
  (hf:PySem.W.findIn K (.ref C) name=some (some (.ref f))) (ht:PySem.W.isFn K (.ref f)=true) (hv:mA name=none) (h:Q (.ref f,[.ref x]) s):
  wpAny (model prog w) A (getMethod (.ref x) name pl) Q E s:=by
 obtain⟨od,J,hl⟩:=I.look;exact PySem.W.method_fn X J (PySem.W.plainGet_of hg).1 (PySem.W.plainGet_of hg).2 hf (beq_iff_eq.mp ht) (by show (PySem.W.lookIn name od).map (·.isSome)=some false;rw[hl,hv];rfl) h
theorem Yf{ns:List Str}{Q:Unit->Shared->Prop}(X:K.In s.heap)(I:ObjM s.heap x dx C mA)
  (hs:PySem.W.findIn K (.ref C) "__setattr__"=some (some (.builtin "object.__setattr__"))) (hp:PySem.W.plainOver K C=true) (ht:PySem.W.takerIn K C name=some none) (hh:PySem.W.hasDictIn K C=true)
  (hw:PySem.Within mA ns) (hsz:ns.length<=sizeLine)
  (h:∀h',ObjM h' x dx C (λy=>if y=name then some v else mA y)->Heap.SameBut dx s.heap h'->Q () {s with heap:=h',toks:=s.toks+2}):
  wpAny (model prog w) A (setAttr (.ref x) name v) Q E s:=by
 obtain⟨od,J,hl⟩:=I.look;refine PySem.W.set_plain X J hs (PySem.W.osa_open (s:={s with toks:=s.toks+1}) (r:=none) X J hp ht λb=>?_);obtain⟨cd,hc,hd'⟩:=PySem.W.any_some hh;have hx:s.heap.get? x=some ⟨.ref C,some dx,.plain,#[]⟩:=I.obj;refine eO (fE (eO (eO (wpAny_loadPart hx (eO (PySem.W.Looks.here (s:={s with toks:=s.toks+1}) (PySem.W.looks_clsIn X hc) ?_))))));rw[hd'];refine fE (a:=some dx) (eO (fE (eO ?_)))
 refine wpAny_nsSet1 (s:={s with toks:=s.toks+1}) I.ns λh' hn2 hs2=>?_;obtain⟨oD,esD,epD,hoD,hdD,hcD⟩:=hn2.count (PySem.Within.cons name v hw);refine eO (wpAny_lookBehind hoD (by rw[hdD];exact pastItsLine_dict (bL hcD (by rw[bZ];omega))) ?_);exact fE (h _ ⟨(hs2.2 _ (Ne.symm I.ne)).trans I.obj,hn2,I.ne⟩ hs2)
theorem MT{R:Result->Shared->Prop}{vs:List Value}{kw:List (Str×Value)}(X:K.In s.heap)(hm:PySem.W.makesIn K C=true)
  (hi:PySem.W.findIn K (.ref C) "__init__"=some (some (.ref f))) (hf:PySem.W.typeIn K (.ref f)=some (.type "function"))
  (h:codeAny (model prog w) (A.under (.builtin "type.__call__" ⟨.ref C::vs,kw⟩)) (.call (.ref f) ⟨.ref (s.heap.objs.size+1)::vs,kw⟩) (PySem.W.InitBack (s.heap.objs.size+1) R)
   {s with heap:=(s.heap.push PySem.W.emptyDict).push (PySem.W.instObj C s.heap.objs.size)}):
  codeAny (model prog w) A (.call (.ref C) ⟨vs,kw⟩) R s:=by
 obtain⟨hh,g,d,t,os⟩:=s;exact PySem.W.make_core (PySem.W.makes_of X hm) (PySem.W.looks_findIn X hi) (λself=>PySem.W.bind_fn X self hf) (.inl rfl) h
theorem RI{R:Result->Shared->Prop}(X:K.In s.heap)(hm:PySem.W.makesIn K C=true)
  (hi:PySem.W.findIn K (.ref C) "__init__"=some (some (.builtin "object.__init__")))
  (hb:∀self,PySem.W.Looks (model prog w) s.heap (bindSpecial (.builtin "object.__init__") self) (.builtin "object.__init__",[self]))
  (h:codeAny (model prog w) (A.under (.builtin "type.__call__" ⟨[.ref C],[]⟩)) (.call (.builtin "object.__init__") ⟨[.ref (s.heap.objs.size+1)],[]⟩) (PySem.W.InitBack (s.heap.objs.size+1) R)
   {s with heap:=(s.heap.push PySem.W.emptyDict).push (PySem.W.instObj C s.heap.objs.size)}):
  codeAny (model prog w) A (.call (.ref C) ⟨[],[]⟩) R s:=by
 obtain⟨hh,g,d,t,os⟩:=s;exact PySem.W.make_core (PySem.W.makes_of X hm) (PySem.W.looks_findIn X hi) hb (.inr ⟨rfl,rfl⟩) h
end
noncomputable def gd(f:Str)(v:V):List (Str×V)->List (Str×V)
 |[]=>[(f,v)]
 |(g,x)::r=>if g=f then (g,v)::r else (g,x)::gd f v r
theorem gr(f g:Str)(v:V):∀fs:List (Str×V),(gd f v fs).lookup g=if g=f then some v else fs.lookup g
 |[]=>by
  show List.lookup g [(f,v)]=_;by_cases h:g=f
  ·have hb:(g==f)=true:=beq_iff_eq.mpr h;simp only[List.lookup,hb,if_pos h]
  ·have hb:(g==f)=false:=beq_eq_false_iff_ne.mpr h;simp only[List.lookup,hb,if_neg h]
 |(k,x)::r=>by
  have ih:=gr f g v r;rw[show gd f v ((k,x)::r)=(if k=f then (k,v)::r else (k,x)::gd f v r) from rfl];by_cases hk:k=f
  ·rw[if_pos hk];by_cases h:g=k
   ·have hb:(g==k)=true:=beq_iff_eq.mpr h;simp only[List.lookup,hb,if_pos (h.trans hk)]
   ·have hb:(g==k)=false:=beq_eq_false_iff_ne.mpr h;simp only[List.lookup,hb,if_neg (λe:g=f=>h (e.trans hk.symm))]
  ·rw[if_neg hk];by_cases h:g=k
   ·have hb:(g==k)=true:=beq_iff_eq.mpr h;simp only[List.lookup,hb,if_neg (λe:g=f=>hk (h.symm.trans e))]
   ·have hb:(g==k)=false:=beq_eq_false_iff_ne.mpr h;simp only[List.lookup,hb];exact ih
theorem Ah(f:Str)(v:V):∀fs:List (Str×V),f∈(gd f v fs).map (·.1)/\∀g,g∈fs.map (·.1)->g∈(gd f v fs).map (·.1)
 |[]=>⟨by simp[gd],λg h=>by simp at h⟩
 |(k,x)::r=>by
  obtain⟨i1,i2⟩:=Ah f v r;rw[show gd f v ((k,x)::r)=(if k=f then (k,v)::r else (k,x)::gd f v r) from rfl];by_cases hk:k=f
  ·rw[if_pos hk];subst hk;exact⟨by simp,λg h=>by simpa using h⟩
  ·rw[if_neg hk];refine⟨?_,λg h=>?_⟩
   ·rw[bH];exact bG _ i1
   ·rw[bH] at h ⊢;rcases aX.mp h with e | e
    ·exact aX.mpr (.inl e)
    ·exact bG _ (i2 g e)
theorem GC(f:Str)(v:V):∀fs:List (Str×V),(gd f v fs).length<=fs.length+1
 |[]=>by simp[gd]
 |(k,x)::r=>by
  have ih:=GC f v r;rw[show gd f v ((k,x)::r)=(if k=f then (k,v)::r else (k,x)::gd f v r) from rfl];by_cases hk:k=f
  ·rw[if_pos hk,bZ,bZ];omega
  ·rw[if_neg hk,bZ,bZ];omega
theorem RelO.some_of{v:V}{o:Option Value}(r:RelO (some v) o):∃u,o=some u/\RelV v u:=by
 cases o with
 |none=>exact (show False from r).elim
 |some u=>exact⟨u,rfl,r⟩
theorem RelO.none_of{o:Option Value}(r:RelO none o):o=none:=by
 cases o with
 |none=>rfl
 |some u=>exact (show False from r).elim
theorem ZU{v:V}{u:Value}(r:RelV v u):PySem.W.handedIn u=true:=by
 cases v with
 |non=>cases (show u=Value.none from r);rfl
 |bl b=>cases (show u=Value.bool b from r);rfl
 |int i=>obtain⟨t,e⟩:=(show ∃t,u=Value.int i t from r);cases e;rfl
 |str x=>obtain⟨t,e⟩:=(show ∃t,u=Value.str x t from r);cases e;rfl
 |byt b=>obtain⟨t,e⟩:=(show ∃t,u=Value.bytes b t from r);cases e;rfl
 |flt b=>obtain⟨t,e⟩:=(show ∃t,u=Value.float b t from r);cases e;rfl
 |ref a=>cases (show u=Value.ref a from r);rfl
 |ty n=>cases (show u=Value.type n from r);rfl
section
variable{P:Program}{w:World}{H H':Hp}{h h':Heap}{a C dx:Addr}{fs fs':List (Str×V)}
theorem zy(hok:HOk P w H h)(e:H a=some (.ins C dx fs)):∃mA,ObjM h a dx C mA/\(∀f,RelO (fs.lookup f) (mA f))/\PySem.Within mA (fs.map (·.1))/\fs.length<=1000/\H dx=some (.own a):=by
 obtain⟨d,z,ne,ob,mA,n,r,q⟩:=(show ObjOk P w H h a (.ins C dx fs) from hok a _ e);exact⟨mA,⟨ob,n,ne⟩,r,q,z,d⟩
end
structure Cls(K:FG)(C:Addr):Prop where
 pg:PySem.W.plainGet K C Str.empty=true
 hd:PySem.W.hasDictIn K C=true
 po:PySem.W.plainOver K C=true
 sa:PySem.W.findIn K (.ref C) "__setattr__"=some (some (.builtin "object.__setattr__"))
theorem Cls.get{K:FG}{C:Addr}(c:Cls K C)(f:Str):PySem.W.plainGet K C f=true:=c.pg
def NoAttr(K:FG)(C:Addr)(f:Str):Prop:=PySem.W.findIn K (.ref C) f=some none
theorem NoAttr.taker{K:FG}{C:Addr}{f:Str}(n:NoAttr K C f):PySem.W.takerIn K C f=some none:=by
 unfold PySem.W.takerIn;rw[show PySem.W.findIn K (.ref C) f=some none from n];rfl
structure ku(K:FG)(C:Addr)(m:Str)(f:Addr):Prop where
 at_:PySem.W.findIn K (.ref C) m=some (some (.ref f))
 fn:PySem.W.isFn K (.ref f)=true
 kp:PySem.W.keepIn K (.ref f)=true
section
variable{X:Cx}{pins:List (Addr×Obj)}{σ:St}{H:Hp}{s:Shared}{a C dx:Addr}{fs:List (Str×V)}{f:Str}{v:V}{A:Around}{E:Value->Shared->Prop}
theorem Mq{b:Bool}{Q:Value->Shared->Prop}(I:Inv X pins σ H s)(e:H a=some (.ins C dx fs))(c:Cls X.K C)(n:NoAttr X.K C f)(l:fs.lookup f=some v)
  (h:∀u s',Inv X pins σ H s'->RelV v u->Q u s'):wpAny (model X.prog X.w) A (getAttr (.ref a) f b) Q E s:=by
 obtain⟨mA,O,r,_,_,_⟩:=zy I.hok e;obtain⟨u,hu,ru⟩:=RelO.some_of (v:=v) (o:=mA f) (by rw[←l];exact r f);exact Xd I.kIn O (c.get f) c.hd n hu (ZU ru) (h u _ (I.tok _) ru)
theorem Yk{m:Str}{g:Addr}{pl:Sem Bool}{Q:Value×List Value->Shared->Prop}(I:Inv X pins σ H s)(e:H a=some (.ins C dx fs))(c:Cls X.K C)(k:ku X.K C m g)(l:fs.lookup m=none)
  (h:Q (.ref g,[.ref a]) s):wpAny (model X.prog X.w) A (getMethod (.ref a) m pl) Q E s:=by
 obtain⟨mA,O,r,_,_,_⟩:=zy I.hok e;have hn:mA m=none:=RelO.none_of (by rw[←l];exact r m);exact RB I.kIn O (c.get m) k.at_ k.fn hn h
theorem WK{y:V}{u:Value}{Q:Unit->Shared->Prop}(I:Inv X pins σ H s)(e:H a=some (.ins C dx fs))(c:Cls X.K C)(n:NoAttr X.K C f)(hl:fs.length<1000)(ry:RelV y u)
  (h:∀s',Inv X pins σ (upd H a (.ins C dx (gd f y fs))) s'->Q () s'):wpAny (model X.prog X.w) A (setAttr (.ref a) f u) Q E s:=by
 obtain⟨mA,O,r,wi,_,ho⟩:=zy I.hok e;have hz:(fs.map (·.1)).length<=sizeLine:=by rw[aR,eT];omega
 refine Yf I.kIn O c.sa c.po n.taker c.hd wi hz λh' O' sb=>h _ ?_;have hd:∃o,h'.get? dx=some o:=let ⟨o,_,_,e',_⟩:=O'.ns;⟨o,e'⟩;refine I.write (x:=a) (e:=dx) (by rw[e];exact True.intro) (.inr ho) (λb q hb z=>(sb.2 b hb).trans z) hd ?_;refine⟨by rw[fH O.ne];exact ho,?_,O.ne,O'.obj,_,O'.ns,λg=>?_,λg hg=>?_⟩
 ·have:=GC f y fs;omega
 ·show RelO ((gd f y fs).lookup g) (if g=f then some u else mA g);rw[gr];by_cases q:g=f
  ·rw[if_pos q,if_pos q];exact ry
  ·rw[if_neg q,if_neg q];exact r g
 ·by_cases q:g=f
  ·rw[q];exact (Ah f y fs).1
  ·refine (Ah f y fs).2 g (wi g λz=>hg ?_);show (if g=f then some u else mA g)=none;rw[if_neg q];exact z
theorem Inv.made(I:Inv X pins σ H s):Inv X pins σ (upd (upd H s.heap.objs.size (.own (s.heap.objs.size+1))) (s.heap.objs.size+1) (.ins C s.heap.objs.size []))
  {s with heap:=(s.heap.push PySem.W.emptyDict).push (PySem.W.instObj C s.heap.objs.size)}:=by
 have e1:(s.heap.push PySem.W.emptyDict).get? s.heap.objs.size=some PySem.W.emptyDict:=a9 s.heap rfl;have e2:((s.heap.push PySem.W.emptyDict).push (PySem.W.instObj C s.heap.objs.size)).get? (s.heap.objs.size+1)=some (PySem.W.instObj C s.heap.objs.size):=by
  have:=a9 (s.heap.push PySem.W.emptyDict) (o:=PySem.W.instObj C s.heap.objs.size) rfl
  rwa [c9] at this
 have e3:(s.heap.push PySem.W.emptyDict).Ns s.heap.objs.size (λ_=>none):=⟨PySem.W.emptyDict,#[],_,e1,rfl,(λe he=>absurd he (by simp)),λ_=>rfl⟩;have I1:=I.laid (a:=s.heap.objs.size) (o:=.own (s.heap.objs.size+1)) (h':=s.heap.push PySem.W.emptyDict) (t':=s.toks) (λb u q=>aU _ q) (aQ _) ⟨_,e1⟩;refine I1.laid (a:=s.heap.objs.size+1) (o:=.ins C s.heap.objs.size []) (t':=s.toks) (λb u q=>aU _ q) (Nat.le_of_eq (c9 _ _)) ?_
 have ne:s.heap.objs.size≠s.heap.objs.size+1:=aW (dD _);refine⟨by rw[fH ne,fh],bM _,ne,e2,λ_=>none,(Heap.Ns1.of_empty e3).at λo q=>aU _ q,λ_=>True.intro,λy hy=>absurd rfl hy⟩
theorem LQ{prog:Program}{w:World}{env:Env}{e:Expr}{f:Str}{pos:Pos}{s:Shared}{Q:Value->Shared->Prop}(hb:attributeBase e f env (eval e env)=eval e env)
  (h:wpAny (model prog w) A (eval e env) (λo s₁=>wpAny (model prog w) A (getAttr o f true) Q E s₁) E s):wpAny (model prog w) A (eval (.Attribute e f pos) env) Q E s:=
 Attribute_any_ h (by rw[arm_eval_Attribute,hb])
end
inductive N8 (K:FG) (f:Str) (x:V) (H1:Hp) (Q:VK):Prop
 |mk (a C dx:Addr) (fs:List (Str×V)) (v:V) (e:x=.ref a) (h:H1 a=some (.ins C dx fs)) (c:Cls K C) (n:NoAttr K C f) (l:fs.lookup f=some v) (r:Q v H1)
def uX(K:FG)(ta:TE)(f:Str):TE:=λσ H Q=>ta σ H λx H1=>N8 K f x H1 Q
def Ds(K:FG)(ta tv:TE)(f:Str):TS:=λD σ H=>tv σ H λy H1=>ta σ H1 λx H2=>∃a C dx fs,x=.ref a/\H2 a=some (.ins C dx fs)/\Cls K C/\NoAttr K C f/\fs.length<1000/\
 D.nx σ (upd H2 a (.ins C dx (gd f y fs)))
section
variable{X:Cx}{o e value:Expr}{f:Str}{pos pos' tpos:Pos}{ta tv:TE}
theorem Iz(he:PE X e ta)(hb:attributeBase e f X.env (eval e X.env)=eval e X.env):PE X (.Attribute e f pos) (uX X.K ta f):=by
 intro pins s σ H Q I h;refine LQ hb (fU (he pins s σ H _ I h) λu s1 ⟨x,H1,I1,rx,a,C,dx,fs,v,ex,ea,c,n,l,q⟩=>?_);subst ex;obtain rfl:u=Value.ref a:=rx;exact Mq I1 ea c n l λu' s2 I2 ru=>⟨v,H1,I2,ru,q⟩
theorem KJ(ha:PE X o ta)(hv:PE X value tv)(hs:swapsWith value (some (.Attribute o f pos')) pos.line X.env=pure false):PS X (.Assign [.Attribute o f pos'] value pos) (Ds X.K ta tv f):=by
 intro pins s σ H D I h;refine plainObj_wpAny_Assign_Attribute (fU (hv pins s σ H _ I h) λu s1 ⟨y,H1,I1,ry,q⟩=>fU (ha pins s1 σ H1 _ I1 q) λov s2 ⟨x,H2,I2,rx,a,C,dx,fs,ex,ea,c,n,l,q2⟩=>?_) hs;subst ex;obtain rfl:ov=Value.ref a:=rx;exact WK I2 ea c n l ry λs3 I3=>⟨σ,_,I3,q2⟩
end
section
variable{X:Cx}{pins:List (Addr×Obj)}{σ:St}{H:Hp}{s:Shared}{A:Around}{E:Value->Shared->Prop}{Q:Value->Shared->Prop}{c:Value}{b:Bool}
inductive jL (K:FG) (H:Hp):V->Value->Prop where
 |non:jL K H .non (.type "NoneType")
 |bl (x:Bool):jL K H (.bl x) (.type "bool")
 |int (i:Int):jL K H (.int i) (.type "int")
 |str (x:Str):jL K H (.str x) (.type "str")
 |flt (x:UInt64):jL K H (.flt x) (.type "float")
 |lst {a:Addr} {xs:List V} (e:H a=some (.lst xs)):jL K H (.ref a) (.type "list")
 |frz {a:Addr} {o:Obj} {xs:List V} (e:H a=some (.frz o (.lst xs))):jL K H (.ref a) (.type "list")
 |tup {a:Addr} {xs:List V} (e:H a=some (.tup xs)):jL K H (.ref a) (.type "tuple")
 |dK {a:Addr} {kvs:List (gc×V)} (e:H a=some (.dK kvs)):jL K H (.ref a) (.type "dict")
 |dT {a:Addr} {kvs:List (List gc×V)} (e:H a=some (.dT kvs)):jL K H (.ref a) (.type "dict")
 |ins {a C dx:Addr} {fs:List (Str×V)} (e:H a=some (.ins C dx fs)) (cl:Cls K C) (ha:PySem.W.findIn K (.ref C) "__class__"=some (some (.builtin "object.__class__")))
   (hn:PySem.W.specialIn K (.builtin "object.__class__") "__get__"=some (some (.builtin "getset_descriptor.__get__"))) (htk:PySem.W.takesIn K (.builtin "object.__class__")=some true)
   (hm:PySem.W.mroIn K C (.type "object")=some true):jL K H (.ref a) (.ref C)
end
structure Room(k:Nat)(A:Around):Prop where
 hd:A.handled=none
 dp:A.depth+3*k+5<recursionLimit
 un:A.units+16*k+200<cLine
theorem Room.mono{j k:Nat}{A:Around}(r:Room k A)(h:j<=k):Room j A:=⟨r.hd,by have:=r.dp;omega,by have:=r.un;omega⟩
theorem Room.deeper{k:Nat}{A:Around}(r:Room (k+1) A)(env:Env):Room k (A.deeper env):=
 ⟨r.hd,by have:=r.dp;show A.depth+1+3*k+5<_;omega,by have:=r.un;show A.units+3+16*k+200<_;omega⟩
theorem Yd{A:Around}{C:Addr}{us:List Value}{kw:List (Str×Value)}:(A.under (.builtin "type.__call__" ⟨.ref C::us,kw⟩)).depth=A.depth+1:=by
 first | rfl | simp[Around.under,Code.weight,Code.isCreation,Code.isGuard,Code.isCaller,Code.frames,Code.isFrame,guardIds]
theorem av0{A:Around}{C:Addr}{us:List Value}{kw:List (Str×Value)}:(A.under (.builtin "type.__call__" ⟨.ref C::us,kw⟩)).units=A.units+1:=by
 first | rfl | simp[Around.under,Code.cUnits,Code.frames,Code.isFrame]
theorem Room.make{k:Nat}{A:Around}(r:Room (k+1) A)(C:Addr)(us:List Value)(kw:List (Str×Value)):Room k (A.under (.builtin "type.__call__" ⟨.ref C::us,kw⟩)):=
 ⟨r.hd,by have:=r.dp;rw[Yd];omega,by have:=r.un;rw[av0];omega⟩
theorem Room.depth{k:Nat}{A:Around}(r:Room k A):A.depth<recursionLimit:=by have:=r.dp;omega
theorem Room.units{k:Nat}{A:Around}(r:Room k A):A.units+64<cLine:=by have:=r.un;omega
def jQ:TA:=λ_ H Q=>Q [] H
def jr(ta:TE)(tr:TA):TA:=λσ H Q=>ta σ H λx H1=>tr σ H1 λxs H2=>Q (x::xs) H2
section
variable{X:Cx}{e:Expr}{es:List Expr}{te:TE}{t:TA}{pos:Pos}
theorem mO:PA X [] jQ:=λ_ _ _ _ H Q I h=>Calls.spliced_nil ⟨[],H,I,.nil,h⟩
theorem mN(ha:PE X e te)(hr:PA X es t)(hs:starEach (e::es) X.env=(false,eval e X.env)::starEach es X.env:=by rfl):PA X (e::es) (jr te t):=by
 intro pos pins s σ H Q I h;rw[hs];show wpAny _ _ (spliced ((false,eval e X.env)::backTo pos (starEach es X.env))) _ _ s;refine Calls.spliced_cons (fU (ha pins s σ H _ I h) λu s1 ⟨x,H1,I1,r1,q1⟩=>?_);exact fU (hr pos pins s1 σ H1 _ I1 q1) λus s2 ⟨xs,H2,I2,r2,q2⟩=>⟨x::xs,H2,I2,.cons r1 r2,q2⟩
inductive Pg (xs:List V) (H1:Hp) (Q:VK):Prop
 |mk (l:xs.length<=sizeLine) (r:∀p,H1 p=none->Q (.ref p) (upd H1 p (.tup xs)))
def BQ(t:TA):TE:=λσ H Q=>t σ H λxs H1=>Pg xs H1 Q
inductive T5 (xs:List V) (H1:Hp) (Q:VK):Prop
 |mk (l:xs.length<=sizeLine) (r:∀p,H1 p=none->Q (.ref p) (upd H1 p (.lst xs)))
def Ci(t:TA):TE:=λσ H Q=>t σ H λxs H1=>T5 xs H1 Q
theorem KP{x1}(h:PA X es t):PE X (.Tuple es x1 pos) (BQ t):=by
 intro pins s σ H Q I hq;refine wpAny_Tuple_spliced (fU (h pos pins s σ H _ I hq) λus s1 ⟨xs,H1,I1,r,z,q⟩=>⟨by rw[←r.length];exact z,?_⟩);have hf:H1 s1.heap.objs.size=none:=I1.hok.fresh (aQ _);refine⟨.ref s1.heap.objs.size,upd H1 s1.heap.objs.size (.tup xs),I1.laid (t':=s1.toks) (λb u e=>aU _ e) (aQ _) ?_,rfl,q _ hf⟩;exact⟨z,us,r,⟨_,a9 _ rfl,rfl,()⟩⟩
theorem M8(h:PA X es t):PE X (.List es pos) (Ci t):=by
 intro pins s σ H Q I hq;refine wpAny_List_spliced (fU (h pos pins s σ H _ I hq) λus s1 ⟨xs,H1,I1,r,z,q⟩=>⟨by rw[←r.length];exact z,?_⟩);have hf:H1 s1.heap.objs.size=none:=I1.hok.fresh (aQ _);refine⟨.ref s1.heap.objs.size,upd H1 s1.heap.objs.size (.lst xs),I1.laid (t':=s1.toks) (λb u e=>aU _ e) (aQ _) ?_,rfl,q _ hf⟩;exact⟨z,us,0,r,a9 _ rfl⟩
end
noncomputable abbrev Sp:=List V->Hp->VK->XK->Prop
noncomputable abbrev mf:=List Env->Hp->Shared->XK->Value->Shared->Prop
structure Env0(P:Program)(w:World)(K:FG)(mg:Str->Option Value)(base:Heap)(A:Around)(outer:List Env)(s:Shared)(H:Hp):Prop where
 frames:A.frames=some outer
 mod:Mod K mg base
 bs:∀b o,base.get? b=some o->s.heap.get? b=some o/\H b=none
 bsz:base.objs.size<=s.heap.objs.size
 funs:s.heap.FunFrames base outer
 frf:∀b∈ki outer,H b=none
 hok:HOk P w H s.heap
 bare:AllBare s.gens
def CE(outer:List Env)(P:Program)(w:World)(H:Hp)(s:Shared)(Q:VK)(u:Value)(s':Shared):Prop:=
 ∃v H',s'.os=s.os/\AllBare s'.gens/\Un (ki outer) [] H H' s.heap s'.heap/\HOk P w H' s'.heap/\RelV v u/\Q v H'
def CR(CX:mf)(outer:List Env)(P:Program)(w:World)(H:Hp)(s:Shared)(Q:VK)(E:XK)(r:Result)(s':Shared):Prop:=
 match r with
 |.ok (.ret u)=>CE outer P w H s Q u s'
 |.ok _=>False
 |.error e=>CX outer H s E e s'
structure gD(P:Program)(w:World)(K:FG)(mg:Str->Option Value)(base:Heap)(CX:mf)(k:Nat)(f:Addr)(fd:FuncData)(ps:List Str)(sp:Sp):Prop where
 len:∀vs H Q E,sp vs H Q E->vs.length=ps.length
 run:∀(A:Around) (outer:List Env) (s:Shared) (H:Hp) (args:Args) (us:List Value) (vs:List V) (Q:VK) (E:XK),Room k A->Env0 P w K mg base A outer s H->BindsTo s fd args (ps.zip us)->Vals vs us->sp vs H Q E->
  codeAny (model P w) A (.call (.ref f) args) (CR CX outer P w H s Q E) s
theorem Env0.make{P:Program}{w:World}{K:FG}{mg:Str->Option Value}{base:Heap}{A:Around}{outer:List Env}{s:Shared}{H:Hp}(e:Env0 P w K mg base A outer s H)(C:Addr)(us:List Value)(kw:List (Str×Value)):
  Env0 P w K mg base (A.under (.builtin "type.__call__" ⟨.ref C::us,kw⟩)) outer s H:=⟨by first | exact e.frames | (simpa [Around.under,Code.envs,Code.isFrame,pushEnvs] using e.frames),e.mod,e.bs,e.bsz,e.funs,e.frf,e.hok,e.bare⟩
section
variable{X:Cx}{pins:List (Addr×Obj)}{σ:St}{H:Hp}{s s':Shared}
theorem Inv.env0(I:Inv X pins σ H s):Env0 X.prog X.w X.K X.mg X.base X.A X.stack s H:=
 ⟨I.ok.frames,I.ok.mod,I.bs,bL I.ok.bsz I.sz,I.stack,I.stkFree,I.hok,I.bare⟩
theorem Inv.after{Q:VK}{u:Value}(I:Inv X pins σ H s)(h:CE X.stack X.prog X.w H s Q u s'):EP X pins σ Q u s':=by
 obtain⟨v,H',os,bare,un,hok,r,q⟩:=h;obtain⟨hh,g,d,t,os'⟩:=s';obtain rfl:os'=s.os:=os;exact⟨v,H',I.call (h':=hh) (g':=g) (d':=d) (t':=t) (ch:=[]) un hok bare (λb z=>absurd z (by simp)),r,q⟩
end
def tq(sp:Sp)(dvs:List V)(E:XK)(t:TA):TE:=λσ H Q=>t σ H λvs H1=>sp (vs++dvs) H1 Q E
inductive QV (C:Addr) (m:Str) (x:V) (H1:Hp) (R:Prop):Prop
 |mk (a dx:Addr) (fs:List (Str×V)) (e:x=.ref a) (h:H1 a=some (.ins C dx fs)) (l:fs.lookup m=none) (r:R)
def yO(C:Addr)(m:Str)(sp:Sp)(dvs:List V)(E:XK)(ta:TE)(t:TA):TE:=λσ H Q=>ta σ H λx H1=>QV C m x H1 (t σ H1 λvs H2=>sp (x::(vs++dvs)) H2 Q E)
def sV(C:Addr)(sp:Sp)(dvs:List V)(E:XK)(t:TA):TE:=λσ H Q=>t σ H λvs H1=>∀x dx,H1 x=none->H1 dx=none->dx≠x->
 sp (.ref x::(vs++dvs)) (upd (upd H1 dx (.own x)) x (.ins C dx [])) (λv H2=>v=.non/\Q (.ref x) H2) E
def Binds(K:FG)(fd:FuncData)(ps:List Str)(ds:List Value):Prop:=
 ∀(s:Shared) (us:List Value),K.In s.heap->(us++ds).length=ps.length->BindsTo s fd ⟨us,[]⟩ (ps.zip (us++ds))
theorem Binds.all{K:FG}{fd:FuncData}{ps:List Str}(h:∀us:List Value,us.length=ps.length->bindArgs fd ⟨us,[]⟩=pure (ps.zip us)):Binds K fd ps []:=λs us _ hl=>by
 rw[cU] at hl ⊢;exact .of_eq (h us hl)
def nC(CX:mf)(X:Cx)(E:XK):Prop:=∀(pins:List (Addr×Obj)) (σ:St) (H:Hp) (s:Shared) (e:Value) (s':Shared),Inv X pins σ H s->CX X.stack H s E e s'->X.xe e s'
section
variable{X:Cx}{CX:mf}{k:Nat}{f C:Addr}{fd:FuncData}{ps:List Str}{sp:Sp}{dvs:List V}{ds:List Value}{E:XK}{x m:Str}{p pos apos:Pos}{e o:Expr}{es:List Expr}{ta:TE}{t:TA}
theorem yY{pins:List (Addr×Obj)}{σ:St}{H:Hp}{s:Shared}{Q:VK}{us:List Value}{vs:List V}(F:gD X.prog X.w X.K X.mg X.base CX k f fd ps sp)(hr:Room k X.A)(hb:Binds X.K fd ps ds)(hd:Vals dvs ds)(hx:nC CX X E)
  (I:Inv X pins σ H s) (r:Vals vs us) (h:sp (vs++dvs) H Q E):wpAny (model X.prog X.w) X.A (call (.ref f) us) (EP X pins σ Q) X.xe s:=by
 have r2:Vals (vs++dvs) (us++ds):=r.append hd;have hl:(us++ds).length=ps.length:=by rw[←r2.length];exact F.len _ _ _ _ h
 refine wpAny_call (eV (F.run X.A X.stack s H ⟨us,[]⟩ (us++ds) (vs++dvs) Q E hr I.env0 (hb s us I.kIn hl) r2 h) λr s' hq=>?_);cases r with
 |error e=>exact hx pins σ H s e s' I hq
 |ok fl=>
  cases fl with
  |ret u=>exact I.after hq
  |next=>exact False.elim hq
  |brk=>exact False.elim hq
  |cont=>exact False.elim hq
theorem Xo(F:gD X.prog X.w X.K X.mg X.base CX k f fd ps sp)(hr:Room k X.A)(hg:Gl X x)(hm:X.mg x=some (.ref f))(hk:PySem.W.keepIn X.K (.ref f)=true)(hb:Binds X.K fd ps ds)(hd:Vals dvs ds)(hx:nC CX X E)
  (ha:PA X (e::es) t) (hdb:(x==("__debug__":Str))=false:=by decide) (he:starEach (e::es) X.env=(false,eval e X.env)::starEach es X.env:=by rfl) (hpl:(backTo pos (starEach es X.env)).any (·.1)=false:=by rfl):
  PE X (.Call (.Name x p) (e::es) [] pos) (tq sp dvs E t):=by
 intro pins s σ H Q I h;refine fC (pe I hg hm ?_ hdb);refine PySem.W.callWith_K (h₀:=X.base) I.ok.mod.kin hk (fU (ha pos pins s σ H _ I h) λus s1 ⟨vs,H1,I1,r,q⟩=>⟨I1.kIn,?_⟩) he hpl;exact yY F hr hb hd hx I1 r q
theorem M2{pl:Sem Bool}(he:PE X o ta)(c:Cls X.K C)(hm:ku X.K C m f)(F:gD X.prog X.w X.K X.mg X.base CX k f fd ps sp)(hr:Room k X.A)(hb:Binds X.K fd ps ds)(hd:Vals dvs ds)(hx:nC CX X E)(ha:PA X (e::es) t)
  (hst:starEach (e::es) X.env=(false,eval e X.env)::starEach es X.env:=by rfl) (hpl:(backTo pos (starEach es X.env)).any (·.1)=false:=by rfl)
  (ht:eval (.Call (.Attribute o m apos) (e::es) [] pos) X.env=(do
   let ov ←eval o X.env
   standAt apos.atName
   let (f,first) ←holding [ov] (getMethod ov m pl)
   callWith pos f first (backTo pos (starEach (e::es) X.env)) (backToKw pos (keywordEach [] X.env))):=by rfl):
  PE X (.Call (.Attribute o m apos) (e::es) [] pos) (yO C m sp dvs E ta t):=by
 intro pins s σ H Q I h;refine PySem.W.methodCall_KW (pl:=pl) (fU (he pins s σ H _ I h) λu s1 ⟨x,H1,I1,rx,a,dx,fs,ex,ea,l,q⟩=>?_) ht;subst ex;obtain rfl:u=Value.ref a:=rx;refine Yk I1 ea c hm l ?_;refine PySem.W.callWith_K (first:=[.ref a]) (h₀:=X.base) I.ok.mod.kin hm.kp (fU (ha pos pins s1 σ H1 _ I1 q) λus s2 ⟨vs,H2,I2,r,q2⟩=>⟨I2.kIn,?_⟩) hst hpl;exact yY (us:=.ref a::us) (vs:=.ref a::vs) F hr hb hd hx I2 (.cons rfl r) q2
structure Mk(K:FG)(C f:Addr):Prop where
 makes:PySem.W.makesIn K C=true
 init:PySem.W.findIn K (.ref C) "__init__"=some (some (.ref f))
 fn:PySem.W.isFn K (.ref f)=true
 kp:PySem.W.keepIn K (.ref C)=true
theorem DG{pins:List (Addr×Obj)}{σ:St}{H:Hp}{s:Shared}{Q:VK}{us:List Value}{vs:List V}(M:Mk X.K C f)(F:gD X.prog X.w X.K X.mg X.base CX k f fd ps sp)(hr:Room (k+1) X.A)(hb:Binds X.K fd ps ds)(hd:Vals dvs ds)
  (hx:nC CX X E) (I:Inv X pins σ H s) (r:Vals vs us)
  (h:∀x dx,H x=none->H dx=none->dx≠x->sp (.ref x::(vs++dvs)) (upd (upd H dx (.own x)) x (.ins C dx [])) (λv H2=>v=.non/\Q (.ref x) H2) E):
  wpAny (model X.prog X.w) X.A (call (.ref C) us) (EP X pins σ Q) X.xe s:=by
 have hq:=h (s.heap.objs.size+1) s.heap.objs.size (I.hok.fresh (Nat.le_succ _)) (I.hok.fresh (aQ _)) (aW (dD _));have I2:=Inv.made (C:=C) I;have r2:Vals (V.ref (s.heap.objs.size+1)::(vs++dvs)) (Value.ref (s.heap.objs.size+1)::(us++ds)):=.cons rfl (r.append hd);have hl:(Value.ref (s.heap.objs.size+1)::us++ds).length=ps.length:=by
  have e:=r2.length;rw[F.len _ _ _ _ hq] at e;exact e.symm
 refine wpAny_call (MT (f:=f) I.kIn M.makes M.init (beq_iff_eq.mp M.fn) (eV (F.run _ X.stack _ _ ⟨Value.ref (s.heap.objs.size+1)::us,[]⟩ (Value.ref (s.heap.objs.size+1)::(us++ds)) _ _ E (hr.make C us [])
  (I2.env0.make C us []) (hb _ (Value.ref (s.heap.objs.size+1)::us) I2.kIn hl) r2 hq) λr s' hq'=>?_))
 cases r with
 |error e=>exact hx pins σ _ _ e s' I2 hq'
 |ok fl=>
  cases fl with
  |ret u=>
   obtain⟨v,H',I3,rv,ev,q3⟩:=I2.after hq';subst ev;exact⟨rv,⟨V.ref (s.heap.objs.size+1),H',I3,rfl,q3⟩⟩
  |next=>exact False.elim hq'
  |brk=>exact False.elim hq'
  |cont=>exact False.elim hq'
theorem MO(M:Mk X.K C f)(F:gD X.prog X.w X.K X.mg X.base CX k f fd ps sp)(hr:Room (k+1) X.A)(hg:Gl X x)(hm:X.mg x=some (.ref C))(hb:Binds X.K fd ps ds)(hd:Vals dvs ds)(hx:nC CX X E)
  (ha:PA X (e::es) t) (hdb:(x==("__debug__":Str))=false:=by decide) (he:starEach (e::es) X.env=(false,eval e X.env)::starEach es X.env:=by rfl) (hpl:(backTo pos (starEach es X.env)).any (·.1)=false:=by rfl):
  PE X (.Call (.Name x p) (e::es) [] pos) (sV C sp dvs E t):=by
 intro pins s σ H Q I h;refine fC (pe I hg hm ?_ hdb);refine PySem.W.callWith_K (h₀:=X.base) I.ok.mod.kin M.kp (fU (ha pos pins s σ H _ I h) λus s1 ⟨vs,H1,I1,r,q⟩=>⟨I1.kIn,?_⟩) he hpl;exact DG M F hr hb hd hx I1 r q
theorem Rf(M:Mk X.K C f)(F:gD X.prog X.w X.K X.mg X.base CX k f fd ps sp)(hr:Room (k+1) X.A)(hg:Gl X x)(hm:X.mg x=some (.ref C))(hb:Binds X.K fd ps ds)(hd:Vals dvs ds)(hx:nC CX X E)
  (hdb:(x==("__debug__":Str))=false:=by decide):PE X (.Call (.Name x p) [] [] pos) (sV C sp dvs E jQ):=by
 intro pins s σ H Q I h;refine fC (pe I hg hm ?_ hdb);exact PySem.W.callWith_K0 I.kIn M.kp (DG (us:=[]) M F hr hb hd hx I .nil h)
variable{ks:List Str}{kpos:Pos}{kws:List Keyword}{te:TE}{tk:TA}{nm:Option Str}{g:List Value->List Value->List Value}{gV:List V->List V->List V}
end
structure fb(N P:List Str)(sc:Scope):Prop where
 kind:sc.kind=.function
 co:sc.isCoroutine=false
 gen:sc.isGenerator=false
 nd:N.Nodup
 pre:N.take P.length=P
 par:∀x∈P,sc.names.lookup x=some .local∨sc.names.lookup x=some .cell
 nofree:∀y∈sc.names,y.2≠ .free
theorem Bv{kindOf:Str->Option NameKind}{x:Str}:∀{binds:List (Str×Value)} {m:Str->Option Value},(∀v,(x,v)∉binds)->bindL kindOf binds m x=m x
 |[],_,_=>rfl
 |(n,v)::r,m,h=>by
  unfold bindL;rw[Bv λw hw=>h w (bG _ hw)];split
  ·have:x≠n:=by rintro rfl;exact h v bF
   simp[this]
  ·rfl
theorem F3{kindOf:Str->Option NameKind}{x:Str}:∀{binds:List (Str×Value)} {m:Str->Option Value},(∀v,(x,v)∉binds)->bindC kindOf binds m x=m x
 |[],_,_=>rfl
 |(n,v)::r,m,h=>by
  unfold bindC;rw[F3 λw hw=>h w (bG _ hw)];split
  ·rfl
  ·have:x≠n:=by rintro rfl;exact h v bF
   simp[this]
theorem D6{kindOf:Str->Option NameKind}{x:Str}{v:Value}:∀{P:List Str} {vs:List Value} {i:Nat} {m:Str->Option Value},P.Nodup->P[i]? =some x->vs[i]? =some v->kindOf x=some .local->
  bindL kindOf (P.zip vs) m x=some v
 |[],_,_,_,_,h,_,_=>by simp at h
 |_::_,[],_,_,_,_,h,_=>by simp at h
 |p::P,w::vs,0,m,nd,h1,h2,hk=>by
  simp at h1 h2;subst h1;subst h2;show bindL kindOf ((p,w)::P.zip vs) m p=_;unfold bindL;rw[Bv λv hv=>(List.nodup_cons.mp nd).1 (List.of_mem_zip hv).1,if_pos hk];simp
 |p::P,w::vs,i+1,m,nd,h1,h2,hk=>by
  show bindL kindOf ((p,w)::P.zip vs) m x=_;unfold bindL;exact D6 (i:=i) (List.nodup_cons.mp nd).2 (by simpa using h1) (by simpa using h2) hk
theorem Gd{kindOf:Str->Option NameKind}{x:Str}{v:Value}:∀{P:List Str} {vs:List Value} {i:Nat} {m:Str->Option Value},P.Nodup->P[i]? =some x->vs[i]? =some v->kindOf x≠some .local->
  bindC kindOf (P.zip vs) m x=some v
 |[],_,_,_,_,h,_,_=>by simp at h
 |_::_,[],_,_,_,_,h,_=>by simp at h
 |p::P,w::vs,0,m,nd,h1,h2,hk=>by
  simp at h1 h2;subst h1;subst h2;show bindC kindOf ((p,w)::P.zip vs) m p=_;unfold bindC;rw[F3 λv hv=>(List.nodup_cons.mp nd).1 (List.of_mem_zip hv).1,if_neg hk];simp
 |p::P,w::vs,i+1,m,nd,h1,h2,hk=>by
  show bindC kindOf ((p,w)::P.zip vs) m x=_;unfold bindC;exact Gd (i:=i) (List.nodup_cons.mp nd).2 (by simpa using h1) (by simpa using h2) hk
noncomputable def start(N:List Str)(vs:List V):St:=vs.map some++List.replicate (N.length-vs.length) none
noncomputable def mL(CX:mf)(P:Program)(w:World)(K:FG)(mg:Str->Option Value)(base:Heap)(N:List Str)(qual:Str)(scope:Scope)(f:Addr)(cd:Value)(A:Around)(outer:List Env)(s:Shared)(H:Hp)(E:XK):Cx where
 prog:=P
 w:=w
 K:=K
 mg:=mg
 base:=base
 A:=A.deeper (envOfC qual scope s.heap.objs.size f cd)
 N:=N
 s₀:=s
 H₀:=H
 env:=envOfC qual scope s.heap.objs.size f cd
 outer:=outer
 stack:=envOfC qual scope s.heap.objs.size f cd::outer
 ex:=[]
 calm:=true
 fn:=λ_=>true
 pn:=[]
 xe:=λe s'=>wpAny (model P w) (A.deeper (envOfC qual scope s.heap.objs.size f cd)) (leaving (envOfC qual scope s.heap.objs.size f cd) e) (λ_ s''=>CX outer H s E e s'') (λe' s''=>CX outer H s E e' s'') s'
theorem BI{sc:Scope}{n:Nat}{x:Str}(h:sc.names.lookup x=some .cell):∃c,(cellsFrom n sc.names []).lookup x=some c:=by
 have q:=PySem.W.cellsFrom_some sc.names n [] (.inl h);exact dP.mp q
theorem Tn{CX:mf}{P:Program}{w:World}{K:FG}{mg:Str->Option Value}{base:Heap}{N ps:List Str}{qual:Str}{scope:Scope}{f:Addr}{cd:Value}{A:Around}{outer:List Env}{s s1:Shared}{H:Hp}{E:XK}{us:List Value}{vs:List V}
  (S:fb N ps scope) (hd:A.handled=none) (e0:Env0 P w K mg base A outer s H) (hl:vs.length=ps.length) (r:Vals vs us)
  (x:InCallC s s.heap.objs.size (bindL (envOfC qual scope s.heap.objs.size f cd).kindOf (ps.zip us) λ_=>none) (cellsFrom (s.heap.objs.size+1) scope.names []) (bindC (envOfC qual scope s.heap.objs.size f cd).kindOf (ps.zip us) λ_=>none) s1):
  Inv (mL CX P w K mg base N qual scope f cd A outer s H E) [] (start N vs) H s1:=by
 have hpl:ps.length<=N.length:=by have:=congrArg List.length S.pre;rw[dE] at this;omega
 obtain⟨h1,tk,rfl,hk⟩:=x.done;have noA:∀b:Addr,b∉(mL CX P w K mg base N qual scope f cd A outer s H E).ex:=λb z=>absurd (show b∈([]:List Addr) from z) (by simp);refine⟨⟨e0.mod,S.kind,rfl,rfl,aQ _,λy z c h1 h2=>?_,λy hy=>?_,λy c _ h=>?_,λ_=>hd,Around.frames_deeper e0.frames,.inr ⟨rfl,rfl⟩,λb z=>absurd z (noA b),e0.bs,e0.bsz,λb _ _=>noA b,λb z=>absurd z (noA b),e0.funs,e0.frf⟩,
  rfl,e0.bare,Un.kept hk,⟨_,x.toInCall.ns,λi y v h1 h2 h3=>?_⟩,λy c h=>⟨_,x.cell y c h⟩,e0.hok.fresh (aQ _),λy c h=>?_,λp hp=>absurd (show p∈([]:List (Addr×Obj)) from hp) (by simp),e0.hok.kept hk,?_⟩
 ·exact name_of_addr x.apart (PySem.mem_of_lookup h1) (PySem.mem_of_lookup h2)
 ·have hy:scope.names.lookup y=some .cell∨scope.names.lookup y=some .free:=hy;rcases hy with hy | hy
  ·exact BI hy
  ·exact absurd rfl (S.nofree _ (PySem.mem_of_lookup hy))
 ·exact Nat.le_of_lt (x.above y c (PySem.mem_of_lookup h))
 ·have hi:i<vs.length:=by
   unfold start at h2;by_cases hi:i<vs.length
   ·exact hi
   ·rw[List.getElem?_append_right (by simpa using hi)] at h2;rw[List.getElem?_replicate] at h2;split at h2<;>cases h2
  have ha:vs[i]? =some v:=by
   unfold start at h2;rw[List.getElem?_append_left (by simpa using hi),bC] at h2;cases e:vs[i]? with
   |none=>rw[e] at h2;cases h2
   |some a=>rw[e] at h2;cases h2;rfl
  obtain⟨u,hu,rv⟩:=r.get ha;have hp:ps[i]? =some y:=by
   rw[←S.pre,List.getElem?_take_of_lt ⋯];exact h1
  have ndP:ps.Nodup:=by rw[←S.pre];exact S.nd.sublist (List.take_sublist _ _)
  refine⟨u,rv,?_⟩;rcases S.par y (bU hp) with k | k
  ·exact .inl ⟨k,D6 ndP hp hu k⟩
  ·obtain⟨c,e⟩:=BI (n:=s.heap.objs.size+1) k;refine .inr ⟨.inl k,c,e,?_⟩;have q:=x.cell y c e;rw[Gd ndP hp hu (by show scope.names.lookup y≠_;rw[k];decide)] at q;exact q
 ·exact e0.hok.fresh (Nat.le_of_lt (x.above y c (PySem.mem_of_lookup h)))
 ·unfold start;show _=N.length;rw[aY,aR,dQ];omega
theorem uP{CX:mf}{P:Program}{w:World}{K:FG}{mg:Str->Option Value}{base:Heap}{k:Nat}{f:Addr}{name qual:Str}{params:Arguments}{body:List Stmt}{scope:Scope}{dV kV doc pm cdv ct oc:Value}{an od:Option Addr}
  {osl:Array (Option Value)} {N ps:List Str} {sp:Sp} (lk:K.lookup f=some ⟨oc,od,.func (PySem.W.fnOf name qual params body scope dV kV doc pm an cdv ct),osl⟩) (hcd:PySem.W.codeIn K cdv qual=true) (S:fb N ps scope)
  (len:∀vs H Q E,sp vs H Q E->vs.length=ps.length)
  (hbody:∀(A:Around) (outer:List Env) (s:Shared) (H:Hp) (vs:List V) (Q:VK) (E:XK),Room k (A.deeper (envOfC qual scope s.heap.objs.size f cdv))->sp vs H Q E->
   ∃t,PSs (mL CX P w K mg base N qual scope f cdv A outer s H E) body t/\t {nx:=λ_ H'=>Q .non H',rt:=Q} (start N vs) H):
  gD P w K mg base CX (k+1) f (PySem.W.fnOf name qual params body scope dV kV doc pm an cdv ct) ps sp:=by
 refine⟨len,λA outer s H args us vs Q E hr e0 hb r hsp=>?_⟩;have hl:=len _ _ _ _ hsp;have KX:K.In s.heap:=e0.mod.kin.keeps λb o e=>(e0.bs b o e).1;have lim:s.heap.NoLimit:=e0.mod.nolimit.keeps λb o e=>(e0.bs b o e).1;have hkind:∀y∈ps.zip us,scope.names.lookup y.1=some .local∨(scope.names.lookup y.1=some .cell/\((cellsFrom (s.heap.objs.size+1) scope.names []).lookup y.1).isSome=true):=λ⟨n,v⟩ hy=>by
  rcases S.par n (List.of_mem_zip hy).1 with q | q
  ·exact .inl q
  ·exact .inr ⟨q,PySem.W.cellsFrom_some _ _ _ (.inl q)⟩
 refine codeAny_call_function hr.depth (KX _ _ lk) rfl S.co S.gen rfl (PySem.W.codeRec_of KX hcd) (hb _ _ _ _ ?_);refine wpAny_newFunctionEnv_cells S.kind hkind λenv he s1 x=>?_;subst he;refine⟨lim.keeps x.toInCall.keep,codeAny_func ?_⟩;obtain⟨t,ht,hq⟩:=hbody A outer s H vs Q E (hr.deeper _) hsp;have I:Inv (mL CX P w K mg base N qual scope f cdv A outer s H E) [] (start N vs) H s1:=Tn S hr.hd e0 hl r x
 refine eP (ht [] s1 (start N vs) H _ I hq) (λfl s' hs=>?_) λe s' hs=>hs;have fZ:∀{σ':St} {H':Hp} {v:V} {u:Value},Inv (mL CX P w K mg base N qual scope f cdv A outer s H E) [] σ' H' s'->RelV v u->Q v H'->CE outer P w H s Q u s':=
  λ{σ' H' v u} J rv q=>⟨v,H',J.os,J.bare,J.base,J.hok,rv,q⟩
 cases fl with
 |ret u=>
  obtain⟨v,σ',H',J,rv,q⟩:=hs;exact fZ J rv q
 |next=>
  obtain⟨σ',H',J,q⟩:=hs;exact fZ (v:=V.non) (u:=Value.none) J rfl q
 |brk=>
  obtain⟨_,_,_,q⟩:=hs;exact False.elim q
 |cont=>
  obtain⟨_,_,_,q⟩:=hs;exact False.elim q
section
variable{X:Cx}{x:Str}{p pos:Pos}{e:Expr}{es:List Expr}{t:TA}{id T:String}{r:List V->Hp->VK->Prop}
def ra(r:List V->Hp->VK->Prop)(t:TA):TE:=λσ H Q=>t σ H λvs H1=>r vs H1 Q
theorem PP(hc:kh X (.builtin id) r)(hg:Gl X x)(hm:X.mg x=none)(hv:bootBuiltins x=some (.builtin id))(ha:PA X (e::es) t)(hn:x≠"__name__":=by decide)(hdb:(x==("__debug__":Str))=false:=by decide)
  (he:starEach (e::es) X.env=(false,eval e X.env)::starEach es X.env:=by rfl) (hpl:(backTo pos (starEach es X.env)).any (·.1)=false:=by rfl):PE X (.Call (.Name x p) (e::es) [] pos) (ra r t):=by
 intro pins s σ H Q I h;refine fC (nV I hg hm hv ?_ hn hdb);exact PyProof.Rows.callWith_builtin1 (fU (ha pos pins s σ H _ I h) λus s1 ⟨vs,H1,I1,r1,q1⟩=>hc pins s1 σ H1 vs us Q I1 r1 q1) he hpl
theorem Pe(hc:kh X (.type T) r)(hg:Gl X x)(hm:X.mg x=none)(hv:bootBuiltins x=some (.type T))(ha:PA X (e::es) t)(hn:x≠"__name__":=by decide)(hdb:(x==("__debug__":Str))=false:=by decide)
  (he:starEach (e::es) X.env=(false,eval e X.env)::starEach es X.env:=by rfl) (hpl:(backTo pos (starEach es X.env)).any (·.1)=false:=by rfl):PE X (.Call (.Name x p) (e::es) [] pos) (ra r t):=by
 intro pins s σ H Q I h;refine fC (nV I hg hm hv ?_ hn hdb);exact PyProof.Rows.callWith_type1 (fU (ha pos pins s σ H _ I h) λus s1 ⟨vs,H1,I1,r1,q1⟩=>hc pins s1 σ H1 vs us Q I1 r1 q1) he hpl
end
end L2
namespace HT
open PySem PyProof.Rows
section
open PySem.SeqAt
open PySem.AutoSeq1 (wpAny_loadPart')
open PySem.MeetsSeq PySem.MeetsSeq2 PySem.MeetsSeq3
variable{prog:Program}{w:World}{A:Around}{E:Value->Shared->Prop}{s:Shared}
noncomputable def sIx(n d:Nat):Option Int->Nat
 |none=>d
 |some v=>if v<0 then (v+(n:Int)).toNat else min v.toNat n
theorem sIx_nat(n d k:Nat):sIx n d (some (k:Int))=min k n:=by
 show (if (k:Int)<0 then ((k:Int)+(n:Int)).toNat else min (k:Int).toNat n)=min k n;rw[if_neg ⋯,Int.toNat_natCast]
theorem sIx_le(n d:Nat)(hd:d<=n)(o:Option Int):sIx n d o<=n:=by
 cases o with
 |none=>exact hd
 |some v=>
  show (if v<0 then (v+(n:Int)).toNat else min v.toNat n)<=n;by_cases hv:v<0
  ·rw[if_pos hv];omega
  ·rw[if_neg hv];exact Nat.min_le_right _ _
end
end HT
namespace L2
open PySem PySem.Spec PyProof.Rows
noncomputable abbrev TO:=St->Hp->(Option Int->Hp->Prop)->Prop
def PO(X:Cx)(e:Option Expr)(t:TO):Prop:=
 ∀(pins:List (Addr×Obj)) (s:Shared) (σ:St) (H:Hp) (Q:Option Int->Hp->Prop),Inv X pins σ H s->t σ H Q->
  wpAny (model X.prog X.w) X.A (evalPart e X.env) (λu s'=>∃o H',Inv X pins σ H' s'/\IsPart u o/\Q o H') X.xe s
def Ge:TO:=λ_ H Q=>Q none H
def Cq(t:TE):TO:=λσ H Q=>t σ H λx H1=>∃i,x=.int i/\Q (some i) H1
section
variable{X:Cx}{e:Expr}{te:TE}{lo hi:Option Expr}{tl th:TO}{pos p2:Pos}
theorem Jm:PO X none Ge:=by
 intro pins s σ H Q I h;rw[evalPart_none];exact fE ⟨none,H,I,.none,h⟩
theorem Qx(h:PE X e te):PO X (some e) (Cq te):=by
 intro pins s σ H Q I hw;rw[evalPart_some];refine fU (h pins s σ H _ I hw) λu s1 ⟨x,H1,I1,r1,q1⟩=>?_;obtain⟨i,rfl,q⟩:=q1;obtain⟨t,rfl⟩:=r1;exact⟨some i,H1,I1,.int i t,q⟩
def y8(X:Cx)(r:V->Option Int->Option Int->Hp->VK->Prop):Prop:=
 ∀(pins:List (Addr×Obj)) (s:Shared) (σ:St) (H:Hp) (x:V) (v vl vu:Value) (lo hi:Option Int) (sl:Addr) (Q:VK),Inv X pins σ H s->RelV x v->s.heap.IsSliceOf sl vl vu .none->IsPart vl lo->IsPart vu hi->r x lo hi H Q->
  ∃T id,typeLookup (.type T) "__getitem__"=pure (some (.builtin id))/\s.TypeIs v T/\wpAny (model X.prog X.w) X.A (getItem v (.ref sl)) (EP X pins σ Q) X.xe s
def CZ(r:V->Option Int->Option Int->Hp->VK->Prop)(te:TE)(tl th:TO):TE:=λσ H Q=>te σ H λx H1=>tl σ H1 λl H2=>th σ H2 λu H3=>r x l u H3 Q
theorem Q9{r:V->Option Int->Option Int->Hp->VK->Prop}(hr:y8 X r)(he:PE X e te)(hl:PO X lo tl)(hu:PO X hi th):PE X (.Subscript e (.Slice lo hi none p2) pos) (CZ r te tl th):=by
 intro pins s σ H Q I h;refine Subscript_ (fU (he pins s σ H _ I h) λv s1 ⟨x,H1,I1,r1,q1⟩=>?_);refine wpAny_Slice (fU (hl pins s1 σ H1 _ I1 q1) λvl s2 ⟨l,H2,I2,pl,q2⟩=>fU (hu pins s2 σ H2 _ I2 q2) λvu s3 ⟨u,H3,I3,pu,q3⟩=>?_);rw[evalPart_none];refine fE ?_;have I4:Inv X pins σ H3 {s3 with heap:=s3.heap.push {cls:=.type "slice",data:=.fields #[vl,vu,.none]} }:=I3.kept (t':=s3.toks) λb ob q=>aU _ q
 obtain⟨T,id,hT,ht,hg⟩:=hr pins {s3 with heap:=s3.heap.push {cls:=.type "slice",data:=.fields #[vl,vu,.none]} } σ H3 x v vl vu l u s3.heap.objs.size Q I4 r1 (Heap.IsSliceOf.new ..) pl pu q3;show wpAny (model X.prog X.w) X.A (subscriptTail e (.Slice lo hi none p2) v (.ref s3.heap.objs.size)) (EP X pins σ Q) X.xe {s3 with heap:=s3.heap.push {cls:=.type "slice",data:=.fields #[vl,vu,.none]} };exact tail_any (ops:=[.ref s3.heap.objs.size,v]) ht hT hg (by with_unfolding_all rfl)
noncomputable def kr(xs:List V)(lo hi:Option Int):List V:=(xs.drop (HT.sIx xs.length 0 lo)).take (HT.sIx xs.length xs.length hi-HT.sIx xs.length 0 lo)
theorem Me(xs:List V)(lo hi:Option Int):(kr xs lo hi).length<=xs.length:=by
 unfold kr;rw[dE,dH];omega
end
noncomputable def k9(n:Nat)(i:Int):Option Nat:=if 0<=i then (if i<n then some i.toNat else none) else if -(n:Int)<=i then some (i+n).toNat else none
noncomputable def jb{α:Type}(xs:List α)(i:Int):Option α:=(k9 xs.length i).bind λj=>xs[j]?
theorem D3{n:Nat}{i:Int}{j:Nat}(h:k9 n i=some j):seqIndex? i n=some j/\j<n/\ -(n:Int)<=i/\i<n:=by
 unfold k9 at h;by_cases h0:0<=i
 ·rw[if_pos h0] at h;by_cases h1:i<n
  ·rw[if_pos h1] at h;have e:i.toNat=j:=aZ h;exact⟨by rw[seqIndex_of h0 h1,e],⋯,⋯,h1⟩
  ·rw[if_neg h1] at h;cases h
 ·rw[if_neg h0] at h;by_cases h1: -(n:Int)<=i
  ·rw[if_pos h1] at h;have e:(i+n).toNat=j:=aZ h;exact⟨by rw[seqIndex_neg ⋯ h1,e],⋯,h1,⋯⟩
  ·rw[if_neg h1] at h;cases h
theorem xF{α:Type}{xs:List α}{i:Int}{v:α}(h:jb xs i=some v):∃j,seqIndex? i xs.length=some j/\xs[j]? =some v/\j<xs.length/\ -(xs.length:Int)<=i/\i<xs.length:=by
 unfold jb at h;cases e:k9 xs.length i with
 |none=>rw[e] at h;cases h
 |some j=>
  rw[e] at h;obtain⟨h1,h2,h3,h4⟩:=D3 e;exact⟨j,h1,h,h2,h3,h4⟩
theorem qv{α:Type}{xs:List α}{j:Nat}{v:α}(h:xs[j]? =some v):jb xs (j:Int)=some v:=by
 have hj:j<xs.length:=(cC.mp h).1;have e:k9 xs.length (j:Int)=some j:=by
  unfold k9;rw[if_pos ⋯,if_pos ⋯];simp
 unfold jb;rw[e];exact h
theorem QW{α:Type}(xs:List α)(v:α):jb (xs++[v]) (-1)=some v:=by
 have hl:(xs++[v]).length=xs.length+1:=by simp
 have e:k9 (xs++[v]).length (-1)=some xs.length:=by
  unfold k9;rw[hl,if_neg (by decide),if_pos ⋯];congr 1;omega
 unfold jb;rw[e];show (xs++[v])[xs.length]? =some v;simp
def Do(b:Expr):Prop:=∀o i,subscripted b false o i=operate [o,i] (getItem o i)
def qy(X:Cx)(r:R2):Prop:=
 ∀(value slice:Expr) (pins:List (Addr×Obj)) (s:Shared) (σ:St) (H:Hp) (x y:V) (v u:Value) (Q:VK),Inv X pins σ H s->RelV x v->RelV y u->r x y H Q->
  subscripted slice false v u=operate [v,u] (getItem v u)->wpAny (model X.prog X.w) X.A (subscriptTail value slice v u) (EP X pins σ Q) X.xe s
def nR(X:Cx)(id:String)(r:V->List V->Hp->VK->Prop):Prop:=
 ∀(pins:List (Addr×Obj)) (s:Shared) (σ:St) (H:Hp) (x:V) (xs:List V) (v:Value) (us:List Value) (Q:VK),Inv X pins σ H s->RelV x v->Vals xs us->r x xs H Q->
  wpAny (model X.prog X.w) X.A (call (.builtin id) (v::us)) (EP X pins σ Q) X.xe s
section
variable{X:Cx}{a b:Expr}{ta tb:TE}{pos:Pos}
theorem Io{r:R2}(hr:qy X r)(ha:PE X a ta)(hb:PE X b tb)(hs:Do b):PE X (.Subscript a b pos) (mV r ta tb):=by
 intro pins s σ H Q I h;exact Subscript_ (xr ha hb I h λv u s2 x y H2 I2 rx ry q=>hr a b pins s2 σ H2 x y v u Q I2 rx ry q (hs _ _))
inductive MS (K:FG) (x y:V) (H:Hp) (Q:VK):Prop
 |mk (p:Addr) (xs:List V) (i:Int) (v:V) (e:x=.ref p) (f:y=.int i) (s:SqL K H p xs) (a:jb xs i=some v) (r:Q v H)
def xU(K:FG):R2:=MS K
inductive LP (K:FG) (x y:V) (H:Hp) (Q:VK):Prop
 |mk (p:Addr) (xs:List V) (i:Int) (v:V) (e:x=.ref p) (f:y=.int i) (s:SqT K H p xs) (a:jb xs i=some v) (r:Q v H)
def yr(K:FG):R2:=LP K
def vw:R2:=λx y H Q=>∃z i c,x=.str z/\y=.int i/\z.length<=sizeLine/\jb z.cps.toList i=some c/\Q (.str ⟨#[c]⟩) H
theorem NF:qy X (xU X.K):=by
 intro value slice pins s σ H x y v u Q I rx ry h hs;obtain⟨p,xs,i,z,rfl,rfl,hq,he,q⟩:=h;cases rx;obtain⟨t,rfl⟩:=ry;obtain⟨its,r,pl,hz⟩:=I.list hq;obtain⟨j,h1,h2,h3,h4,h5⟩:=xF he;obtain⟨w,ew,rw'⟩:=r.get h2;have hl:=r.length;have hn:=ou;have fZ:EP X pins σ Q w s:=⟨z,H,I,rw',q⟩;by_cases h0:0<=i
 ·have hj:i.toNat=j:=by
   rw[seqIndex_of h0 h5] at h1;exact aZ h1
  exact item_listR pl.isList h0 ⋯ (by rw[hj];simpa using ew) fZ hs
 ·have hj:(i+(its.toArray.size:Int)).toNat=j:=by
   rw[seqIndex_neg ⋯ h4] at h1;rw[bI,←hl];exact aZ h1
  exact subscriptTail_builtinR (x:=w) pl.isList.typeIs slot_list_getitem.lookup
   (wpAny_getItem_list_neg (Q:=λr s'=>r=w/\EP X pins σ Q r s') pl.isList ⋯ (by rw[bI]<;>omega) ⋯ (by rw[hj];simpa using ew) ⟨rfl,fZ⟩) hs
theorem LR:qy X (yr X.K):=by
 intro value slice pins s σ H x y v u Q I rx ry h hs;obtain⟨p,xs,i,z,rfl,rfl,hq,he,q⟩:=h;cases rx;obtain⟨t,rfl⟩:=ry;obtain⟨its,r,pl,hz⟩:=I.tuple hq;obtain⟨j,h1,h2,h3,h4,h5⟩:=xF he;obtain⟨w,ew,rw'⟩:=r.get h2;have hl:=r.length;have hn:=ou;have fZ:EP X pins σ Q w s:=⟨z,H,I,rw',q⟩;exact subscriptTail_builtinR (x:=w) pl.typeIs slot_tuple_getitem.lookup
  (getItem_tuple (j:=j) (Q:=λr s'=>r=w/\EP X pins σ Q r s') pl ⋯ ⋯ (by rw[bI,←hl];exact h1) (by simpa using ew) ⟨rfl,fZ⟩) hs
theorem Ve:qy X vw:=by
 intro value slice pins s σ H x y v u Q I rx ry h hs;obtain⟨z,i,c,rfl,rfl,hz,he,q⟩:=h;obtain⟨t,rfl⟩:=rx;obtain⟨t',rfl⟩:=ry;obtain⟨j,h1,h2,h3,h4,h5⟩:=xF he;have hl:z.cps.toList.length=z.length:=by simp[Str.length]
 rw[hl] at h1 h4 h5;have hn:=ou;exact tail_any (typeIs_str s z t) slot_str_getitem.lookup (getItem_str (c:=c) (by
  have e1:decide (i< -(2^63:Int))=false:=fB ⋯;have e2:decide (i ≥ 2^63)=false:=fB ⋯;rw[e1,e2,Bool.or_false]) (by rw[h1];simpa using h2) ⟨.str ⟨#[c]⟩,H,I.tok _,⟨()⟩,q⟩) hs
theorem Jg(its:List Value)(n j:Nat)(u:Value):Obj.mapSeq (·.setIfInBounds j u) {cls:=.type "list",data:=.seq its.toArray n}={cls:=.type "list",data:=.seq (its.set j u).toArray n}:=by
 simp[Obj.mapSeq]
theorem Inv.lst{pins:List (Addr×Obj)}{σ:St}{H:Hp}{s:Shared}{p:Addr}{xs:List V}(I:Inv X pins σ H s)(h:H p=some (.lst xs)):
  ∃(its:List Value) (n:Nat),Vals xs its/\s.heap.get? p=some {cls:=.type "list",data:=.seq its.toArray n}/\xs.length<=sizeLine:=by
 obtain⟨z,its,n,r,e⟩:=I.hok p _ h;exact⟨its,n,r,e,z⟩
theorem Inv.lstUpd{pins:List (Addr×Obj)}{σ:St}{H:Hp}{s:Shared}{p:Addr}{xs ys:List V}{its its':List Value}{n n':Nat}{f:Obj->Obj}(I:Inv X pins σ H s)(h:H p=some (.lst xs))
  (ho:s.heap.get? p=some {cls:=.type "list",data:=.seq its.toArray n}) (hf:f {cls:=.type "list",data:=.seq its.toArray n}={cls:=.type "list",data:=.seq its'.toArray n'}) (r:Vals ys its') (hz:ys.length<=sizeLine) (t:Nat):
  Inv X pins σ (upd H p (.lst ys)) {s with heap:=s.heap.update p f,toks:=t}:=by
 have e:(s.heap.update p f).get? p=some {cls:=.type "list",data:=.seq its'.toArray n'}:=by
  rw[cV f ho (by rw[hf]<;>rfl),hf]
 refine I.write (x:=p) (e:=p) (by rw[h];trivial) (.inl rfl) (λb u hb q=>(cE _ _ (Ne.symm hb)).trans q) ⟨_,e⟩ ?_;exact⟨hz,its',n',r,e⟩
def Fc:V->V->V->Hp->(Hp->Prop)->Prop:=λo i v H Q=>∃p xs k j,o=.ref p/\i=.int k/\H p=some (.lst xs)/\k9 xs.length k=some j/\Q (upd H p (.lst (xs.set j v)))
theorem JX:CY X Fc:=by
 intro pins s σ H o i v ov iv u Q I ro ri rv h;obtain⟨p,xs,k,j,rfl,rfl,hp,hj,q⟩:=h;cases ro;obtain⟨t,rfl⟩:=ri;obtain⟨its,n,r,ho,hz⟩:=I.lst hp;obtain⟨h1,h2,h3,h4⟩:=D3 hj;have hl:=r.length;have hn:=ou;have I':Inv X pins σ (upd H p (.lst (xs.set j v))) {s with heap:=s.heap.update p (Obj.mapSeq (·.setIfInBounds j u))}:=
  I.lstUpd hp ho (Jg its n j u) (r.set rv j) (by rw[List.length_set];exact hz) s.toks
 by_cases h0:0<=k
 ·have hk:k.toNat=j:=by
   rw[seqIndex_of h0 h4] at h1;exact aZ h1
  exact PySem.W.ki_setAt ho h0 ⋯ (by rw[bI,←hl];exact h4) (by rw[hk];exact⟨_,I',q⟩)
 ·have hk:(k+(its.toArray.size:Int)).toNat=j:=by
   rw[seqIndex_neg ⋯ h3] at h1;rw[bI,←hl];exact aZ h1
  exact PySem.W.ki_setBack ho ⋯ (by rw[bI,←hl];exact h3) ⋯ (by rw[hk];exact⟨_,I',q⟩)
theorem N4(lo hi:Option Int)(n:Nat):(sliceBounds lo hi none n).1=((HT.sIx n 0 lo:Nat):Int)/\(sliceBounds lo hi none n).2.1=((HT.sIx n n hi:Nat):Int)/\(sliceBounds lo hi none n).2.2=1:=by
 refine⟨?_,?_,rfl⟩
 ·cases lo with
  |none=>simp[sliceBounds,HT.sIx]
  |some i=>
   simp only[sliceBounds,HT.sIx,Option.getD_none,show (1:Int)>0 by decide,if_true];by_cases h:i<0
   ·simp only[h,if_true]<;>omega
   ·simp only[h,if_false]<;>omega
 ·cases hi with
  |none=>simp[sliceBounds,HT.sIx]
  |some i=>
   simp only[sliceBounds,HT.sIx,Option.getD_none,show (1:Int)>0 by decide,if_true];by_cases h:i<0
   ·simp only[h,if_true]<;>omega
   ·simp only[h,if_false]<;>omega
theorem an7(its:List Value)(lo hi:Option Int):slicePick its.toArray lo hi none=((its.drop (HT.sIx its.length 0 lo)).take (HT.sIx its.length its.length hi-HT.sIx its.length 0 lo)).toArray:=by
 obtain⟨h1,h2,h3⟩:=N4 lo hi its.toArray.size;unfold slicePick;rw[h1,h2,h3];simp only[sliceRange_one,pick_run,bI]<;>rfl
def wW(K:FG):V->Option Int->Option Int->Hp->VK->Prop:=λx lo hi H Q=>∃a xs,x=.ref a/\SqL K H a xs/\∀p,H p=none->Q (.ref p) (upd H p (.lst (kr xs lo hi)))
theorem Hy:y8 X (wW X.K):=by
 intro pins s σ H x v vl vu lo hi sl Q I rx hs pl pu h;obtain⟨a,xs,rfl,hx,q⟩:=h;cases rx;obtain⟨its,r,ht,hz⟩:=I.list hx;have hlen:=r.length;refine⟨"list",_,slot_list_getitem.lookup,ht.isList.typeIs,?_⟩;refine wpAny_getItem_list_slice ht.isList hs pl pu .none (by simp) ?_ (by rw[bI]<;>omega);rw[an7,←hlen];refine⟨.ref s.heap.objs.size,_,I.laid (t':=s.toks) (o:=.lst (kr xs lo hi)) (λb ob q=>aU _ q) (aQ _) ?_,rfl,q _ (I.hok.fresh (aQ _))⟩
 exact⟨bL (Me xs lo hi) hz,_,0,(r.drop (HT.sIx xs.length 0 lo)).take (HT.sIx xs.length xs.length hi-HT.sIx xs.length 0 lo),a9 _ rfl⟩
noncomputable def kY:V->Bool
 |.non=>true
 |.bl _=>true
 |.int _=>true
 |.str _=>true
 |_=>false
noncomputable def mB:V->V->Bool
 |.non,.non=>true
 |.bl a,.bl b=>a==b
 |.bl a,.int b=>(if a then 1 else 0)==b
 |.int a,.bl b=>a==(if b then 1 else 0)
 |.int a,.int b=>a==b
 |.str a,.str b=>a==b
 |_,_=>false
theorem Kk{A:Around}{s:Shared}{y x:V}{u v:Value}(ry:RelV y u)(rx:RelV x v)(fy:kY y=true)(fx:kY x=true):SeqAt.EqAt A s u v (mB y x):=by
 cases y with
 |non=>
  cases ry;cases x with
  |non=>cases rx;exact SeqAt.EqAt.same _
  |bl b=>cases rx;exact SeqAt.EqAt.none_bool b
  |int b=>obtain⟨t,rfl⟩:=rx;exact SeqAt.EqAt.none_int b t
  |str b=>obtain⟨t,rfl⟩:=rx;exact SeqAt.EqAt.none_str b t
  |_=>exact absurd (show false=true from fx) a8
 |bl a=>
  cases ry;cases x with
  |non=>cases rx;exact SeqAt.EqAt.bool_none a
  |bl b=>cases rx;exact SeqAt.EqAt.bool_bool a b
  |int b=>obtain⟨t,rfl⟩:=rx;exact SeqAt.EqAt.bool_int a b t
  |str b=>obtain⟨t,rfl⟩:=rx;exact SeqAt.EqAt.bool_str a b t
  |_=>exact absurd (show false=true from fx) a8
 |int a=>
  obtain⟨t',rfl⟩:=ry;cases x with
  |non=>cases rx;exact SeqAt.EqAt.int_none a t'
  |bl b=>cases rx;exact SeqAt.EqAt.int_bool a t' b
  |int b=>obtain⟨t,rfl⟩:=rx;exact SeqAt.EqAt.int_int a t' b t
  |str b=>obtain⟨t,rfl⟩:=rx;exact SeqAt.EqAt.int_str a t' b t
  |_=>exact absurd (show false=true from fx) a8
 |str a=>
  obtain⟨t',rfl⟩:=ry;cases x with
  |non=>cases rx;exact SeqAt.EqAt.str_none a t'
  |bl b=>cases rx;exact SeqAt.EqAt.str_bool a t' b
  |int b=>obtain⟨t,rfl⟩:=rx;exact SeqAt.EqAt.str_int a t' b t
  |str b=>obtain⟨t,rfl⟩:=rx;exact SeqAt.EqAt.str_str a t' b t
  |_=>exact absurd (show false=true from fx) a8
 |_=>exact absurd (show false=true from fy) a8
noncomputable def jC(x:V)(u:Value):Bool:=match u with
 |.none=>mB .non x
 |.bool b=>mB (.bl b) x
 |.int i _=>mB (.int i) x
 |.str z _=>mB (.str z) x
 |_=>false
theorem D4{x y:V}{u:Value}(r:RelV y u)(f:kY y=true):jC x u=mB y x:=by
 cases y with
 |non=>cases r;rfl
 |bl b=>cases r;rfl
 |int i=>obtain⟨t,rfl⟩:=r;rfl
 |str z=>obtain⟨t,rfl⟩:=r;rfl
 |_=>exact absurd (show false=true from f) a8
theorem qr{x:V}:∀{xs:List V} {us:List Value},Vals xs us->xs.all kY=true->us.any (jC x)=xs.any λy=>mB y x
 |_,_,.nil,_=>rfl
 |y::xs,u::us,.cons r t,f=>by
  rw[List.all_cons,bE] at f;rw[bR,bR,D4 r f.1,qr t f.2]
theorem pQ{A:Around}{s:Shared}{x:V}{v:Value}(rx:RelV x v)(fx:kY x=true):∀{xs:List V} {us:List Value},Vals xs us->xs.all kY=true->∀u∈us,SeqAt.EqAt A s u v (jC x u)
 |_,_,.nil,_=>λu hu=>by cases hu
 |y::xs,u::us,.cons r t,f=>λu' hu=>by
  rw[List.all_cons,bE] at f;rcases aX.mp hu with rfl | hu
  ·rw[D4 r f.1];exact Kk r rx f.1 fx
  ·exact pQ rx fx t f.2 u' hu
noncomputable def kS(x:V)(xs:List V):Bool:=xs.any λy=>mB y x
def pf(K:FG)(neg:Bool):R2:=λx y H Q=>∃p xs,y=.ref p/\(SqL K H p xs∨SqT K H p xs)/\kY x=true/\xs.all kY=true/\Q (.bl (if neg then !kS x xs else kS x xs)) H
theorem QG:gH X (compareOp .In) (pf X.K false):=by
 intro pins s σ H x y v u Q I rx ry h;obtain⟨p,xs,rfl,hq,fx,fs,q⟩:=h;cases ry;rcases hq with hq | hq
 ·obtain⟨its,r,pl,hz⟩:=I.list hq;refine SeqAt.in_listAt (jC x) pl.isList (λw hw=>pQ rx fx r fs w (by simpa using hw)) ⟨.bl _,H,I,rfl,?_⟩;rw[show its.toArray.any (jC x)=its.any (jC x) by simp,qr r fs];exact q
 ·obtain⟨its,r,pl,hz⟩:=I.tuple hq;refine SeqAt.in_tupleAt (jC x) pl (λw hw=>pQ rx fx r fs w (by simpa using hw)) ⟨.bl _,H,I,rfl,?_⟩;rw[show its.toArray.any (jC x)=its.any (jC x) by simp,qr r fs];exact q
theorem VM:gH X (compareOp .NotIn) (pf X.K true):=by
 intro pins s σ H x y v u Q I rx ry h;obtain⟨p,xs,rfl,hq,fx,fs,q⟩:=h;cases ry;rcases hq with hq | hq
 ·obtain⟨its,r,pl,hz⟩:=I.list hq;refine SeqAt.notIn_listAt (jC x) pl.isList (λw hw=>pQ rx fx r fs w (by simpa using hw)) ⟨.bl _,H,I,rfl,?_⟩;rw[show its.toArray.any (jC x)=its.any (jC x) by simp,qr r fs];exact q
 ·obtain⟨its,r,pl,hz⟩:=I.tuple hq;refine SeqAt.notIn_tupleAt (jC x) pl (λw hw=>pQ rx fx r fs w (by simpa using hw)) ⟨.bl _,H,I,rfl,?_⟩;rw[show its.toArray.any (jC x)=its.any (jC x) by simp,qr r fs];exact q
theorem OH:kh X (.builtin "len") (λxs H Q=>∃p ys,xs=[.ref p]/\(SqL X.K H p ys∨SqT X.K H p ys)/\Q (.int ys.length) H):=by
 intro pins s σ H xs us Q I r h;obtain⟨p,ys,rfl,hq,q⟩:=h;obtain⟨u,rfl,rx⟩:=jk r;cases rx;have hn:=ou;rcases hq with hq | hq
 ·obtain⟨its,r',pl,hz⟩:=I.list hq;have hlen:=r'.length;exact Calls.call_len_list pl.isList (by simp only[bI]<;>omega) ⟨.int ys.length,H,I.tok _,⟨s.toks+1,by rw[bI,hlen]⟩,q⟩
 ·obtain⟨its,r',pl,hz⟩:=I.tuple hq;have hlen:=r'.length;exact len_tuple pl (by simp only[bI]<;>omega) ⟨.int ys.length,H,I.tok _,⟨s.toks+1,by rw[bI,hlen]⟩,q⟩
theorem RO:kh X (.builtin "len") (λxs H Q=>∃z,xs=[.str z]/\z.length<=sizeLine/\Q (.int z.length) H):=by
 intro pins s σ H xs us Q I r h;obtain⟨z,rfl,hz,q⟩:=h;obtain⟨u,rfl,t,rfl⟩:=jk r;have hn:=ou;exact len_str ⋯ ⟨.int z.length,H,I.tok _,⟨()⟩,q⟩
def vX(K:FG)(T:String)(x:V)(H:Hp):Prop:=match x with
 |.str _=>T="str"
 |.int _=>T="int"
 |.ref p=>(T="list"/\∃xs,SqL K H p xs)∨(T="tuple"/\∃o,K.lookup p=some o/\o.cls=.type "tuple"/\o.dict=none)∨
   (T="dict"/\((∃kvs,H p=some (.dK kvs))∨∃kvs,H p=some (.dT kvs)))∨(T="set"/\∃S n,H p=some (.set S n))
 |_=>False
theorem By{pins:List (Addr×Obj)}{σ:St}{H:Hp}{s:Shared}{T:String}{x:V}{v:Value}(I:Inv X pins σ H s)(r:RelV x v)(ty:vX X.K T x H):
  s.TypeIs v T/\∀a,v=.ref a->∃ob,s.heap.get? a=some ob/\ob.dict=none:=by
 cases x with
 |str z=>
  obtain⟨t,rfl⟩:=r;cases (show T="str" from ty);exact⟨typeIs_str s z t,λ_ e=>nomatch e⟩
 |int i=>
  obtain⟨t,rfl⟩:=r;cases (show T="int" from ty);exact⟨typeIs_int s i t,λ_ e=>nomatch e⟩
 |ref p=>
  cases r;rcases ty with ⟨rfl,xs,hq⟩ | ⟨rfl,o,hk,hc,hd⟩ | ⟨rfl,hk⟩ | ⟨rfl,S,n,hk⟩
  ·obtain⟨its,_,pl,_⟩:=I.list hq;refine⟨pl.isList.typeIs,λa e=>?_⟩;cases e;obtain⟨o,n,e,c,hd,_⟩:=pl;exact⟨o,e,hd⟩
  ·refine⟨⟨o,I.kIn p o hk,hc⟩,λa e=>?_⟩;cases e;exact⟨o,I.kIn _ o hk,hd⟩
  ·have z:∃o,s.heap.get? p=some o/\o.ExactDict:=by
    rcases hk with ⟨kvs,hk⟩ | ⟨kvs,hk⟩
    ·obtain⟨_,_,_,_,o,_,_,e,ex,_⟩:=I.hok p _ hk;exact⟨o,e,ex⟩
    ·obtain⟨_,_,_,_,o,_,_,e,ex,_⟩:=I.hok p _ hk;exact⟨o,e,ex⟩
   obtain⟨o,e,ex⟩:=z;refine⟨⟨o,e,ex.1⟩,λa e2=>?_⟩;cases e2;exact⟨o,e,ex.2.1⟩
  ·obtain⟨o,_,_,_,e,ex,_⟩:=I.hok p _ hk;refine⟨⟨o,e,ex.1⟩,λa e2=>?_⟩;cases e2;exact⟨o,e,ex.2.1⟩
 |_=>exact False.elim ty
def Ha(K:FG)(T:String)(r:V->List V->Hp->VK->Prop)(to:TE):TE:=λσ H Q=>to σ H λx H1=>vX K T x H1/\r x [] H1 Q
def oI(K:FG)(T:String)(r:V->List V->Hp->VK->Prop)(to:TE)(t:TA):TE:=λσ H Q=>to σ H λx H1=>vX K T x H1/\t σ H1 λxs H2=>r x xs H2 Q
variable{o e:Expr}{es:List Expr}{to:TE}{t:TA}{name:Str}{apos cpos:Pos}{T id:String}{r:V->List V->Hp->VK->Prop}
theorem Sq(pa:PlainAttrs T)(slot:Slot T name id)(hty:typeOf (.builtin id)=pure (.type "method_descriptor"))(hm:nR X id r)(ho:PE X o to)
  (hbase:attributeBase o name X.env (eval o X.env)=eval o X.env:=by rfl) (hline:(apos.endLine==cpos.line)=true:=by rfl):PE X (.Call (.Attribute o name apos) [] [] cpos) (Ha X.K T r to):=by
 intro pins s σ H Q I h;refine wpAny_Call_method0_late hbase hline (fU (ho pins s σ H _ I h) λv s1 ⟨x,H1,I1,r1,ty,q1⟩=>?_);obtain⟨h1,h2⟩:=By I1 r1 ty;exact⟨T,id,pa,slot,hty,h1,h2,Calls.callWith_builtin rfl (PySem.evalArgs_none (hm pins s1 σ H1 x [] v [] Q I1 r1 .nil q1))⟩
theorem pU(pa:PlainAttrs T)(slot:Slot T name id)(hty:typeOf (.builtin id)=pure (.type "method_descriptor"))(hm:nR X id r)(ho:PE X o to)(ha:PA X (e::es) t)
  (hbase:attributeBase o name X.env (eval o X.env)=eval o X.env:=by rfl)
  (hfew:((backTo cpos (starEach (e::es) X.env)).all (λx=> !x.1)&&(backToKw cpos (keywordEach [] X.env)).all (λx=>x.1.isSome)
   &&decide ((e::es).length+([]:List Keyword).length+(if ([]:List Keyword).isEmpty then 0 else 1)<30))=true:=by rfl)
  (hline:(apos.endLine==cpos.line)=true:=by rfl) (hs:starEach (e::es) X.env=(false,eval e X.env)::starEach es X.env:=by rfl) (hplain:(backTo cpos (starEach es X.env)).any (·.1)=false:=by rfl):
  PE X (.Call (.Attribute o name apos) (e::es) [] cpos) (oI X.K T r to t):=by
 intro pins s σ H Q I h;refine wpAny_Call_method_late hbase hfew hline rfl (fU (ho pins s σ H _ I h) λv s1 ⟨x,H1,I1,r1,ty,q1⟩=>?_);obtain⟨h1,h2⟩:=By I1 r1 ty;refine⟨T,id,pa,slot,hty,h1,h2,?_⟩;have hA:=ha cpos pins s1 σ H1 _ I1 q1;rw[hs] at hA ⊢;refine Calls.callWith_builtin (by show (false||(backTo cpos (starEach es X.env)).any (·.1))=false;rw[hplain]<;>rfl) (Calls.evalArgs_plain ?_)
 exact fU hA λus s2 ⟨vs,H2,I2,r2,q2⟩=>hm pins s2 σ H2 x vs v us Q I2 r1 r2 q2
end
def Yl(X:Cx)(id:String)(r:V->List V->Hp->VK->Prop):Prop:=
 ∀(pins:List (Addr×Obj)) (s:Shared) (σ:St) (H:Hp) (x:V) (xs:List V) (v:Value) (us:List Value) (Q:VK),Inv X pins σ H s->RelV x v->Vals xs us->r x xs H Q->
  wpAny (model X.prog X.w) X.A (call (.builtin id) (v::us)) (EP X pins σ Q) X.xe s
theorem Vals.one:∀{x:V} {us:List Value},Vals [x] us->∃u,us=[u]/\RelV x u
 |_,_,.cons r .nil=>⟨(),r⟩
theorem Vals.rep{xs:List V}{us:List Value}(h:Vals xs us):∀k:Nat,Vals (List.replicate k xs).flatten (List.replicate k us).flatten
 |0=>.nil
 |k+1=>by
  rw[dZ,dZ,dI,dI];exact Vals.append h (Vals.rep h k)
theorem Fg(its:List Value):∀(k:Nat) (acc:List Value),
  List.foldl (λx1 x2=>x1++x2) acc.toArray (List.replicate k its.toArray)=(acc++(List.replicate k its).flatten).toArray
 |0,acc=>by simp
 |k+1,acc=>by
  have e:acc.toArray++its.toArray=(acc++its).toArray:=by simp
  have e2:(acc++its)++(List.replicate k its).flatten=acc++(List.replicate (k+1) its).flatten:=by
   rw[dZ,dI,d7]
  rw[←e2,←Fg its k (acc++its),←e,dZ,List.foldl_cons]
section
variable{X:Cx}{pins:List (Addr×Obj)}{σ:St}{H:Hp}{s:Shared}{l b:Addr}{xs ys zs:List V}
theorem Inv.lset{its its':List Value}{n:Nat}{f:Array Value->Array Value}{t':Nat}(I:Inv X pins σ H s)(hH:H l=some (.lst xs))
  (e:s.heap.get? l=some {cls:=.type "list",data:=.seq its.toArray n}) (hf:f its.toArray=its'.toArray) (hv:Vals ys its') (hz:ys.length<=sizeLine):
  Inv X pins σ (upd H l (.lst ys)) {s with heap:=s.heap.update l (Obj.mapSeq f),toks:=t'}:=by
 have q:=PySem.IsL.update e f;rw[hf] at q;refine I.write (x:=l) (e:=l) (by rw[hH];exact trivial) (.inl rfl) (λb' u hb hu=>(cE s.heap (Obj.mapSeq f) (Ne.symm hb)).trans hu) ⟨_,q⟩ ?_;exact⟨hz,its',_,hv,q⟩
theorem Inv.lnew{its:List Value}{t':Nat}(I:Inv X pins σ H s)(hv:Vals ys its)(hz:ys.length<=sizeLine):
  Inv X pins σ (upd H s.heap.objs.size (.lst ys)) {s with heap:=s.heap.push {cls:=.type "list",data:=.seq its.toArray},toks:=t'}:=
 I.laid (λ_ _ q=>aU _ q) (aQ _) ⟨hz,its,0,hv,a9 _ rfl⟩
theorem Inv.fresh(I:Inv X pins σ H s):H s.heap.objs.size=none:=I.hok.fresh (aQ _)
theorem Inv.lstM(I:Inv X pins σ H s)(hH:H l=some (.lst xs)):xs.length<=sizeLine/\∃(its:List Value) (n:Nat),Vals xs its/\xs.length=its.length/\s.heap.get? l=some {cls:=.type "list",data:=.seq its.toArray n}:=by
 obtain⟨z,its,n,r,e⟩:=I.hok l _ hH;exact⟨z,its,n,r,r.length,e⟩
theorem JL{n:Nat}(h:n<=sizeLine):Builtin.List.listTooLong n=false:=by
 unfold Builtin.List.listTooLong;exact fB ⋯
end
section
variable{X:Cx}
def Dj:V->List V->Hp->VK->Prop:=λx vs H Q=>∃l xs y,x=.ref l/\vs=[y]/\H l=some (.lst xs)/\xs.length<sizeLine/\Q .non (upd H l (.lst (xs++[y])))
theorem C1:Yl X "list.append" Dj:=by
 intro pins s σ H x vs v us Q I rx rv h;obtain⟨l,xs,y,rfl,rfl,hH,hz,q⟩:=h;cases rx;obtain⟨u,rfl,ru⟩:=rv.one;obtain⟨z,its,n,r,hl,e⟩:=I.lstM hH;refine call_meets F.slot_list_append ⟨_,e,rfl⟩ F.entry_list_append (F.args_list_append_2 _ _) (PySem.list_append l its.toArray n u (by rw[bI];omega)) ⟨e,?_⟩;refine⟨.non,_,I.lset (its':=its++[u]) hH e (by simp) (r.append (.cons ru .nil)) ?_,rfl,q⟩;rw[aY,bX];omega
def EI:R2:=λx y H Q=>∃l b xs zs,x=.ref l/\y=.ref b/\H l=some (.lst xs)/\H b=some (.lst zs)/\xs.length+zs.length<=sizeLine/\∀p,H p=none->Q (.ref p) (upd H p (.lst (xs++zs)))
theorem Qg:gH X (binaryOp .Add) EI:=by
 intro pins s σ H x y v u Q I rx ry h;obtain⟨l,b,xs,zs,rfl,rfl,hH,hB,hz,q⟩:=h;cases rx;cases ry;obtain⟨z,its,n,r,hl,e⟩:=I.lstM hH;obtain⟨z2,its2,n2,r2,hl2,e2⟩:=I.lstM hB;refine PySem.P.add_list e e2 ?_ (by rw[bI,bI];omega);have ea:its.toArray++its2.toArray=(its++its2).toArray:=by simp
 rw[ea];exact⟨.ref _,_,I.lnew (t':=s.toks) (r.append r2) (by rw[aY];omega),rfl,q _ I.fresh⟩
def B7:R2:=λx y H Q=>∃l k xs,x=.ref l/\y=.int k/\H l=some (.lst xs)/\ -(2^63)<=k/\k<2^63/\xs.length*k.toNat<=sizeLine/\
 ∀p,H p=none->Q (.ref p) (upd H p (.lst (List.replicate k.toNat xs).flatten))
theorem K9{α:Type}(xs:List α)(k:Nat):(List.replicate k xs).flatten.length=k*xs.length:=by
 induction k with
 |zero=>simp
 |succ k ih=>rw[dZ,dI,aY,ih,Nat.succ_mul,Nat.add_comm]
theorem Yh:gH X (binaryOp .Mult) B7:=by
 intro pins s σ H x y v u Q I rx ry h;obtain⟨l,k,xs,rfl,rfl,hH,h1,h2,hz,q⟩:=h;cases rx;obtain⟨t,rfl⟩:=ry;obtain⟨z,its,n,r,hl,e⟩:=I.lstM hH;have hlen:its.toArray.size*k.toNat<=sizeLine:=by rw[bI,←hl];exact hz
 have hcap:¬its.toArray.size*k.toNat>(2^63-1) / 8:=by
  have:(sizeLine:Nat)<=(2^63-1) / 8:=by decide
  omega
 have hfit:¬(!Builtin.List.listFitsIndex k)=true:=by
  rw[fitsIndex_both h1 h2];exact a8
 have hlong:¬Builtin.List.listTooLong (its.toArray.size*k.toNat)=true:=by
  rw[JL hlen];exact a8
 have hnew:List.foldl (λx1 x2=>x1++x2) #[] (List.replicate (if its.toArray.isEmpty=true then 0 else k.toNat) its.toArray)=(List.replicate k.toNat its).flatten.toArray:=by
  have f0:∀m:Nat,List.foldl (λx1 x2=>x1++x2) #[] (List.replicate m its.toArray)=(List.replicate m its).flatten.toArray:=λm=>by
   have:=Fg its m [];rw[List.nil_append] at this;exact this
  rw[f0];cases its with
  |nil=>simp
  |cons a r'=>rw[if_neg (by simp)]
 refine wpAny_binaryOp_repeat_ref (T:="list") (U:="int") (by decide) ⟨_,e,rfl⟩ (λs'=>typeIs_int s' k t) noFill_list_mul F.fills_int_mul F.slot_int_rmul repeat_list F.slot_int_index.lookup
  (call_meets F.slot_int_rmul (typeIs_int s k t) F.entry_int_rmul (F.args_int_rmul_2 _ _) (int___rmul___int_list k t l its.toArray n)
   ⟨e,rfl,⟨_,e,rfl⟩,call_meets F.slot_list_mul ⟨_,e,rfl⟩ F.entry_list_mul (F.args_list_mul_2 _ _) (AutoListH.list___mul___list_int_3 l its.toArray n k t hfit hcap hlong) ⟨e,?_⟩⟩)
 rw[hnew];exact⟨.ref _,_,I.lnew (t':=s.toks) (r.rep k.toNat) (by rw[K9,Nat.mul_comm];exact hz),rfl,q _ I.fresh⟩
variable{prog:Program}{w:World}{A:Around}{E:Value->Shared->Prop}{s:Shared}
end
end L2
namespace Att
open PySem PySem.W PySem.Calls PyProof.Rows
theorem VY{P:Params}{h:Heap}:∀(ns:List Int) (vs:List Value),WellAll P h vs (ns.map WData.int)->IntsAre vs ns:=by
 intro ns;induction ns with
 |nil=>
  intro vs w;rw[List.map_nil] at w;cases w;exact .nil
 |cons n ns ih=>
  intro vs w;rw[List.map_cons] at w;cases w with
  |cons a b=>
   cases a;exact .cons _ _ (ih _ b)
theorem MQ{l:OpenLaw}{n:Nat}(hn:l.most=some n){P:Params}{h:Heap}{args:List WData}{vals:List Value}
  (hpre:l.row.toRowW.claim.pre args=true) (hwl:WellAll P h vals args):
  ∃a vs ns,vals=[Value.ref a]/\args=[WData.list (ns.map WData.int)]/\h.get? a=some {cls:=.type "list",data:=.seq vs.toArray}/\IntsAre vs ns/\ns.length<=n:=by
 have hsh:WShape.hasAll [] args [.list .int]=true:=(pre_splitW hpre).1;have hc:l.pre.holds [] {args:=args}=true:=(pre_splitW hpre).2;obtain⟨d,r,rfl,h1,h2⟩:=hasAllW_cons hsh;obtain rfl:=hasAllW_nil h2;obtain⟨xs,rfl,h3⟩:=hasW_list h1;obtain⟨ns,rfl⟩:=items_int h3;have hlen:ns.length<=n:=by
  unfold OpenLaw.pre at hc;have h4:(WTm.not (.lt (.lit (.int (n:Int))) (.len (.arg 0)))).holds [] {args:=[.list (ns.map .int)]}=true:=by
   have h4:=(holds_andW hc).1;rw[hn] at h4;exact h4
  have h5:=condW_of h4 (w_not (w_lt w_lit (w_len_list (w_arg rfl))));rw[List.length_map] at h5;refine Nat.le_of_not_lt λq=>?_;have q':(n:Int)<((ns.length:Nat):Int):=⋯
  first
   |(rw[decide_eq_true q'] at h5;exact absurd h5 (by decide))
   |(simp at h5;omega)
 cases hwl with
 |cons w1 w2=>
  cases w2;cases w1 with
  |list ho hall=>exact⟨_,_,ns,rfl,rfl,ho,VY ns _ hall,hlen⟩
theorem Xk(l:OpenLaw)(args:List WData):l.row.toRowW.claim.post args (.bool true) args=true:=
 postW_of (r:=l.row.toRowW) (X:=(true==true))
  (show WShape.has [] (.bool true) .bool=true by first | rfl | decide | simp[WShape.has,WShape.arms,WShape.armsAll])
  (show (WTm.eq .res (.lit (.bool true))).value [] {args:=args,res:=some (.bool true),after:=args}=some (.bool (true==true)) from w_eq_bool (w_res rfl) w_lit) rfl
theorem attach_call{l:OpenLaw}{n:Nat}{q:Program}{loose:List Str}{XP:(Str->Option Value)->Heap->Prop}{YP:World->Heap->Prop}{d:DefRec}
  (hn:l.most=some n) (hdf:d.params.defaults=[])
  (call:∀(w:World) (s₀ s₁:Shared) (mg mb:Str->Option Value) (fa:Addr) (o:Obj) (pm cd doc:Value) (a:Addr) (vs:List Value) (ns:List Int),
   Ground q loose [] XP w s₀ mg mb s₁.heap->YP w s₁.heap->
   s₁.heap.get? fa=some o->o.data=.func (docDef d.name d.params d.body d.scope pm cd doc)->s₁.heap.CodeRec cd d.name->mg d.name=some (.ref fa)->
   s₁.heap.get? a=some {cls:=.type "list",data:=.seq vs.toArray}->IntsAre vs ns->ns.length<=n->s₁.gens= #[]->
   codeAny (model l.prog w) callerA (.call (.ref fa) ⟨[.ref a],[]⟩) (λr s'=>r=.ok (.ret (.bool true))/\OldK s₁.heap s'.heap/\s'.os=s₁.os/\AllBare s'.gens) s₁):
  WalkO q loose XP YP l.row.toRowW d [] (λf vs=>PySem.call f vs):=by
 intro w s₀ s₁ mg mb G Y fa o pm cd doc dV kV ho hd hcd hD hmg hg args vals as hpre hlay hrd hwl hlo;obtain rfl:dV=.none:=Dflts.none hD hdf;obtain rfl:kV=.none:=Dflts.noKw hD;obtain⟨a,vs,ns,rfl,rfl,hobj,hints,hlen⟩:=MQ hn hpre hwl;refine enter_call (codeAny_mono (call w s₀ s₁ mg mb fa o pm cd doc a vs ns G Y ho (fd_plain hd) hcd hmg hobj hints hlen hg) λr s' hq=>?_);obtain⟨rfl,h2,h3,h4⟩:=hq;exact⟨.inl ⟨.bool true,.bool true,[],rfl,λ_=>rfl,.bool true,Xk l _,λ_=>⟨List.Pairwise.nil,λ_ hm=>(nomatch hm)⟩⟩,h2,h3,h4⟩
section
variable{prog:Program}{w:World}{A:Around}{E:Value->Shared->Prop}{s:Shared}{K:Frag}
end
end Att
namespace L2
open PySem PySem.Spec PyProof.Rows
theorem zh:∀{vs:List Value} {ns:List Int},IntsAre vs ns->Vals (ns.map V.int) vs
 |_,_,.nil=>.nil
 |_,_,.cons n t h=>.cons ⟨t,rfl⟩ (zh h)
noncomputable def jf(s:Stmt)(j:Nat):Stmt:=match s with
 |.ClassDef _ _ _ body _ _ _ _ _ _ _=>body.getD j (.Pass ⟨0,0,0,0⟩)
 |_=>.Pass ⟨0,0,0,0⟩
noncomputable def ji(s:Stmt):Arguments:=match s with
 |.FunctionDef _ a _ _ _ _ _ _ _ _=>a
 |_=>{posonlyargs:=[],args:=[],vararg:=none,kwonlyargs:=[],kw_defaults:=[],kwarg:=none,defaults:=[]}
noncomputable def iM(s:Stmt):List Stmt:=match s with
 |.FunctionDef _ _ b _ _ _ _ _ _ _=>b
 |_=>[]
noncomputable def ft(s:Stmt):Scope:=match s with
 |.FunctionDef _ _ _ _ _ _ sc _ _ _=>sc
 |_=>{kind:=.function,names:=[],isGenerator:=false,isCoroutine:=false}
abbrev jj:mf:=λ_ _ _ _ _ _=>False
abbrev E0:XK:=λ_ _ _=>False
theorem pP{X:Cx}:nC jj X E0:=λ_ _ _ _ _ _ _ h=>h.elim
structure Fun(K:FG)(x qual:Str)(st:Stmt)(f:Addr)(fd:FuncData):Prop where
 ex:∃(oc:Value) (od:Option Addr) (kV doc pm:Value) (an:Option Addr) (cdv ct:Value) (osl:Array (Option Value)),
  fd=PySem.W.fnOf x qual (ji st) (iM st) (ft st) .none kV doc pm an cdv ct/\K.lookup f=some ⟨oc,od,.func fd,osl⟩/\PySem.W.codeIn K cdv qual=true
 kp:PySem.W.keepIn K (.ref f)=true
section
variable{P:Program}{w:World}{K:FG}{mg:Str->Option Value}{base:Heap}
theorem Fun.ok{x qual:Str}{st:Stmt}{f:Addr}{fd:FuncData}{N ps:List Str}{k:Nat}{sp:Sp}(F:Fun K x qual st f fd)(S:fb N ps (ft st))(len:∀vs H Q E,sp vs H Q E->vs.length=ps.length)
  (hbody:∀(cdv:Value) (A:Around) (outer:List Env) (s:Shared) (H:Hp) (vs:List V) (Q:VK) (E:XK),Room k (A.deeper (envOfC qual (ft st) s.heap.objs.size f cdv))->sp vs H Q E->
   ∃t,PSs (mL jj P w K mg base N qual (ft st) f cdv A outer s H E).nox (iM st) t/\t {nx:=λ_ H'=>Q .non H',rt:=Q} (start N vs) H):gD P w K mg base jj (k+1) f fd ps sp:=by
 obtain⟨oc,od,kV,doc,pm,an,cdv,ct,osl,rfl,lk,hcd⟩:=F.ex;refine uP lk hcd S len λA outer s H vs Q E hr hsp=>?_;obtain⟨t,h,q⟩:=hbody cdv A outer s H vs Q E hr hsp;exact⟨t,h.nox,q⟩
theorem Fun.binds{x qual:Str}{st:Stmt}{f:Addr}{fd:FuncData}{ps:List Str}(F:Fun K x qual st f fd)
  (h:∀(kV doc pm:Value) (an:Option Addr) (cdv ct:Value) (us:List Value),us.length=ps.length->bindArgs (PySem.W.fnOf x qual (ji st) (iM st) (ft st) .none kV doc pm an cdv ct) ⟨us,[]⟩=pure (ps.zip us)):Binds K fd ps []:=by
 obtain⟨oc,od,kV,doc,pm,an,cdv,ct,osl,rfl,lk,hcd⟩:=F.ex;exact .all (h kV doc pm an cdv ct)
theorem rG{x qual:Str}{st:Stmt}{f:Addr}{oc:Value}{od an:Option Addr}{osl:Array (Option Value)}{kV doc pm cdv ct:Value}(l:K.lookup f=some ⟨oc,od,.func (PySem.W.fnOf x qual (ji st) (iM st) (ft st) .none kV doc pm an cdv ct),osl⟩)
  (c:PySem.W.codeIn K cdv qual=true) (k:PySem.W.keepIn K (.ref f)=true):Fun K x qual st f (PySem.W.fnOf x qual (ji st) (iM st) (ft st) .none kV doc pm an cdv ct):=⟨⟨oc,od,kV,doc,pm,an,cdv,ct,osl,rfl,l,c⟩,k⟩
variable{X:Cx}
end
theorem gf{A B:Prop}(h:B):if false=true then A else B:=by
 rw[if_neg a8];exact h
theorem gk{A B:Prop}(h:A):if true=true then A else B:=by
 rw[if_pos rfl];exact h
theorem ye{c A B:Prop}[Decidable c](h1:c->A)(h2:¬c->B):if c then A else B:=by
 by_cases h:c
 ·rw[if_pos h];exact h1 h
 ·rw[if_neg h];exact h2 h
def Same(H H':Hp):Prop:=∀b o,H b=some o->H' b=some o
theorem Same.refl(H:Hp):Same H H:=λ_ _ h=>h
theorem Same.trans{H H1 H2:Hp}(a:Same H H1)(b:Same H1 H2):Same H H2:=λc o h=>b c o (a c o h)
theorem Same.free{H H':Hp}(e:Same H H'){l:Addr}(h:H' l=Option.none):H l=Option.none:=by
 cases q:H l with
 |none=>rfl
 |some o=>
  rw[e l o q] at h;cases h
theorem Same.seq{K:FG}{H H':Hp}{a:Addr}{xs:List V}(e:Same H H')(h:SqL K H a xs):SqL K H' a xs:=by
 rcases h with (h | ⟨o,h⟩) | h
 ·exact .inl (.inl (e _ _ h))
 ·exact .inl (.inr ⟨o,e _ _ h⟩)
 ·exact .inr h
section
variable{X:Cx}
theorem XJ:kh X (.builtin "isinstance") (λxs H Q=>∃i:Int,xs=[.int i,.ty "int"]/\Q (.bl true) H):=by
 intro pins s σ H xs us Q I r h;obtain⟨i,rfl,q⟩:=h;obtain⟨u,w',rfl,⟨t,rfl⟩,r2⟩:=ox r;cases r2;exact PySem.IsiPair.int_int ⟨.bl true,H,I,rfl,q⟩
theorem L6:kh X (.builtin "isinstance") (λxs H Q=>∃i:Int,xs=[.int i,.ty "bool"]/\Q (.bl false) H):=by
 intro pins s σ H xs us Q I r h;obtain⟨i,rfl,q⟩:=h;obtain⟨u,w',rfl,⟨t,rfl⟩,r2⟩:=ox r;cases r2;exact PySem.IsiPair.int_bool ⟨.bl false,H,I.tok _,rfl,q⟩
end
structure Df(P:Program)(w:World)(K:FG)(mg:Str->Option Value)(base:Heap)(x:Str)(k:Nat)(ps:List Str)(sp:Sp):Prop where
 ex:∃(f:Addr) (fd:FuncData),gD P w K mg base jj k f fd ps sp/\Binds K fd ps []/\mg x=some (.ref f)/\PySem.W.keepIn K (.ref f)=true
structure Fn(K:FG)(mg:Str->Option Value)(x:Str)(st:Stmt)(ps:List Str):Prop where
 ex:∃(f:Addr) (fd:FuncData),Fun K x x st f fd/\Binds K fd ps []/\mg x=some (.ref f)
section
variable{P:Program}{w:World}{K:FG}{mg:Str->Option Value}{base:Heap}{x:Str}{st:Stmt}{ps N:List Str}{k:Nat}{sp:Sp}
theorem Fn.df(F:Fn K mg x st ps)(S:fb N ps (ft st))(len:∀vs H Q E,sp vs H Q E->vs.length=ps.length)
  (hbody:∀(f:Addr) (cdv:Value) (A:Around) (outer:List Env) (s:Shared) (H:Hp) (vs:List V) (Q:VK) (E:XK),Room k (A.deeper (envOfC x (ft st) s.heap.objs.size f cdv))->sp vs H Q E->
   ∃t,PSs (mL jj P w K mg base N x (ft st) f cdv A outer s H E).nox (iM st) t/\t {nx:=λ_ H'=>Q .non H',rt:=Q} (start N vs) H):Df P w K mg base x (k+1) ps sp:=by
 obtain⟨f,fd,F1,hb,hm⟩:=F.ex;exact⟨⟨f,fd,F1.ok S len (hbody f),hb,hm,F1.kp⟩⟩
theorem fX{h:Heap}{f:Addr}{oc:Value}{od an:Option Addr}{osl:Array (Option Value)}{kV doc pm cdv ct:Value}(X:K.In h)(G:h.Ns mainGlobals mg)
  (a:PySem.W.nsIn K mainGlobals x=some (some (.ref f))) (l:K.lookup f=some ⟨oc,od,.func (PySem.W.fnOf x x (ji st) (iM st) (ft st) .none kV doc pm an cdv ct),osl⟩)
  (c:PySem.W.codeIn K cdv x=true) (k:PySem.W.keepIn K (.ref f)=true)
  (hb:∀(kV doc pm:Value) (an:Option Addr) (cdv ct:Value) (us:List Value),us.length=ps.length->bindArgs (PySem.W.fnOf x x (ji st) (iM st) (ft st) .none kV doc pm an cdv ct) ⟨us,[]⟩=pure (ps.zip us)):Fn K mg x st ps:=by
 have F:=rG (st:=st) l c k;exact⟨⟨f,_,F,F.binds (ps:=ps) hb,PySem.W.mg_of X G a⟩⟩
end
section
variable{X:Cx}
theorem aBG{x:Str}{k k':Nat}{ps:List Str}{sp:Sp}{e:Expr}{es:List Expr}{t:TA}{p pos:Pos}(D:Df X.prog X.w X.K X.mg X.base x k ps sp)(hr:Room k' X.A)(ha:PA X (e::es) t)(hk:k<=k':=by decide)(hg:Gl X x:=by rfl)
  (hdb:(x==("__debug__":Str))=false:=by decide) (he:starEach (e::es) X.env=(false,eval e X.env)::starEach es X.env:=by rfl) (hpl:(backTo pos (starEach es X.env)).any (·.1)=false:=by rfl):
  PE X (.Call (.Name x p) (e::es) [] pos) (tq sp [] E0 t):=by
 obtain⟨f,fd,F,hb,hm,kp⟩:=D.ex;exact Xo F (hr.mono hk) hg hm kp hb .nil pP ha hdb he hpl
end
theorem fj{H:Hp}{p:Addr}(h:H p=none)(o:HO):Same H (upd H p o):=λb u q=>by rw[fH (gU q h)];exact q
theorem int_eq{a b:Int}:(V.int a=V.int b)↔a=b:=⟨λh=>V.int.inj h,λh=>by rw[h]⟩
theorem gp{a b:Int}{A B:Prop}(h1:a=b->A)(h2:¬a=b->B):if decide (V.int a=V.int b)=true then A else B:=
 ye (λc=>h1 (int_eq.mp (eX c))) (λc=>h2 λe=>c (eY (int_eq.mpr e)))
theorem ol{a b:Int}{A B:Prop}(h1:¬a=b->A)(h2:a=b->B):if (!decide (V.int a=V.int b))=true then A else B:=by
 by_cases e:a=b
 ·rw[eY (int_eq.mpr e)];exact gf (h2 e)
 ·rw[fB λq=>e (int_eq.mp q)];exact gk (h1 e)
theorem gn{c:Prop}[Decidable c]{A B:Prop}(h1:c->A)(h2:¬c->B):if decide c=true then A else B:=
 ye (λq=>h1 (eX q)) (λq=>h2 λe=>q (eY e))
theorem Aj{a b:Int}{A B:Prop}(e:a=b)(h:B):if (!decide (V.int a=V.int b))=true then A else B:=by
 rw[eY (int_eq.mpr e)];exact gf h
noncomputable def qo:Expr->Option Int
 |.Constant (.int i) _ _=>some i
 |_=>none
def Ek(is:List Int):TA:=λ_ H Q=>Q (is.map V.int) H
theorem BC{X:Cx}:∀{es:List Expr} (is:List Int),es.map qo=is.map some->PA X es (Ek is)
 |[],[],_=>mO
 |[],_::_,h=>by cases h
 |_::_,[],h=>by cases h
 |e::es,i::is,h=>by
  have h1:qo e=some i:=(List.cons.inj h).1;have h2:es.map qo=is.map some:=(List.cons.inj h).2;obtain⟨j,pos,rfl⟩:∃j pos,e=.Constant (.int i) j pos:=by
   unfold qo at h1;split at h1
   ·cases h1;exact⟨_,()⟩
   ·cases h1
  exact mN GO (BC is h2)
structure jF(X:Cx)(scope:Scope)(cl:List (Str×Addr)):Prop where
 is:closureFor scope X.env=pure cl
 sub:∀y c,cl.lookup y=some c->X.env.cells.lookup y=some c
 has:∀y,scope.names.lookup y=some .free->∃c,cl.lookup y=some c
 nocell:∀y∈scope.names,y.2≠ .cell
 kind:scope.kind=.function
 names:∀y∈scope.names,y.2=.local->scope.names.lookup y.1=some .local
noncomputable def iu(X:Cx)(N:List Str)(scope:Scope)(cl:List (Str×Addr))(C:Addr)(ex:List Addr)(pins:List (Addr×Obj))(s:Shared)(H:Hp):Cx:=
 {X with N:=N,s₀:=s,H₀:=H,env:=compEnvC scope cl C X.env,outer:=X.stack,stack:=X.stack,ex:=ex,fn:=λ_=>false,pn:=X.pn++pins,xe:=λ_ _=>False}
noncomputable def iN(js:List Nat)(σ:St):St:=js.map λj=>(σ[j]?).getD none
noncomputable def GN(ifs:List Expr)(env:Env):Sem Bool:=
 forIn ifs true λc r=>if r=true then (do let ok ←isTrue c env (eval c env);pure (ForInStep.yield ok)) else pure (ForInStep.yield r)
def PF(X:Cx)(ifs:List Expr)(t:TT):Prop:=
 ∀(pins:List (Addr×Obj)) (s:Shared) (σ:St) (H:Hp) (Q:Bool->Hp->Prop),Inv X pins σ H s->t σ H Q->
  wpAny (model X.prog X.w) X.A (GN ifs X.env) (TP X pins σ Q) X.xe s
def Em:TT:=λ_ H Q=>Q true H
theorem Le{X:Cx}:PF X [] Em:=λ_ _ _ H _ I h=>wpAny_tests_nil ⟨H,I,h⟩
theorem Jf{X:Cx}{c:Expr}{t:TT}(h:PT X c t):PF X [c] t:=λpins s σ H Q I q=>wpAny_tests_one (h pins s σ H Q I q)
def pR(J:It)(js:List Nat)(σ:St)(tt:TT)(te:TE)(Q:VK)(H1:Hp):Prop:=∀D,H1 D=none->∃W:Nat->Nat->Hp->Prop,(∃m,W 0 m (upd H1 D (.lst [])))/\∀i m H2,W i m H2->
 (J.stop i H2/\Q (.ref D) H2)∨(J.go i H2/\∀v H3,J.yld i H2 v H3->tt (some v::iN js σ) H3 λb H4=>if b=true then
  te (some v::iN js σ) H4 λy H5=>∃ys,H5 D=some (.lst ys)/\ys.length<sizeLine/\∃m',m'<m/\W (i+1) m' (upd H5 D (.lst (ys++[y])))
  else ∃m',m'<m/\W (i+1) m' H4)
def Dv(wi:TI)(js:List Nat)(tt:TT)(te:TE):TE:=λσ H Q=>wi σ H λJ H1=>pR J js σ tt te Q H1
noncomputable def my(env:Env)(n:Str)(k:NameKind):NameKind:=if (k==NameKind.free&&env.scope.kind== .function&&env.kindOf n==some .cell) then .cell else k
theorem M9{env:Env}{n:Str}{k:NameKind}:(if (k==NameKind.free&&env.scope.kind== .function&&env.kindOf n==some .cell) then (n,NameKind.cell) else (n,k))=(n,my env n k):=by
 unfold my;split<;>rfl
theorem GS{env:Env}:∀(names:List (Str×NameKind)) (x:Str),(relabel {kind:=.function,names:=names,isGenerator:=false,isCoroutine:=false} env).names.lookup x=(names.lookup x).map (my env x)
 |[],_=>rfl
 |(n,k)::r,x=>by
  have ih:=GS (env:=env) r x;unfold relabel at ih ⊢;dsimp only at ih ⊢;rw[bH];dsimp only;rw[M9,dR,dR,ih];cases hx:x==n with
  |true=>
   have e:x=n:=by simpa using hx
   rw[e];rfl
  |false=>rfl
theorem yv{env:Env}(scope:Scope)(x:Str):(relabel scope env).names.lookup x=(scope.names.lookup x).map (my env x):=GS scope.names x
theorem Qj{env:Env}{x:Str}{o:Option NameKind}(hc:o≠some .cell)(h:o.map (my env x)=some .cell∨o.map (my env x)=some .free):o=some .free:=by
 cases o with
 |none=>rcases h with h | h<;>cases h
 |some k=>
  by_cases e:k=.free
  ·rw[e]
  ·have z:my env x k=k:=by
    unfold my;have e':(k==NameKind.free)=false:=by simpa using e
    rw[e'];rfl
   rw[dU,z] at h;rcases h with h | h
   ·exact absurd h hc
   ·exact h
theorem OP{env:Env}{scope:Scope}{x:Str}(h:scope.names.lookup x=some .free):(relabel scope env).names.lookup x=some .cell∨(relabel scope env).names.lookup x=some .free:=by
 rw[yv,h,dU];unfold my;split
 ·exact .inl rfl
 ·exact .inr rfl
section
variable{X:Cx}{elt iter:Expr}{x:Str}{px pos:Pos}{ifs:List Expr}{scope:Scope}{cl:List (Str×Addr)}{N':List Str}{js:List Nat}{tt:TT}{te:TE}
end
theorem Mz{prog:Program}{w:World}{A:Around}{R:Result->Shared->Prop}{s:Shared}{elt tg iter:Expr}{ifs:List Expr}{scope:Scope}{pos:Pos}{it acc:Value}{env:Env}{EN:Value->Shared->Prop}
  (hEN:EN=notedBy (model prog w) A env λe s'=>R (.error e) s') (B:Nat->Shared->Prop)
  (turn:∀n s,B n s->wpAny (model prog w) A (pyNext it) (λr s₁=>match r with
   |none=>R (.ok .next) s₁
   |some v=>wpAny (model prog w) A (letOwnedTupleGo tg it v) (λ_ s₂=>wpAny (model prog w) A (assign tg env v) (λ_ s₃=>
     wpAny (model prog w) A (GN ifs env) (λok s₄=>
      if ok=true then wpAny (model prog w) A (eval elt env) (λz s₅=>wpAny (model prog w) A (call (.builtin "list.append") [acc,z]) (λ_ s₆=>∃m,m<n/\B m s₆) EN s₅) EN s₄
      else ∃m,m<n/\B m s₄) EN s₃) EN s₂) EN s₁) EN s) (n:Nat) (h:B n s):
  codeAny (model prog w) A (.compLoop (.ListComp elt [⟨tg,iter,ifs,0⟩] scope pos) 0 it acc env) R s:=by
 subst hEN;refine codeAny_loop rfl B (λn s hI=>?_) n h;refine wpAny_noted (m:=compTurn (.ListComp elt [⟨tg,iter,ifs,0⟩] scope pos) 0 it acc env) ?_;rw[compTurn_list];refine eO (wpAny_standAt (eO (eP (turn n s hI) (λr s₁ h₁=>?_) λ_ _ z=>z)));cases r with
 |none=>exact fE h₁
 |some v=>
  refine eO (eP h₁ (λ_ s₂ h₂=>?_) λ_ _ z=>z);refine eO (eP h₂ (λ_ s₃ h₃=>?_) λ_ _ z=>z);refine eO (eP h₃ (λok s₄ h₄=>?_) λ_ _ z=>z);cases ok with
  |false=>exact fE ⟨rfl,h₄⟩
  |true=>
   refine eO (eO (eP h₄ (λz s₅ h₅=>?_) λ_ _ q=>q));exact eO (eP h₅ (λ_ s₆ h₆=>fE (fE ⟨rfl,h₆⟩)) λ_ _ q=>q)
section
variable{X:Cx}{elt iter:Expr}{x:Str}{px pos:Pos}{ifs:List Expr}{scope:Scope}{cl:List (Str×Addr)}{N':List Str}{js:List Nat}{tt:TT}{te:TE}
end
theorem xt(env:Env):∀(names:List (Str×NameKind)) (acc:List (Str×Addr)),names.all (λy=>y.2 != .free||(env.cells.lookup y.1).isSome)=true->
  ∃cl:List (Str×Addr),(forIn (m:=Sem) names acc λx r=>(do
   let (name,kind):=x
   if kind== .free then do let c ←cellOf env name;pure (ForInStep.yield ((name,c)::r)) else pure (ForInStep.yield r)))=(pure cl:Sem _)/\
   (∀y c,cl.lookup y=some c->env.cells.lookup y=some c∨acc.lookup y=some c)/\(∀y,(∃c,acc.lookup y=some c)->∃c,cl.lookup y=some c)/\(∀y,(y,NameKind.free)∈names->∃c,cl.lookup y=some c)
 |[],acc,_=>⟨acc,rfl,λ_ _ h=>.inr h,λ_ h=>h,λ_ h=>nomatch h⟩
 |(n,k)::r,acc,h=>by
  rw[List.all_cons,bE] at h;by_cases hk:k=.free
  ·subst hk;have h1:(env.cells.lookup n).isSome=true:=by simpa using h.1
   obtain⟨c,hc⟩:=dP.mp h1;obtain⟨cl,e,p1,p2,p3⟩:=xt env r ((n,c)::acc) h.2;refine⟨cl,?_,λy c' hy=>?_,λy hy=>?_,λy hy=>?_⟩
   ·rw[←e];have q:cellOf env n=(pure c:Sem Addr):=by unfold cellOf;rw[hc]
    rw[List.forIn_cons];dsimp only;rw[if_pos (show (NameKind.free==NameKind.free)=true from rfl),q];rfl
   ·rcases p1 y c' hy with z | z
    ·exact .inl z
    ·rw[dR] at z;cases hyn:y==n with
     |true=>
      rw[hyn] at z;have e1:y=n:=by simpa using hyn
      have e2:c=c':=by simpa using z
      rw[e1,←e2];exact .inl hc
     |false=>
      rw[hyn] at z;exact .inr z
   ·refine p2 y ?_;rw[dR];cases hyn:y==n with
    |true=>exact⟨c,rfl⟩
    |false=>exact hy
   ·rcases aX.mp hy with z | z
    ·refine p2 y ⟨c,?_⟩;have e1:y=n:=(Prod.mk.inj z).1;rw[e1,dR];simp
    ·exact p3 y z
  ·obtain⟨cl,e,p1,p2,p3⟩:=xt env r acc h.2;have hk':(k==NameKind.free)=false:=by simpa using hk
   refine⟨cl,?_,p1,p2,λy hy=>?_⟩
   ·rw[←e];rw[List.forIn_cons];dsimp only;rw[if_neg (by rw[hk'];exact a8)];rfl
   ·rcases aX.mp hy with z | z
    ·exact absurd (Prod.mk.inj z).2.symm hk
    ·exact p3 y z
theorem A8{X:Cx}{scope:Scope}(h:scope.names.all (λy=>y.2 != .free||(X.env.cells.lookup y.1).isSome)=true)(h2:scope.names.all (λy=>y.2 != .cell)=true)(h3:scope.kind=.function)
  (h4:scope.names.all (λy=>y.2 != .local||scope.names.lookup y.1==some .local)=true):∃cl,jF X scope cl:=by
 obtain⟨cl,e,p1,p2,p3⟩:=xt X.env scope.names [] h;refine⟨cl,?_,λy c hy=>?_,λy hy=>p3 y (PySem.mem_of_lookup hy),λy hy=>by simpa using bV.mp h2 y hy,h3,λy hy hl=>?_⟩
 ·unfold closureFor;exact Eq.trans (congrArg (λt:Sem (List (Str×Addr))=>t >>=λr=>(pure r:Sem (List (Str×Addr)))) e) rfl
 ·rcases p1 y c hy with z | z
  ·exact z
  ·simp at z
 ·have q:=bV.mp h4 y hy;simpa [hl] using q
section
variable{js:List Nat}{σ:St}{tt:TT}{te:TE}{Q:VK}{H1:Hp}
theorem qm{lo:Int}{n:Nat}(R:Nat->List V->Prop)(hn:n<=sizeLine)(h0:R 0 [])
  (hs:∀(i:Nat) (l:List V) (D:Addr) (H2:Hp) (E:V->Hp->Prop) (F:Hp->Prop),i<n->R i l->H1 D=none->Same H1 H2->H2 D=some (.lst l)->(∀y H5,Same H2 H5->R (i+1) (l++[y])->E y H5)->(∀H4,Same H2 H4->R (i+1) l->F H4)->
   tt (some (.int (lo+i))::iN js σ) H2 λb H4=>if b=true then te (some (.int (lo+i))::iN js σ) H4 E else F H4)
  (hd:∀(D:Addr) (H2:Hp) (l:List V),R n l->H1 D=none->Same H1 H2->H2 D=some (.lst l)->Q (.ref D) H2):pR (lc lo n) js σ tt te Q H1:=by
 intro D hD;refine⟨λi m H2=>m=n-i/\i<=n/\Same H1 H2/\∃l,H2 D=some (.lst l)/\l.length<=i/\R i l,⟨n,by simp,bM _,fj hD _,[],fh,aQ _,h0⟩,?_⟩;rintro i m H2 ⟨rfl,hi,s2,l,h2,hll,hR⟩;by_cases hlt:i<n
 ·refine .inr ⟨hlt,λv H3 y=>?_⟩;obtain⟨e,ev⟩:=y;subst e ev;refine hs i l D _ _ _ hlt hR hD s2 h2 (λz H5 s5 r5=>?_) (λH4 s4 r4=>?_)
  ·refine⟨l,s5 _ _ h2,d8 hll (bA hlt hn),n-(i+1),⋯,rfl,hlt,λb o hb=>?_,l++[z],fh,by rw[aY,bX];omega,r5⟩;rw[fH (gU hb hD)];exact s5 _ _ (s2 _ _ hb)
  ·exact⟨n-(i+1),⋯,rfl,hlt,s2.trans s4,l,s4 _ _ h2,⋯,r4⟩
 ·have e:i=n:=⋯;subst e;exact .inl ⟨aQ _,hd D H2 l hR hD s2 h2⟩
end
structure E(X:Cx)(e:Expr)(t:TE):Prop where
 h:PE X e t
structure T(X:Cx)(e:Expr)(t:TT):Prop where
 h:PT X e t
structure TW(X:Cx)(e:Expr)(t:TT):Prop where
 h:PW X e t
structure As(X:Cx)(es:List Expr)(t:TA):Prop where
 h:PA X es t
structure S(X:Cx)(st:Stmt)(t:TS):Prop where
 h:PS X st t
structure Ss(X:Cx)(sts:List Stmt)(t:TS):Prop where
 h:PSs X sts t
structure Il(X:Cx)(tg iter:Expr)(wi:TI):Prop where
 h:PI X tg iter wi
structure Gt(X:Cx)(tg:Expr)(t:TG):Prop where
 h:PG X tg t
structure nZ(X:Cx)(ts:List Expr)(t:jx):Prop where
 h:qq X ts t
structure Fs(X:Cx)(ifs:List Expr)(t:TT):Prop where
 h:PF X ifs t
structure gE(X:Cx)(f:Value->Value->Sem Value)(r:R2):Prop where
 h:gH X f r
structure FF(X:Cx)(f:Value->Sem Value)(r:V->Hp->VK->Prop):Prop where
 h:sP X f r
structure iD(X:Cx)(f:Value)(r:List V->Hp->VK->Prop):Prop where
 h:kh X f r
structure oe(X:Cx)(r:R2):Prop where
 h:qy X r
section
variable{X:Cx}{a b c e:Expr}{pos p:Pos}{ta tb tc te:TE}{t u:TT}{rest es:List Expr}{tA:TA}{op op':CmpOp}{r r':R2}{x:Str}
theorem v_(i:Nat)(hN:X.N[i]? =some x:=by rfl)(hv:xH X.env.scope x:=by first | exact Or.inl rfl | exact Or.inr (Or.inl rfl) | exact Or.inr (Or.inr rfl))(hd:(x==("__debug__":Str))=false:=by decide)(hcd:(x==("__classdict__":Str))=false:=by decide):
  E X (.Name x pos) (rj i):=⟨Nc hN hv hd hcd⟩
theorem eI{i j}:E X (.Constant (.int i) j pos) (tC (.int i)):=⟨GO⟩
theorem eB{k j}:E X (.Constant (.bool k) j pos) (tC (.bl k)):=⟨Lp⟩
theorem eN{j}:E X (.Constant .none j pos) (tC .non):=⟨aJ7⟩
theorem eS{z j}:E X (.Constant (.str z) j pos) (tC (.str z)):=⟨CB⟩
theorem gi{v:V}{w':Value}(hm:X.mg x=some w')(q:RelV v w')(hg:Gl X x:=by rfl)(hd:(x==("__debug__":Str))=false:=by decide):E X (.Name x pos) (tC v):=⟨IC hg hm q hd⟩
theorem lx{n:String}(hm:X.mg x=none)(hv:bootBuiltins x=some (.type n))(hg:Gl X x:=by rfl)(hn:x≠"__name__":=by decide)(hd:(x==("__debug__":Str))=false:=by decide):E X (.Name x pos) (tC (.ty n)):=⟨SO hg hm hv rfl hn hd⟩
theorem fc{o:Operator}(ho:gE X (binaryOp o) r)(ha:E X a ta)(hb:E X b tb):E X (.BinOp a o b pos) (mV r ta tb):=⟨WQ ho.h ha.h hb.h⟩
theorem mH{o:UnaryOp}{r1:V->Hp->VK->Prop}(ho:FF X (unaryOp o) r1)(ha:E X a ta):E X (.UnaryOp o a pos) (F2 r1 ta):=⟨Rg ho.h ha.h⟩
theorem hV(ho:gE X (compareOp op) r)(ha:E X a ta)(hb:E X b tb)(hm:behindInMarks op b=false:=by first | exact Ee _ | rfl):E X (.Compare a [op] [b] pos) (mV r ta tb):=⟨Yj ho.h ha.h hb.h hm⟩
theorem Cp(ho:gE X (compareOp op) r)(ho':gE X (compareOp op') r')(ha:E X a ta)(hb:E X b tb)(hc:E X c tc)(hm:lastMarks [op,op'] [b,c]=false:=by with_unfolding_all rfl):E X (.Compare a [op,op'] [b,c] pos) (rL r r' ta tb tc):=⟨JH ho.h ho'.h ha.h hb.h hc.h hm⟩
theorem tG(ho:gE X (compareOp op) r)(ho':gE X (compareOp op') r')(ha:E X a ta)(hb:E X b tb)(hc:E X c tc)(hm:lastMarks [op,op'] [b,c]=false:=by with_unfolding_all rfl):T X (.Compare a [op,op'] [b,c] pos) (rC (rL r r' ta tb tc)):=⟨OD ho.h ho'.h ha.h hb.h hc.h hm⟩
theorem jm{o}(ha:E X a ta):E X (.BoolOp o [a] pos) ta:=⟨ZC ha.h⟩
theorem j5(ha:E X a ta)(hb:E X (.BoolOp .And (b::rest) pos) tb):E X (.BoolOp .And (a::b::rest) pos) (Fz ta tb):=⟨Zt ha.h hb.h⟩
theorem qk(ha:E X a ta)(hb:E X (.BoolOp .Or (b::rest) pos) tb):E X (.BoolOp .Or (a::b::rest) pos) (GF ta tb):=⟨XU ha.h hb.h⟩
theorem ED(ha:E X a ta):E X (.UnaryOp .Not a pos) (EX ta):=⟨Vn ha.h⟩
theorem me(hc:T X c t)(ha:E X a ta)(hb:E X b tb):E X (.IfExp c a b pos) (B8 t ta tb):=⟨Nu hc.h ha.h hb.h⟩
theorem fG(ho:gE X (compareOp op) r)(ha:E X a ta)(hb:E X b tb)(hm:behindInMarks op b=false:=by first | exact Ee _ | rfl):T X (.Compare a [op] [b] pos) (rC (mV r ta tb)):=⟨IG ho.h ha.h hb.h hm⟩
theorem iR(ha:T X a t):T X (.UnaryOp .Not a pos) (Fl t):=⟨Pq ha.h⟩
theorem gL(ha:E X e te)(he:∀whole,isTrue e X.env whole=(do let v ←whole;standAt e.pos;holding [v] (truthy v)):=by intro _;rfl):T X e (L2.tB te):=⟨Ri ha.h he⟩
theorem kH(ha:T X a t):TW X (.BoolOp .And [a] pos) t:=⟨MB ha.h⟩
theorem jp(ha:T X a t):TW X (.BoolOp .Or [a] pos) t:=⟨Vg ha.h⟩
theorem kA(ha:T X a t)(hb:TW X (.BoolOp .And (b::rest) pos) u):TW X (.BoolOp .And (a::b::rest) pos) (Ec t u):=⟨YS ha.h hb.h⟩
theorem iF(ha:T X a t)(hb:TW X (.BoolOp .Or (b::rest) pos) u):TW X (.BoolOp .Or (a::b::rest) pos) (FI t u):=⟨T1 ha.h hb.h⟩
theorem tW(ha:TW X e t):T X e t:=⟨ha.h.pt⟩
theorem aN:As X [] jQ:=⟨mO⟩
theorem aC(ha:E X e te)(hr:As X es tA)(hs:starEach (e::es) X.env=(false,eval e X.env)::starEach es X.env:=by rfl):As X (e::es) (jr te tA):=⟨mN ha.h hr.h hs⟩
theorem qx(is:List Int)(h:es.map qo=is.map some:=by rfl):As X es (Ek is):=⟨BC is h⟩
theorem gB(ha:As X es tA):E X (.List es pos) (Ci tA):=⟨M8 ha.h⟩
theorem gu{k}(ha:As X es tA):E X (.Tuple es k pos) (BQ tA):=⟨KP ha.h⟩
theorem fv(hr:oe X r)(ha:E X a ta)(hb:E X b tb)(hs:Do b:=by intro _ _;rfl):E X (.Subscript a b pos) (mV r ta tb):=⟨Io hr.h ha.h hb.h hs⟩
theorem eD{k k':Nat}{ps:List Str}{sp:Sp}(D:Df X.prog X.w X.K X.mg X.base x k ps sp)(hr:Room k' X.A)(ha:As X (e::es) tA)(hk:k<=k':=by decide)(hg:Gl X x:=by rfl)
  (hdb:(x==("__debug__":Str))=false:=by decide) (he:starEach (e::es) X.env=(false,eval e X.env)::starEach es X.env:=by rfl) (hpl:(backTo pos (starEach es X.env)).any (·.1)=false:=by rfl):
  E X (.Call (.Name x p) (e::es) [] pos) (tq sp [] E0 tA):=⟨aBG D hr ha.h hk hg hdb he hpl⟩
theorem gM{id:String}{rc:List V->Hp->VK->Prop}(hc:iD X (.builtin id) rc)(hm:X.mg x=none)(hv:bootBuiltins x=some (.builtin id))(ha:As X (e::es) tA)(hg:Gl X x:=by rfl)(hn:x≠"__name__":=by decide)(hdb:(x==("__debug__":Str))=false:=by decide)
  (he:starEach (e::es) X.env=(false,eval e X.env)::starEach es X.env:=by rfl) (hpl:(backTo pos (starEach es X.env)).any (·.1)=false:=by rfl):E X (.Call (.Name x p) (e::es) [] pos) (ra rc tA):=⟨PP hc.h hg hm hv ha.h hn hdb he hpl⟩
theorem gT{n:String}{rc:List V->Hp->VK->Prop}(hc:iD X (.type n) rc)(hm:X.mg x=none)(hv:bootBuiltins x=some (.type n))(ha:As X (e::es) tA)(hg:Gl X x:=by rfl)(hn:x≠"__name__":=by decide)(hdb:(x==("__debug__":Str))=false:=by decide)
  (he:starEach (e::es) X.env=(false,eval e X.env)::starEach es X.env:=by rfl) (hpl:(backTo pos (starEach es X.env)).any (·.1)=false:=by rfl):E X (.Call (.Name x p) (e::es) [] pos) (ra rc tA):=⟨Pe hc.h hg hm hv ha.h hn hdb he hpl⟩
end
section
variable{X:Cx}
theorem fV:gE X (binaryOp .Add) (jg λi j=>.int (i+j)):=⟨aIM⟩
theorem gm:gE X (binaryOp .Sub) (jg λi j=>.int (i-j)):=⟨Oa⟩
theorem ii:gE X (binaryOp .Mult) (rI CMul λi j=>.int (i*j)):=⟨Lx⟩
theorem ie:gE X (binaryOp .FloorDiv) (rI Fj λi j=>.int (i / j)):=⟨Mw⟩
theorem gs:gE X (binaryOp .Mod) (rI (λ_ j=>0<j) λi j=>.int (i%j)):=⟨Ln⟩
theorem oP:gE X (binaryOp .Pow) (rI sy λi j=>.int (i^j.toNat)):=⟨Vz⟩
theorem lG:gE X (binaryOp .LShift) (rI sy λi j=>.int (i*2^j.toNat)):=⟨Py⟩
theorem rD:gE X (binaryOp .RShift) (rI (λ_ j=>0<=j) λi j=>.int (i / 2^j.toNat)):=⟨W4⟩
theorem om:gE X (binaryOp .BitAnd) (jg λi j=>.int (Builtin.bitAnd i j)):=⟨Nv⟩
theorem mm:gE X (binaryOp .BitOr) (jg λi j=>.int (Builtin.bitOr i j)):=⟨Jw⟩
theorem p9:gE X (binaryOp .Add) EI:=⟨Qg⟩
theorem gb:gE X (compareOp .Eq) Bp:=⟨VP⟩
theorem jV:gE X (compareOp .NotEq) DB:=⟨SX⟩
theorem qQ:gE X (compareOp .Lt) (jg λi j=>.bl (decide (i<j))):=⟨Nn⟩
theorem jo:gE X (compareOp .LtE) (jg λi j=>.bl (decide (i<=j))):=⟨KS⟩
theorem jR:gE X (compareOp .Gt) (jg λi j=>.bl (decide (j<i))):=⟨Ng⟩
theorem pB:gE X (compareOp .GtE) (jg λi j=>.bl (decide (j<=i))):=⟨Lq⟩
theorem xL:oe X (xU X.K):=⟨NF⟩
theorem xT:oe X (yr X.K):=⟨LR⟩
theorem yp:iD X (.builtin "len") (λxs H Q=>∃p ys,xs=[.ref p]/\(SqL X.K H p ys∨SqT X.K H p ys)/\Q (.int ys.length) H):=⟨OH⟩
theorem EB:iD X (.builtin "abs") (λxs H Q=>∃i,xs=[.int i]/\Q (.int (if i<0 then -i else i)) H):=⟨Jd⟩
theorem xZ(hc:X.calm=true:=by rfl):iD X (.builtin "max") (λxs H Q=>∃i j,xs=[.int i,.int j]/\Q (.int (if j>i then j else i)) H):=⟨Wo hc⟩
theorem Gj(hc:X.calm=true:=by rfl):iD X (.builtin "min") (λxs H Q=>∃i j,xs=[.int i,.int j]/\Q (.int (if j<i then j else i)) H):=⟨XR hc⟩
theorem FZ:iD X (.type "int") (λxs H Q=>(∃i,xs=[.int i]/\Q (.int i) H)∨∃k,xs=[.bl k]/\Q (.int (if k then 1 else 0)) H):=⟨NR⟩
theorem DA:iD X (.builtin "isinstance") (λxs H Q=>∃i:Int,xs=[.int i,.ty "int"]/\Q (.bl true) H):=⟨XJ⟩
theorem Du:iD X (.builtin "isinstance") (λxs H Q=>∃i:Int,xs=[.int i,.ty "bool"]/\Q (.bl false) H):=⟨L6⟩
variable{e c iter tg:Expr}{te:TE}{tt:TT}{tA:TA}{wi:TI}{g:TG}{t u tb:TS}{st:Stmt}{rest body ba bb:List Stmt}{pos pos' p:Pos}{x:Str}{a1 a2:Expr}
theorem fN:Ss X [] GM:=⟨WV⟩
theorem Mf(h1:S X st t)(h2:Ss X rest u):Ss X (st::rest) (rM t u):=⟨Lz h1.h h2.h⟩
theorem fg(h1:S X st t):Ss X [st] t:=⟨MN h1.h⟩
theorem mn:S X st Es:=⟨RL⟩
theorem fk(he:E X e te):S X (.Return (some e) pos) (DC te):=⟨Nd he.h⟩
theorem fJ(hc:T X c tt)(ha:Ss X ba t)(hb:Ss X bb u):S X (.If c ba bb pos) (B4 tt t u):=⟨K6 hc.h ha.h hb.h⟩
theorem lI(he:E X e te)(hs:swapsWith e none pos.line X.env=pure false:=by rfl):S X (.Expr e pos) (BP te):=⟨ZO he.h hs⟩
theorem fq(i:Nat)(he:E X e te)(hN:X.N.Nodup)(hi:X.N[i]? =some x:=by rfl)(hx:pv X.env.scope x:=by first | exact Or.inl rfl | exact Or.inr rfl)(hs:swapsWith e (some (.Name x pos')) pos.line X.env=pure false:=by rfl)
  (hf:X.fn x=true∨X.env.scope.names.lookup x=some .local:=by first | exact .inl rfl | exact .inr rfl):S X (.Assign [.Name x pos'] e pos) (pA te (i7 i)):=⟨IP hN hi hx he.h hs hf⟩
theorem gN(i:Nat)(hN:X.N.Nodup)(hi:X.N[i]? =some x:=by rfl)(hx:pv X.env.scope x:=by first | exact Or.inl rfl | exact Or.inr rfl)(hf:X.fn x=true∨X.env.scope.names.lookup x=some .local:=by first | exact .inl rfl | exact .inr rfl):Gt X (.Name x pos) (i7 i):=⟨FQ hN hi hx hf⟩
theorem iw(hi:Il X tg iter wi)(hg:Gt X tg g)(hb:Ss X body tb)(hp:PassesOwn (model X.prog X.w) X.A X.env X.xe)(hc:X.calm=true:=by rfl)(hs:∀x,foldedSetIterable iter X.env x=pure x:=by intro _;rfl):S X (.For tg iter body [] pos) (Bn wi g tb):=⟨VC hp hc hi.h hg.h hb.h hs⟩
theorem nF(hc:T X c tt)(hb:Ss X body tb)(hp:PassesOwn (model X.prog X.w) X.A X.env X.xe):S X (.While c body [] pos) (uF tt tb):=⟨VI hp hc.h hb.h⟩
theorem iL(hl:E X e te):Il X tg e (AX X.K te):=⟨JG hl.h⟩
theorem iT(hl:E X e te):Il X tg e (Cv X.K te):=⟨Mr hl.h⟩
theorem lO(hm:X.mg "range"=none)(ha:As X [a1] tA)(hg:Gl X "range":=by rfl)(hs:starEach [a1] X.env=[(false,eval a1 X.env)]:=by rfl):Il X tg (.Call (.Name "range" p) [a1] [] pos) (B5 tA):=⟨Kb hg hm ha.h hs⟩
theorem sx(hm:X.mg "range"=none)(ha:As X [a1,a2] tA)(hg:Gl X "range":=by rfl)(hs:starEach [a1,a2] X.env=[(false,eval a1 X.env),(false,eval a2 X.env)]:=by rfl)(hs2:starEach [a2] X.env=[(false,eval a2 X.env)]:=by rfl):
  Il X tg (.Call (.Name "range" p) [a1,a2] [] pos) (DI tA):=⟨LG hg hm ha.h hs hs2⟩
end
def Go(P:Program)(w:World)(K:FG)(mg:Str->Option Value)(base:Heap)(N:List Str)(x:Str)(st:Stmt)(f:Addr)(cdv:Value)(A:Around)(outer:List Env)(s:Shared)(H:Hp)(vs:List V)(Q:VK)(E:XK):Prop:=
 ∃t,Ss (mL jj P w K mg base N x (ft st) f cdv A outer s H E).nox (iM st) t/\t {nx:=λ_ H'=>Q .non H',rt:=Q} (start N vs) H
section
variable{P:Program}{w:World}{K:FG}{mg:Str->Option Value}{base:Heap}{x:Str}{st:Stmt}{ps N:List Str}{k:Nat}{sp:Sp}
theorem Fn.dfs(F:Fn K mg x st ps)(S':fb N ps (ft st))(len:∀vs H Q E,sp vs H Q E->vs.length=ps.length)
  (hbody:∀(f:Addr) (cdv:Value) (A:Around) (outer:List Env) (s:Shared) (H:Hp) (vs:List V) (Q:VK) (E:XK),Room k (A.deeper (envOfC x (ft st) s.heap.objs.size f cdv))->sp vs H Q E->
   Go P w K mg base N x st f cdv A outer s H vs Q E):Df P w K mg base x (k+1) ps sp:=
 F.df S' len λf cdv A outer s H vs Q E hr h=>by
  obtain⟨t,h1,h2⟩:=hbody f cdv A outer s H vs Q E hr h;exact⟨t,h1.h,h2⟩
theorem Fun.oks{f:Addr}{fd:FuncData}(F:Fun K x x st f fd)(S':fb N ps (ft st))(len:∀vs H Q E,sp vs H Q E->vs.length=ps.length)
  (hbody:∀(cdv:Value) (A:Around) (outer:List Env) (s:Shared) (H:Hp) (vs:List V) (Q:VK) (E:XK),Room k (A.deeper (envOfC x (ft st) s.heap.objs.size f cdv))->sp vs H Q E->
   Go P w K mg base N x st f cdv A outer s H vs Q E):gD P w K mg base jj (k+1) f fd ps sp:=
 F.ok S' len λcdv A outer s H vs Q E hr h=>by
  obtain⟨t,h1,h2⟩:=hbody cdv A outer s H vs Q E hr h;exact⟨t,h1.h,h2⟩
end
end L2
namespace L2
open PySem PySem.Spec PyProof.Rows PySem.SeqAt
theorem wq:∀{is:List Int} {us:List Value},Vals (is.map V.int) us->IntsAre us is
 |[],_,.nil=>.nil
 |_::_,_,.cons ⟨_,rfl⟩ r=>.cons _ _ (wq r)
section
variable{X:Cx}
theorem Pw(hc:X.calm=true):kh X (.builtin "sum") (λxs H Q=>∃(p:Addr) (is:List Int),xs=[.ref p]/\SqL X.K H p (is.map V.int)/\Q (.int is.sum) H):=by
 intro pins s σ H xs us Q I r h;obtain⟨p,is,rfl,hq,q⟩:=h;obtain⟨u,rfl,r1⟩:=jk r;cases r1;obtain⟨its,rv,pl,hz⟩:=I.list hq;have hi:=wq rv;obtain⟨ys,hy⟩:=hi.allInts.items;have hl:s.heap.IsList p (intItems ys):=by rw[←hy];exact pl.isList
 refine sum_intListG (I.ok.hd hc) hl λh' tk t' hk=>?_;have e1:is=ys.toList.map (·.1):=by
  rw[←nums_intItems,←hy];exact hi.numsOf.symm
 have e2:preSum (numAt ys) ys.size=is.sum:=by
  rw[preSum_eq,d9 (by simp),e1]
 rw[e2];exact⟨.int is.sum,H,I.kept hk,⟨()⟩,q⟩
variable{elt iter:Expr}{x y:Str}{px py pos spos:Pos}{ifs:List Expr}{scope:Scope}{wi:TI}{tt:TT}{te:TE}
theorem nL:Fs X [] Em:=⟨Le⟩
theorem F7{c:Expr}(h:T X c tt):Fs X [c] tt:=⟨Jf h.h⟩
theorem zw(hc:X.calm=true:=by rfl):iD X (.builtin "sum") (λxs H Q=>∃(p:Addr) (is:List Int),xs=[.ref p]/\SqL X.K H p (is.map V.int)/\Q (.int is.sum) H):=⟨Pw hc⟩
theorem OS{es:List Expr}{k n:Nat}{t:jx}(h:nZ X es t)(hc:X.calm=true:=by rfl)(hn:(assignEach es X.env).length=n:=by rfl)(hst:(assignEach es X.env).findIdx? (·.1)=none:=by rfl):Gt X (.Tuple es k pos) (sg X.K n t):=⟨QT hc h.h hn hst⟩
theorem jN:nZ X [] tH:=⟨SK⟩
theorem gx{e:Expr}{es:List Expr}{t:TG}{u:jx}(h1:Gt X e t)(h2:nZ X es u)(hs:(assignEach (e::es) X.env).map (·.2)=assign e X.env::(assignEach es X.env).map (·.2):=by rfl):nZ X (e::es) (qM t u):=⟨Xv h1.h h2.h hs⟩
theorem kL{tg e:Expr}{g:TG}(he:E X e te)(hg:Gt X tg g)(hs:swapsWithSole [tg] e pos.line X.env=pure false:=by rfl)(hw:swappedStores [tg] e X.env=pure none:=by rfl)
  (h1:(assignEach [tg] X.env).map (·.2)=[assign tg X.env]:=by rfl):S X (.Assign [tg] e pos) (pA te g):=⟨OU he.h hg.h hs hw h1⟩
end
section
variable{js:List Nat}{σ:St}{tt:TT}{te:TE}{Q:VK}{H1:Hp}
theorem DF{K:FG}{a:Addr}{xs:List V}(R:Nat->List V->Prop)(hn:xs.length<=sizeLine)(h0:R 0 [])(hq:SqL K H1 a xs)
  (hs:∀(i:Nat) (v:V) (l:List V) (D:Addr) (H2:Hp) (E:V->Hp->Prop) (F:Hp->Prop),xs[i]? =some v->R i l->H1 D=none->Same H1 H2->H2 D=some (.lst l)->(∀y H5,Same H2 H5->R (i+1) (l++[y])->E y H5)->(∀H4,Same H2 H4->R (i+1) l->F H4)->
   tt (some v::iN js σ) H2 λb H4=>if b=true then te (some v::iN js σ) H4 E else F H4)
  (hd:∀(D:Addr) (H2:Hp) (l:List V),R xs.length l->H1 D=none->Same H1 H2->H2 D=some (.lst l)->Q (.ref D) H2):pR (nX K a) js σ tt te Q H1:=by
 intro D hD;refine⟨λi m H2=>m=xs.length-i/\i<=xs.length/\Same H1 H2/\∃l,H2 D=some (.lst l)/\l.length<=i/\R i l,⟨xs.length,by simp,bM _,fj hD _,[],fh,aQ _,h0⟩,?_⟩;rintro i m H2 ⟨rfl,hi,s2,l,h2,hll,hR⟩;by_cases hlt:i<xs.length
 ·refine .inr ⟨⟨xs,xs[i],s2.seq hq,by simp[hlt]⟩,λv H3 y=>?_⟩;obtain⟨e,ev⟩:=y;subst e;have hv:=ev xs (s2.seq hq);refine hs i v l D _ _ _ hv hR hD s2 h2 (λz H5 s5 r5=>?_) (λH4 s4 r4=>?_)
  ·refine⟨l,s5 _ _ h2,d8 hll (bA hlt hn),xs.length-(i+1),⋯,rfl,hlt,λb o hb=>?_,l++[z],fh,by rw[aY,bX];omega,r5⟩;rw[fH (gU hb hD)];exact s5 _ _ (s2 _ _ hb)
  ·exact⟨xs.length-(i+1),⋯,rfl,hlt,s2.trans s4,l,s4 _ _ h2,⋯,r4⟩
 ·have e:i=xs.length:=⋯;subst e;exact .inl ⟨⟨xs,s2.seq hq,aQ _⟩,hd D H2 l hR hD s2 h2⟩
def IntsR(i:Nat)(l:List V):Prop:=∃zs:List Int,l=zs.map V.int/\zs.length<=i
theorem IntsR.nil:IntsR 0 []:=⟨[],rfl,aQ _⟩
theorem IntsR.one{i:Nat}{l:List V}(h:IntsR i l)(z:Int):IntsR (i+1) (l++[.int z]):=by
 obtain⟨zs,rfl,hl⟩:=h;exact⟨zs++[z],by rw[bB];rfl,by rw[aY,bX];omega⟩
theorem Same.tup{K:FG}{H H':Hp}{a:Addr}{xs:List V}(e:Same H H')(h:SqT K H a xs):SqT K H' a xs:=by
 rcases h with (h | ⟨o,h⟩) | h
 ·exact .inl (.inl (e _ _ h))
 ·exact .inl (.inr ⟨o,e _ _ h⟩)
 ·exact .inr h
theorem BS{α:Type}(f:Nat->α)(n:Nat):(List.range (n+1)).map f=(List.range n).map f++[f n]:=by rw[List.range_succ,bB];rfl
theorem nv{c:TT}{tb:TS}{D:iC}{σ:St}{H:Hp}(Pv:St->Hp->Prop)(μ:St->Hp->Nat)(h0:Pv σ H)
  (hs:∀σ H,Pv σ H->c σ H λb H1=>if b=true then ∃N:St->Hp->Prop,(∀σ' H',N σ' H'->∃m',m'<μ σ H/\m'=μ σ' H'/\Pv σ' H')/\tb {D with nx:=N,ct:=N,bk:=D.nx} σ H1 else D.nx σ H1):uF c tb D σ H:=
 ⟨λm σ H=>m=μ σ H/\Pv σ H,⟨(),h0⟩,by
  rintro m σ H ⟨rfl,p⟩;exact hs σ H p⟩
theorem m6{X:Cx}:FF X (unaryOp .USub) (rU λi=>.int (-i)):=⟨TJ⟩
end
section
variable{prog:Program}{w:World}{A:Around}{E:Value->Shared->Prop}{s:Shared}
theorem Bz{it l:Addr}{its:Array Value}(hne:l≠it):∀(n i:Nat) (s:Shared) (Q:List Value->Shared->Prop),s.heap.IsListIter it l i->s.heap.IsList l its->i+n<=its.size->
  (∀h',h'.IsListIter it l (i+n)->Heap.SameBut it s.heap h'->Q ((its.toList.drop i).take n) {s with heap:=h'})->wpAny (model prog w) A (draw (.ref it) n) Q E s
 |0,i,s,Q,hit,_,_,hQ=>by
  have z:wpAny (model prog w) A (pure ([]:List Value)) Q E s:=fE (by simpa using hQ s.heap hit (Heap.SameBut.refl ..));exact z
 |n+1,i,s,Q,hit,hl,hle,hQ=>by
  have hi:i<its.size:=⋯;have z:wpAny (model prog w) A (pyNext (.ref it)) (λr s₁=>wpAny (model prog w) A (match r with | none=>pure [] | some v=>(do let rest ←holding [v] (draw (.ref it) n);pure (v::rest))) Q E s₁) E s:=by
   refine wpAny_pyNext_list_item hit hl (x:=its[i]) (by simp[hi]) λh₁ hit₁ hs₁=>?_;refine eO (eU (Bz hne n (i+1) _ _ hit₁ (hl.extBut hs₁.extBut hne) ⋯ λh₂ hit₂ hs₂=>fE ?_));have hd:its.toList.drop i=its[i]::its.toList.drop (i+1):=by simp[List.drop_eq_getElem_cons,hi]
   have e:i+(n+1)=i+1+n:=⋯;have q:=hQ h₂ (by rw[e];exact hit₂) (hs₁.trans hs₂);rw[hd,List.take_succ_cons] at q;exact q
  exact eO z
theorem YK{l:Addr}{its:Array Value}{Q:List Value->Shared->Prop}(hh:A.handled=none)(hl:s.heap.IsList l its)(hQ:∀h',Heap.ExtBut s.heap.objs.size s.heap h'->Q its.toList {s with heap:=h'}):
  wpAny (model prog w) A (unpackItems (.ref l) its.size none) Q E s:=by
 have hne:l≠s.heap.objs.size:=by
  obtain⟨o,ho,_⟩:=hl;exact aW (aV ho)
 unfold unpackItems;refine eO ?_;unfold notIterableAtAll;refine eO (wpAny_specialOf hl.typeIs slot_list_iter.lookup (fE ?_));simp only[Bool.false_eq_true,if_false];refine eO (eU (wpAny_pyIter_list hl (eO (eU (Bz hne its.size 0 _ _ ⟨_,a9 _ rfl,rfl,rfl⟩ (hl.push _) ⋯ λh₁ hit₁ hs₁=>?_)))));have all:List.take its.size (List.drop 0 its.toList)=its.toList:=by
  rw[List.drop_zero];exact d9 (by simp)
 rw[all,if_neg (by simp)];have hl₁:h₁.IsList l its:=(hl.push _).extBut hs₁.extBut hne;refine eO (eU (wpAny_pyNext_list_end hh hit₁ hl₁ (by simp) λh₂ he₂=>?_));simp only[Option.isSome_none,Bool.false_eq_true,if_false];exact fE (hQ h₂ λb o hb e=>he₂ b o hb (hs₁.extBut b o hb (aU _ e)))
end
inductive ZY (K:FG) (n:Nat) (t:jx) (v:V) (σ:St) (H:Hp) (Q:St->Hp->Prop):Prop
 |mk (a:Addr) (xs:List V) (e:v=.ref a) (s:SqL K H a xs) (l:xs.length=n) (r:t xs σ H Q)
def Vo(K:FG)(n:Nat)(t:jx):TG:=ZY K n t
section
variable{X:Cx}{pos:Pos}
theorem AV{es:List Expr}{k n:Nat}{t:jx}(h:nZ X es t)(hc:X.calm=true:=by rfl)(hn:(assignEach es X.env).length=n:=by rfl)(hst:(assignEach es X.env).findIdx? (·.1)=none:=by rfl):Gt X (.Tuple es k pos) (Vo X.K n t):=by
 refine⟨λpins s σ H v u Q I r hw=>?_⟩;obtain⟨a,xs,e1,hq,hl,hw⟩:=hw;subst e1;cases r;obtain⟨its,rv,pl,hz⟩:=I.list hq;rw[assign_Tuple];refine eO (wpAny_standAt ?_);unfold unpack;have e2:(assignEach es X.env).length=its.toArray.size:=by rw[hn,←hl,rv.length,bI]
 rw[e2,hst];refine eO (eU (YK (I.ok.hd hc) pl.isList λh' hx=>?_));have I1:Inv X pins σ H {s with heap:=h'}:=I.kept (t':=s.toks) λb o e=>hx b o (aW (aV e)) e;exact h.h pins _ σ H xs _ Q I1 (by simpa using rv) hw
theorem lW{o e:Expr}{to te:TE}{apos cpos:Pos}(ho:E X o to)(he:E X e te)(hbase:attributeBase o "append" X.env (eval o X.env)=eval o X.env:=by rfl)
  (hfew:((backTo cpos (starEach [e] X.env)).all (λx=> !x.1)&&(backToKw cpos (keywordEach [] X.env)).all (λx=>x.1.isSome)&&decide (([e]:List Expr).length+([]:List Keyword).length+(if ([]:List Keyword).isEmpty then 0 else 1)<30))=true:=by rfl)
  (hline:(apos.endLine==cpos.line)=true:=by rfl) (hs:starEach [e] X.env=(false,eval e X.env)::starEach [] X.env:=by rfl) (hplain:(backTo cpos (starEach [] X.env)).any (·.1)=false:=by rfl):
  E X (.Call (.Attribute o "append" apos) [e] [] cpos) (oI X.K "list" Dj to (jr te jQ)):=
 ⟨pU PySem.F.plainAttrs_list PySem.F.slot_list_append PySem.F.type_list_append C1 ho.h (mN he.h mO hs) hbase hfew hline hs hplain⟩
variable{js:List Nat}{σ:St}{tt:TT}{te:TE}{Q:VK}{H1:Hp}
end
def Digs(ds ss:List Int):Prop:=Paired (λd z:Int=>0<=d/\d<z) ds ss
theorem Digs.snoc{ds ss:List Int}{d z:Int}(h:Digs ds ss)(h0:0<=d)(h1:d<z):Digs (ds++[d]) (ss++[z]):=Paired.snoc h ⟨h0,h1⟩
theorem Digs.len{ds ss:List Int}(h:Digs ds ss):ds.length=ss.length:=Paired.length h
theorem Digs.four{ds:List Int}{a b c d:Int}(h:Digs ds [a,b,c,d]):∃x y z w:Int,ds=[x,y,z,w]/\(0<=x/\x<a)/\(0<=y/\y<b)/\(0<=z/\z<c)/\0<=w/\w<d:=by
 cases h with
 |cons h1 r=>cases r with | cons h2 r=>cases r with | cons h3 r=>cases r with | cons h4 r=>cases r;exact⟨_,_,_,(),h1,h2,h3,h4⟩
theorem mC{H H2:Hp}{p:Addr}{o:HO}(hn:H p=none)(s:Same H H2):Same H (upd H2 p o):=λb u h=>by
 rw[fH (gU h hn)];exact s b u h
theorem GJ{a m b:Int}(h0:0<m)(h1:m<=18446744073709551616):CMul (a%m) b:=.inl ⟨Int.lt_of_lt_of_le (by decide) (cG a (Int.ne_of_gt h0)),Int.lt_of_lt_of_le (dF a h0) h1⟩
theorem Rc:(10:Int)^(18:Int).toNat=1000000000000000000:=by decide +kernel
theorem vH:(10:Int)^(58:Int).toNat=10000000000000000000000000000000000000000000000000000000000:=by decide +kernel
structure FnM(K:FG)(C:Addr)(m qual:Str)(st:Stmt)(ps:List Str):Prop where
 ex:∃(f:Addr) (fd:FuncData),Fun K m qual st f fd/\Binds K fd ps []/\ku K C m f
structure qD(P:Program)(w:World)(K:FG)(mg:Str->Option Value)(base:Heap)(C:Addr)(m:Str)(k:Nat)(ps:List Str)(sp:Sp):Prop where
 ex:∃(f:Addr) (fd:FuncData),gD P w K mg base jj k f fd ps sp/\Binds K fd ps []/\ku K C m f
structure Cd(K:FG)(mg:Str->Option Value)(x:Str)(C:Addr):Prop where
 at_:mg x=some (.ref C)
 cl:Cls K C
 makes:PySem.W.makesIn K C=true
 kp:PySem.W.keepIn K (.ref C)=true
section
variable{P:Program}{w:World}{K:FG}{mg:Str->Option Value}{base:Heap}{m qual:Str}{st:Stmt}{ps N:List Str}{k:Nat}{sp:Sp}{C:Addr}
theorem FnM.dfs(F:FnM K C m qual st ps)(S':fb N ps (ft st))(len:∀vs H Q E,sp vs H Q E->vs.length=ps.length)
  (hbody:∀(f:Addr) (cdv:Value) (A:Around) (outer:List Env) (s:Shared) (H:Hp) (vs:List V) (Q:VK) (E:XK),Room k (A.deeper (envOfC qual (ft st) s.heap.objs.size f cdv))->sp vs H Q E->
   Go P w K mg base N qual st f cdv A outer s H vs Q E):qD P w K mg base C m (k+1) ps sp:=by
 obtain⟨f,fd,F1,hb,hm⟩:=F.ex;refine⟨⟨f,fd,F1.ok S' len λcdv A outer s H vs Q E hr h=>?_,hb,hm⟩⟩;obtain⟨t,h1,h2⟩:=hbody f cdv A outer s H vs Q E hr h;exact⟨t,h1.h,h2⟩
theorem jn{f:Addr}{oc:Value}{od an:Option Addr}{osl:Array (Option Value)}{kV doc pm cdv ct:Value}
  (a:PySem.W.findIn K (.ref C) m=some (some (.ref f))) (i:PySem.W.isFn K (.ref f)=true) (l:K.lookup f=some ⟨oc,od,.func (PySem.W.fnOf m qual (ji st) (iM st) (ft st) .none kV doc pm an cdv ct),osl⟩)
  (c:PySem.W.codeIn K cdv qual=true) (k:PySem.W.keepIn K (.ref f)=true)
  (hb:∀(kV doc pm:Value) (an:Option Addr) (cdv ct:Value) (us:List Value),us.length=ps.length->bindArgs (PySem.W.fnOf m qual (ji st) (iM st) (ft st) .none kV doc pm an cdv ct) ⟨us,[]⟩=pure (ps.zip us)):FnM K C m qual st ps:=by
 have F:=rG (st:=st) l c k;exact⟨⟨f,_,F,F.binds (ps:=ps) hb,⟨a,i,k⟩⟩⟩
variable{X:Cx}{x:Str}{k':Nat}{e o value:Expr}{es:List Expr}{ta tv:TE}{t:TA}{p pos apos pos':Pos}{f:Str}
theorem m9(c:Cd X.K X.mg x C)(D:qD X.prog X.w X.K X.mg X.base C "__init__" k ps sp)(hr:Room k' X.A)(ha:As X (e::es) t)(hk:k+1<=k':=by decide)(hg:Gl X x:=by rfl)(hdb:(x==("__debug__":Str))=false:=by decide)
  (he:starEach (e::es) X.env=(false,eval e X.env)::starEach es X.env:=by rfl) (hpl:(backTo pos (starEach es X.env)).any (·.1)=false:=by rfl):E X (.Call (.Name x p) (e::es) [] pos) (sV C sp [] E0 t):=by
 obtain⟨f,fd,F,hb,hm⟩:=D.ex;exact⟨MO ⟨c.makes,hm.at_,hm.fn,c.kp⟩ F (hr.mono hk) hg c.at_ hb .nil pP ha.h hdb he hpl⟩
theorem kq{pl:Sem Bool}(c:Cls X.K C)(D:qD X.prog X.w X.K X.mg X.base C m k ps sp)(hr:Room k' X.A)(ho:E X o ta)(ha:As X (e::es) t)(hk:k<=k':=by decide)
  (hst:starEach (e::es) X.env=(false,eval e X.env)::starEach es X.env:=by rfl) (hpl:(backTo pos (starEach es X.env)).any (·.1)=false:=by rfl)
  (ht:eval (.Call (.Attribute o m apos) (e::es) [] pos) X.env=(do
   let ov ←eval o X.env
   standAt apos.atName
   let (f,first) ←holding [ov] (getMethod ov m pl)
   callWith pos f first (backTo pos (starEach (e::es) X.env)) (backToKw pos (keywordEach [] X.env))):=by rfl):E X (.Call (.Attribute o m apos) (e::es) [] pos) (yO C m sp [] E0 ta t):=by
 obtain⟨f,fd,F,hb,hm⟩:=D.ex;exact⟨M2 ho.h c hm F (hr.mono hk) hb .nil pP ha.h hst hpl ht⟩
theorem Pf(he:E X e ta)(hb:attributeBase e f X.env (eval e X.env)=eval e X.env:=by rfl):E X (.Attribute e f pos) (uX X.K ta f):=⟨Iz he.h hb⟩
theorem kB(ha:E X o ta)(hv:E X value tv)(hs:swapsWith value (some (.Attribute o f pos')) pos.line X.env=pure false:=by rfl):S X (.Assign [.Attribute o f pos'] value pos) (Ds X.K ta tv f):=⟨KJ ha.h hv.h hs⟩
def wD(C:Addr):TE:=λ_ H Q=>∀x dx,H x=none->H dx=none->dx≠x->Q (.ref x) (upd (upd H dx (.own x)) x (.ins C dx []))
theorem yd(c:Cd X.K X.mg x C)(hi:PySem.W.findIn X.K (.ref C) "__init__"=some (some (.builtin "object.__init__")))(hg:Gl X x:=by rfl)(hdb:(x==("__debug__":Str))=false:=by decide):E X (.Call (.Name x p) [] [] pos) (wD C):=by
 refine⟨λpins s σ H Q I h=>?_⟩;refine fC (pe I hg c.at_ ?_ hdb);refine PySem.W.callWith_K0 I.kIn c.kp (wpAny_call ?_);have hq:=h (s.heap.objs.size+1) s.heap.objs.size (I.hok.fresh (Nat.le_succ _)) (I.hok.fresh (aQ _)) (aW (dD _));have I2:=Inv.made (C:=C) I;have e2:((s.heap.push PySem.W.emptyDict).push (PySem.W.instObj C s.heap.objs.size)).get? (s.heap.objs.size+1)=some (PySem.W.instObj C s.heap.objs.size):=by
  have:=a9 (s.heap.push PySem.W.emptyDict) (o:=PySem.W.instObj C s.heap.objs.size) rfl
  rwa [c9] at this
 have Y:=PySem.W.makes_of (M:=model X.prog X.w) I.kIn c.makes;refine RI I.kIn c.makes hi (λself=>PySem.W.Looks.of_pure (PySem.W.oi_bind self)) ?_;have t1:PySem.W.Looks (model X.prog X.w) ((s.heap.push PySem.W.emptyDict).push (PySem.W.instObj C s.heap.objs.size)) (typeOf (.ref (s.heap.objs.size+1))) (.ref C):=(PySem.W.Looks.ld e2).andThen .now;have t2:PySem.W.Looks (model X.prog X.w) ((s.heap.push PySem.W.emptyDict).push (PySem.W.instObj C s.heap.objs.size)) (isInstance (.ref (s.heap.objs.size+1)) (.type "object")) true:=t1.andThen (Y.top.keeps λb o q=>aU _ (aU _ q))
 refine codeAny_call_builtin PySem.W.oi_plain PySem.W.entry_oi (@PySem.W.check_slot (model X.prog X.w) _ _ _ "object.__init__" "object" "__init__" (.ref (s.heap.objs.size+1)) [] [] _ PySem.W.oi_kind PySem.W.oi_split t2 (PySem.W.oi_args (.ref (s.heap.objs.size+1))) ?_);rw[PySem.W.oi_run];exact fE (And.intro rfl ⟨V.ref (s.heap.objs.size+1),_,I2,rfl,hq⟩)
end
structure Po(X:Cx)(o:Option Expr)(t:TO):Prop where
 h:PO X o t
structure rN(X:Cx)(r:V->Option Int->Option Int->Hp->VK->Prop):Prop where
 h:y8 X r
section
variable{X:Cx}{e:Expr}{te:TE}{lo hi:Option Expr}{tl th:TO}{pos p2:Pos}
theorem oJ:Po X none Ge:=⟨Jm⟩
theorem kW(h:E X e te):Po X (some e) (Cq te):=⟨Qx h.h⟩
theorem ZA:rN X (wW X.K):=⟨Hy⟩
theorem mq{r:V->Option Int->Option Int->Hp->VK->Prop}(hr:rN X r)(he:E X e te)(hl:Po X lo tl)(hu:Po X hi th):E X (.Subscript e (.Slice lo hi none p2) pos) (CZ r te tl th):=⟨Q9 hr.h he.h hl.h hu.h⟩
end
noncomputable def Ce(xs:List Int)(lo hi:Option Int):List Int:=(xs.drop (HT.sIx xs.length 0 lo)).take (HT.sIx xs.length xs.length hi-HT.sIx xs.length 0 lo)
structure va(K:FG)(x qual:Str)(st:Stmt)(f:Addr)(fd:FuncData):Prop where
 ex:∃(oc:Value) (od:Option Addr) (dV kV doc pm:Value) (an:Option Addr) (cdv ct:Value) (osl:Array (Option Value)),
  fd=PySem.W.fnOf x qual (ji st) (iM st) (ft st) dV kV doc pm an cdv ct/\K.lookup f=some ⟨oc,od,.func fd,osl⟩/\PySem.W.codeIn K cdv qual=true
 kp:PySem.W.keepIn K (.ref f)=true
structure FnMD(K:FG)(C:Addr)(m qual:Str)(st:Stmt)(ps:List Str)(dvs:List V):Prop where
 ex:∃(f:Addr) (fd:FuncData) (ds:List Value),va K m qual st f fd/\Binds K fd ps []/\Vals dvs ds/\Binds K fd ps ds/\ku K C m f
structure DfMD(P:Program)(w:World)(K:FG)(mg:Str->Option Value)(base:Heap)(C:Addr)(m:Str)(k:Nat)(ps:List Str)(sp:Sp)(dvs:List V):Prop where
 ex:∃(f:Addr) (fd:FuncData) (ds:List Value),gD P w K mg base jj k f fd ps sp/\Binds K fd ps []/\Vals dvs ds/\Binds K fd ps ds/\ku K C m f
section
variable{P:Program}{w:World}{K:FG}{mg:Str->Option Value}{base:Heap}{m qual:Str}{st:Stmt}{ps N:List Str}{k:Nat}{sp:Sp}{C:Addr}{dvs:List V}
theorem DfMD.dfm(D:DfMD P w K mg base C m k ps sp dvs):qD P w K mg base C m k ps sp:=by
 obtain⟨f,fd,ds,a,b,_,_,e⟩:=D.ex;exact⟨⟨f,fd,a,b,e⟩⟩
theorem FnMD.dfs(F:FnMD K C m qual st ps dvs)(S':fb N ps (ft st))(len:∀vs H Q E,sp vs H Q E->vs.length=ps.length)
  (hbody:∀(f:Addr) (cdv:Value) (A:Around) (outer:List Env) (s:Shared) (H:Hp) (vs:List V) (Q:VK) (E:XK),Room k (A.deeper (envOfC qual (ft st) s.heap.objs.size f cdv))->sp vs H Q E->
   Go P w K mg base N qual st f cdv A outer s H vs Q E):DfMD P w K mg base C m (k+1) ps sp dvs:=by
 obtain⟨f,fd,ds,F1,hb,hv,hbd,hm⟩:=F.ex;refine⟨⟨f,fd,ds,?_,hb,hv,hbd,hm⟩⟩;obtain⟨oc,od,dV,kV,doc,pm,an,cdv,ct,osl,rfl,lk,hcd⟩:=F1.ex;refine uP lk hcd S' len λA outer s H vs Q E hr hsp=>?_;obtain⟨t,h,q⟩:=hbody f cdv A outer s H vs Q E hr hsp;exact⟨t,h.h.nox,q⟩
theorem ZT{f:Addr}{oc:Value}{od an:Option Addr}{osl:Array (Option Value)}{dV kV doc pm cdv ct:Value}{ds:List Value}
  (a:PySem.W.findIn K (.ref C) m=some (some (.ref f))) (i:PySem.W.isFn K (.ref f)=true) (l:K.lookup f=some ⟨oc,od,.func (PySem.W.fnOf m qual (ji st) (iM st) (ft st) dV kV doc pm an cdv ct),osl⟩)
  (c:PySem.W.codeIn K cdv qual=true) (k:PySem.W.keepIn K (.ref f)=true)
  (hb:Binds K (PySem.W.fnOf m qual (ji st) (iM st) (ft st) dV kV doc pm an cdv ct) ps []) (hv:Vals dvs ds) (hd:Binds K (PySem.W.fnOf m qual (ji st) (iM st) (ft st) dV kV doc pm an cdv ct) ps ds):FnMD K C m qual st ps dvs:=
 ⟨⟨f,_,ds,⟨⟨oc,od,dV,kV,doc,pm,an,cdv,ct,osl,rfl,l,c⟩,k⟩,hb,hv,hd,⟨a,i,k⟩⟩⟩
variable{X:Cx}{x:Str}{k':Nat}{p pos:Pos}
theorem vL(c:Cd X.K X.mg x C)(D:DfMD X.prog X.w X.K X.mg X.base C "__init__" k ps sp dvs)(hr:Room k' X.A)(hk:k+1<=k':=by decide)(hg:Gl X x:=by rfl)(hdb:(x==("__debug__":Str))=false:=by decide):
  E X (.Call (.Name x p) [] [] pos) (sV C sp dvs E0 jQ):=by
 obtain⟨f,fd,ds,F,_,hv,hb,hm⟩:=D.ex;exact⟨Rf ⟨c.makes,hm.at_,hm.fn,c.kp⟩ F (hr.mono hk) hg c.at_ hb hv pP hdb⟩
end
theorem AU{H:Hp}{xo dx:Addr}{a b:HO}(nx:H xo=none)(ndx:H dx=none):Same H (upd (upd H dx a) xo b):=λz u hb=>by
 rw[fH (gU hb nx),fH (gU hb ndx)];exact hb
theorem nB{H:Hp}{xo dx:Addr}{a b c:HO}(nx:H xo=none)(ndx:H dx=none):Same H (upd (upd (upd H dx a) xo b) xo c):=λz u hb=>by
 rw[fH (gU hb nx)];exact AU nx ndx z u hb
theorem JN{H:Hp}{xo dx:Addr}{a b c d:HO}(nx:H xo=none)(ndx:H dx=none):Same H (upd (upd (upd (upd H dx a) xo b) xo c) xo d):=λz u hb=>by
 rw[fH (gU hb nx)];exact nB nx ndx z u hb
end L2
namespace L2
open PySem PyProof.Rows
noncomputable def Hq(p:Nat->Bool):Nat->Nat
 |0=>0
 |n+1=>Hq p n+(if p n=true then 2^n else 0)
@[irreducible] noncomputable def k8(p:Nat->Bool)(n:Nat):Nat:=Hq p n
theorem yZ(p:Nat->Bool):k8 p 0=0:=by rw[k8];rfl
theorem vj(p:Nat->Bool)(n:Nat):k8 p (n+1)=k8 p n+(if p n=true then 2^n else 0):=by rw[k8,k8];rfl
theorem AW(p:Nat->Bool):∀n,k8 p n<2^n
 |0=>by rw[yZ];decide
 |n+1=>by
  have h:=AW p n;rw[vj,Nat.pow_succ];split<;>omega
theorem El(p:Nat->Bool):∀n i,(k8 p n).testBit i=(decide (i<n)&&p i)
 |0,i=>by rw[yZ];simp
 |n+1,i=>by
  have h:=AW p n;have ih:=El p n i;rw[vj];by_cases hp:p n=true
  ·rw[if_pos hp,Nat.add_comm];rcases Nat.lt_trichotomy i n with hi | hi | hi
   ·rw[Nat.testBit_two_pow_add_gt hi,ih];simp[hi,dA hi]
   ·subst hi;rw[Nat.testBit_two_pow_add_eq,ih];simp[hp]
   ·have h2:2^n+k8 p n<2^i:=bA (by rw[Nat.pow_succ];omega) (Nat.pow_le_pow_right (by decide) hi);rw[Nat.testBit_lt_two_pow h2];have:¬i<n+1:=⋯;simp[this]
  ·rw[if_neg hp,Nat.add_zero,ih];by_cases e:i=n
   ·subst e;simp[hp]
   ·have:(i<n+1)↔(i<n):=⋯;simp[this]
noncomputable def tb(m:Int)(i:Nat):Bool:=m.toNat.testBit i
theorem jJ(k:Nat):((2^k:Nat):Int)=(2:Int)^k:=by rw[Int.natCast_pow];rfl
theorem gS(k:Nat):(0:Int)<2^k:=by rw[←jJ];exact Int.natCast_pos.mpr (Nat.two_pow_pos k)
theorem DQ{m:Int}(h:0<=m)(k:Nat):m / 2^k=((m.toNat >>> k:Nat):Int):=by
 obtain⟨n,rfl⟩:=cH h;rw[bQ,Nat.shiftRight_eq_div_pow,←jJ,Int.natCast_ediv]
theorem BD(a b:Nat):Builtin.bitAnd (a:Int) (b:Int)=((a&&& b:Nat):Int):=bitAnd_pp (dO a) (dO b)
theorem rp(a b:Nat):Builtin.bitOr (a:Int) (b:Int)=((a||| b:Nat):Int):=by
 rw[bitOr_and,BD];have:=nat_or_add_and a b;omega
theorem pk{m:Int}(h:0<=m)(k:Nat):(Builtin.bitAnd (m / 2^k) 1=1)↔tb m k=true:=by
 rw[DQ h,show (1:Int)=((1:Nat):Int) from rfl,BD];unfold tb;rw[Nat.testBit_eq_decide_div_mod_eq,Nat.shiftRight_eq_div_pow];have:m.toNat / 2^k&&& 1=m.toNat / 2^k%2:=Nat.and_two_pow_sub_one_eq_mod _ 1;rw[this];simp only[fA];omega
theorem nD{a b:Int}(ha:0<=a)(hb:0<=b):0<=Builtin.bitAnd a b:=by rw[bitAnd_pp ha hb];exact dO _
theorem mM{a b:Int}(ha:0<=a)(hb:0<=b):0<=Builtin.bitOr a b:=by
 obtain⟨x,rfl⟩:=cH ha;obtain⟨y,rfl⟩:=cH hb;rw[rp];exact dO _
theorem kX{a b:Int}(ha:0<=a)(hb:0<=b)(i:Nat):tb (Builtin.bitAnd a b) i=(tb a i&&tb b i):=by
 unfold tb;rw[bitAnd_pp ha hb,bQ,Nat.testBit_and]
theorem pD{a b:Int}(ha:0<=a)(hb:0<=b)(i:Nat):tb (Builtin.bitOr a b) i=(tb a i||tb b i):=by
 obtain⟨x,rfl⟩:=cH ha;obtain⟨y,rfl⟩:=cH hb;unfold tb;rw[rp,bQ,Nat.testBit_or,bQ,bQ]
theorem sj(k i:Nat):tb (2^k) i=decide (k=i):=by
 unfold tb;rw[←jJ,bQ,Nat.testBit_two_pow]
theorem gQ(i:Nat):tb 0 i=false:=by unfold tb;simp
theorem i6{a b:Int}(ha:0<=a)(hb:0<=b)(h:∀i,tb a i=tb b i):a=b:=by
 have:a.toNat=b.toNat:=Nat.eq_of_testBit_eq h;omega
theorem pL{m:Int}(h:0<=m)(k i:Nat):tb (m*2^k) i=(decide (k<=i)&&tb m (i-k)):=by
 obtain⟨x,rfl⟩:=cH h;unfold tb;rw[←jJ,←Int.natCast_mul,bQ,bQ,←Nat.shiftLeft_eq,Nat.testBit_shiftLeft]
theorem pJ{m:Int}(h:0<=m)(k i:Nat):tb (m / 2^k) i=tb m (k+i):=by
 rw[DQ h];unfold tb;rw[bQ,Nat.testBit_shiftRight]
theorem lJ{m:Int}{n i:Nat}(h:m<2^n)(hi:n<=i):tb m i=false:=by
 unfold tb;refine Nat.testBit_lt_two_pow (bA ?_ (Nat.pow_le_pow_right (by decide) hi));by_cases h0:0<=m
 ·have:=jJ n;omega
 ·have:m.toNat=0:=⋯;rw[this];exact Nat.two_pow_pos n
@[irreducible] noncomputable def kN(p:Nat->Bool)(n:Nat):Int:=(k8 p n:Nat)
theorem oH(p:Nat->Bool)(n:Nat):kN p n=(k8 p n:Nat):=by rw[kN]
theorem qR(p:Nat->Bool)(n:Nat):0<=kN p n:=by rw[oH];exact dO _
theorem KB(p:Nat->Bool):kN p 0=0:=by rw[oH,yZ];rfl
theorem rW(p:Nat->Bool)(n i:Nat):tb (kN p n) i=(decide (i<n)&&p i):=by
 unfold tb;rw[oH,bQ,El]
theorem BX(p:Nat->Bool)(n:Nat):kN p (n+1)=kN p n+(if p n=true then 2^n else 0):=by
 rw[oH,oH,vj,Int.natCast_add];split
 ·rw[jJ]
 ·rfl
theorem xG(p:Nat->Bool)(n:Nat):kN p n<2^n:=by
 have:=AW p n;have e:=jJ n;rw[oH];omega
theorem tE(n i:Nat):tb (2^n-1) i=decide (i<n):=by
 have h:=jJ n;have:((2:Int)^n-1).toNat=2^n-1:=by
  have:=Nat.two_pow_pos n;omega
 unfold tb;rw[this,Nat.testBit_two_pow_sub_one]
noncomputable def F0(p:Nat->Bool)(lo:Int):Nat->List Int
 |0=>[]
 |n+1=>F0 p lo n++(if p n=true then [lo+(n:Int)] else [])
@[irreducible] noncomputable def flt(p:Nat->Bool)(lo:Int)(n:Nat):List Int:=F0 p lo n
theorem Ar(p:Nat->Bool)(lo:Int):flt p lo 0=[]:=by rw[flt];rfl
theorem Ii{p:Nat->Bool}{lo:Int}{α:Type}{f:Int->α}:[]=(flt p lo 0).map f:=by rw[Ar];rfl
theorem FB(p:Nat->Bool)(lo:Int)(n:Nat):flt p lo (n+1)=flt p lo n++(if p n=true then [lo+(n:Int)] else []):=by rw[flt,flt];rfl
theorem vV{p:Nat->Bool}{lo:Int}{n:Nat}(h:p n=true):flt p lo (n+1)=flt p lo n++[lo+(n:Int)]:=by
 rw[FB,if_pos h]
theorem qP{p:Nat->Bool}{lo:Int}{n:Nat}(h:p n=false):flt p lo (n+1)=flt p lo n:=by
 rw[FB,h,if_neg a8,cU]
theorem flt_mem{p:Nat->Bool}{lo z:Int}:∀{n:Nat},z∈flt p lo n↔∃i,i<n/\p i=true/\z=lo+(i:Int)
 |0=>by rw[Ar];exact⟨λh=>(nomatch h),λ⟨i,h,_⟩=>absurd h (dB i)⟩
 |n+1=>by
  by_cases c:p n=true
  ·rw[vV c,bP,flt_mem,bJ];refine⟨λh=>?_,λ⟨i,h1,h2,h3⟩=>?_⟩
   ·rcases h with ⟨i,h1,h2,h3⟩ | h
    ·exact⟨i,⋯,h2,h3⟩
    ·exact⟨n,⋯,c,h⟩
   ·by_cases e:i=n
    ·subst e;exact .inr h3
    ·exact .inl ⟨i,⋯,h2,h3⟩
  ·rw[qP (by simpa using c),flt_mem];refine⟨λ⟨i,h1,h2,h3⟩=>⟨i,⋯,h2,h3⟩,λ⟨i,h1,h2,h3⟩=>⟨i,?_,h2,h3⟩⟩;have:i≠n:=λe=>c (e▸h2);omega
theorem Rp{p:Nat->Bool}{lo:Int}{n k:Nat}(h:∀i,n<=i->p i=false)(hk:n<=k):flt p lo k=flt p lo n:=by
 obtain⟨d,rfl⟩:=Nat.exists_eq_add_of_le hk;clear hk;induction d with
 |zero=>rfl
 |succ d ih=>rw[show n+(d+1)=(n+d)+1 from rfl,qP (h _ ⋯),ih]
noncomputable def fu(zs:List Int):Int:=zs.foldl (λa z=>Builtin.bitOr a (1*2^z.toNat)) 0
theorem Bt(zs:List Int)(z:Int):fu (zs++[z])=Builtin.bitOr (fu zs) (1*2^z.toNat):=by unfold fu;rw[List.foldl_append];rfl
theorem AS:∀(zs:List Int) (a:Int),0<=a->0<=zs.foldl (λa z=>Builtin.bitOr a (1*2^z.toNat)) a/\∀i,tb (zs.foldl (λa z=>Builtin.bitOr a (1*2^z.toNat)) a) i=(tb a i||zs.any λz=>decide (z.toNat=i))
 |[],a,h=>⟨h,λi=>by simp⟩
 |z::zs,a,h=>by
  have e:(1*2^z.toNat:Int)=2^z.toNat:=⋯;have p:=bN (gS z.toNat);obtain⟨h1,h2⟩:=AS zs (Builtin.bitOr a (1*2^z.toNat)) (by rw[e];exact mM h p);refine⟨h1,λi=>?_⟩;show tb (zs.foldl _ (Builtin.bitOr a (1*2^z.toNat))) i=_;rw[h2 i,e,pD h p,sj,bR,Bool.or_assoc]
theorem jK(zs:List Int):0<=fu zs:=(AS zs 0 (aS 0)).1
theorem jE(zs:List Int)(i:Nat):tb (fu zs) i=zs.any λz=>decide (z.toNat=i):=by
 have h:=(AS zs 0 (aS 0)).2 i;rw[gQ,dG] at h;exact h
theorem EM{m:Int}(h:0<=m):m<2^Builtin.Int.intBits m:=by
 unfold Builtin.Int.intBits;split
 ·rename_i c;have:m=0:=by simpa using c
  rw[this];decide
 ·have:=Nat.lt_log2_self (n:=m.natAbs);have e:=jJ (m.natAbs.log2+1);omega
theorem rk{m:Int}{n:Nat}(h:0<=m)(hn:m<2^n):Builtin.Int.intBits m<=n:=by
 unfold Builtin.Int.intBits;split
 ·exact bM _
 ·rename_i c;have h0:m≠0:=by simpa using c
  have e:=jJ n;have:m.natAbs.log2<n:=(Nat.log2_lt ⋯).mpr ⋯;omega
noncomputable def mG(m:Int):List Int:=flt (tb m) 0 (Builtin.Int.intBits m)
theorem sH{m:Int}{n:Nat}(h:0<=m)(hn:m<2^n):mG m=flt (tb m) 0 n:=
 (Rp (λi hi=>lJ (EM h) hi) (rk h hn)).symm
theorem Qz{m:Int}(h:0<=m)(k:Nat):decide (Builtin.bitAnd (m / 2^k) 1=1)=tb m k:=by
 by_cases c:tb m k=true
 ·rw[c];exact eY ((pk h _).mpr c)
 ·have c':tb m k=false:=by simpa using c
  rw[c'];exact fB λq=>c ((pk h _).mp q)
end L2
namespace L2
open PySem PyProof.Rows
theorem IT{a b:Int}{n:Nat}(ha:0<=a)(hb:0<=b)(h1:a<2^n)(h2:b<2^n):Builtin.bitOr a b<2^n:=by
 obtain⟨x,rfl⟩:=cH ha;obtain⟨y,rfl⟩:=cH hb;have e:=jJ n;have:x||| y<2^n:=Nat.or_lt_two_pow ⋯ ⋯
 rw[rp];omega
noncomputable def p8(lo st:Int)(n:Nat):It:=⟨λi _=>i<n,λi H x H'=>H'=H/\x=.int (lo+i*st),λi _=>n<=i⟩
theorem Wl(lo:Int)(n:Nat):p8 lo 1 n=lc lo n:=by
 unfold p8 lc;simp only[Int.mul_one]
theorem ML{P:Program}{w:World}{K:FG}{tg:Expr}(it:Addr)(lo st:Int)(n:Nat):iO P w K tg (p8 lo st n) [it] it (λi h=>IsRangeIter h it (lo+(i:Nat)*st) ((n:Int)-(i:Nat)) st) where
 mem:=by simp
 obj:=λi h st b hb=>by
  have e:b=it:=by simpa using hb
  subst e;exact⟨_,st,λv z=>by
   have z':Data.fields _=Data.cell v:=z;cases z'⟩
 keep:=λi h h' st k=>k it (by simp) _ st
 item:=by
  intro X hP hw hK hc i pins s σ H E I hf hst hg;subst hP hw hK;obtain⟨f0,f1,f2,f3,f4,f5⟩:=hf it (by simp);have W:=Walks.range (prog:=X.prog) (w:=X.w) (I.ok.hd hc) it lo st n;refine W.item i s _ _ hg hst λv h' tk hv st' kk=>?_;obtain⟨t,rfl⟩:=hv;have I1:Inv X pins σ H {s with heap:=h',toks:=tk}:=I.turned (λb o hb e=>kk b o (by simpa using hb) e) f0 f1 f3 f4 f5;exact⟨(),nz (s:={s with heap:=h',toks:=tk}) (n:="range_iterator") st' rfl rfl (by decide) ⟨.int (lo+i*st),H,I1,⟨t,rfl⟩,⟨rfl,rfl⟩,st',λb hb=>(hf b hb).1⟩⟩
 done:=by
  intro X hP hw hK hc i pins s σ H E I hf st hg;subst hP hw hK;obtain⟨f0,f1,f2,f3,f4,f5⟩:=hf it (by simp);exact wpAny_pyNext_range_end (I.ok.hd hc) st (by have:n<=i:=hg;omega) λh' eb=>⟨rfl,I.turned (t':=s.toks) (λb o hb e=>eb b o hb e) f0 f1 f3 f4 f5⟩
 self:=λ_ _ _ _ _ st h=>wpAny_pyIter_rangeiter st h
theorem Pd{P:Program}{w:World}{K:FG}{tg:Expr}(it:Addr)(lo st:Int)(n:Nat):iO P w K tg (p8 lo st n) [it] it (λi h=>IsLongIter h it (lo+(i:Nat)*st) ((n:Int)-(i:Nat)) st) where
 mem:=by simp
 obj:=λi h st b hb=>by
  have e:b=it:=by simpa using hb
  subst e;exact⟨_,st,λv z=>by
   have z':Data.fields _=Data.cell v:=z;cases z'⟩
 keep:=λi h h' st k=>k it (by simp) _ st
 item:=by
  intro X hP hw hK hc i pins s σ H E I hf hst hg;subst hP hw hK;obtain⟨f0,f1,f2,f3,f4,f5⟩:=hf it (by simp);have W:=Walks.longrange (prog:=X.prog) (w:=X.w) (I.ok.hd hc) it lo st n;refine W.item i s _ _ hg hst λv h' tk hv st' kk=>?_;obtain⟨t,rfl⟩:=hv;have I1:Inv X pins σ H {s with heap:=h',toks:=tk}:=I.turned (λb o hb e=>kk b o (by simpa using hb) e) f0 f1 f3 f4 f5;exact⟨(),nz (s:={s with heap:=h',toks:=tk}) (n:="longrange_iterator") st' rfl rfl (by decide) ⟨.int (lo+i*st),H,I1,⟨t,rfl⟩,⟨rfl,rfl⟩,st',λb hb=>(hf b hb).1⟩⟩
 done:=by
  intro X hP hw hK hc i pins s σ H E I hf st hg;subst hP hw hK;obtain⟨f0,f1,f2,f3,f4,f5⟩:=hf it (by simp);exact wpAny_pyNext_long_end (I.ok.hd hc) st (by have:n<=i:=hg;omega) λh' eb=>⟨rfl,I.turned (t':=s.toks) (λb o hb e=>eb b o hb e) f0 f1 f3 f4 f5⟩
 self:=λ_ _ _ _ _ st h=>wpAny_pyIter_longiter st h
section
variable{X:Cx}{tg:Expr}
theorem Ij{pins:List (Addr×Obj)}{σ:St}{H:Hp}{s:Shared}{R:It->Hp->Prop}{E:Value->Shared->Prop}{lo hi st:Int}{n:Nat}{t u v:Tok}{tk:Nat}(I:Inv X pins σ H s)(hn:Builtin.Range.rangeSize lo hi st=(n:Int))
  (q:R (p8 lo st n) H):wpAny (model X.prog X.w) X.A (pyIter (.ref s.heap.objs.size)) (Ak X pins σ tg R) E {s with heap:=s.heap.push {cls:=.type "range",data:=.fields #[.int lo t,.int hi u,.int st v]},toks:=tk}:=by
 have I1:Inv X pins σ H {s with heap:=s.heap.push {cls:=.type "range",data:=.fields #[.int lo t,.int hi u,.int st v]},toks:=tk}:=I.kept λb o e=>aU _ e;have e1:lo+((0:Nat):Int)*st=lo:=by simp
 have e2:((n:Nat):Int)-((0:Nat):Int)=Builtin.Range.rangeSize lo hi st:=by rw[hn];simp
 by_cases hsm:Builtin.Range.small lo hi st=true
 ·refine wpAny_pyIter_range (IsRange.new ..) hsm ?_;refine⟨(s.heap.push {cls:=.type "range",data:=.fields #[.int lo t,.int hi u,.int st v]}).objs.size,[(s.heap.push {cls:=.type "range",data:=.fields #[.int lo t,.int hi u,.int st v]}).objs.size],_,_,H,rfl,
   I1.kept (t':=tk) λb o e=>aU _ e,ML _ lo st n,?_,λb hb=>?_,q⟩
  ·show IsRangeIter _ _ (lo+((0:Nat):Int)*st) (((n:Nat):Int)-((0:Nat):Int)) st;rw[e1,e2];exact a9 _ rfl
  ·have e:b=(s.heap.push {cls:=.type "range",data:=.fields #[.int lo t,.int hi u,.int st v]}).objs.size:=by simpa using hb
   subst e;exact I1.fpOk (aQ _) (I1.hok.fresh (aQ _))
 ·refine wpAny_pyIter_longrange (IsRange.new ..) (by simpa using hsm) ?_;refine⟨(s.heap.push {cls:=.type "range",data:=.fields #[.int lo t,.int hi u,.int st v]}).objs.size,[(s.heap.push {cls:=.type "range",data:=.fields #[.int lo t,.int hi u,.int st v]}).objs.size],_,_,H,rfl,
   I1.kept (t':=tk) λb o e=>aU _ e,Pd _ lo st n,?_,λb hb=>?_,q⟩
  ·show IsLongIter _ _ (lo+((0:Nat):Int)*st) (((n:Nat):Int)-((0:Nat):Int)) st;rw[e1,e2];exact a9 _ rfl
  ·have e:b=(s.heap.push {cls:=.type "range",data:=.fields #[.int lo t,.int hi u,.int st v]}).objs.size:=by simpa using hb
   subst e;exact I1.fpOk (aQ _) (I1.hok.fresh (aQ _))
theorem Gn{a b c:Int}(hc:0<c):0<=Builtin.Range.rangeSize a b c:=by
 unfold Builtin.Range.rangeSize;rw[if_pos hc];split
 ·have:0<=(b-a-1) / c:=Int.ediv_nonneg ⋯ ⋯;omega
 ·exact aS 0
def Dr(ta:TA):TI:=λσ H R=>ta σ H λvs H1=>∃i j:Int,vs=[.int i,.int j]/\R (lc i (j-i).toNat) H1
theorem RE{a b:Expr}{ta:TA}{p pos:Pos}(hg:Gl X "range")(hm:X.mg "range"=none)(ha:PA X [a,b] ta)(hs:starEach [a,b] X.env=[(false,eval a X.env),(false,eval b X.env)]:=by rfl)(hs2:starEach [b] X.env=[(false,eval b X.env)]:=by rfl):
  PI X tg (.Call (.Name "range" p) [a,b] [] pos) (Dr ta):=by
 intro pins s σ H R I h;refine Call_ (nV I hg hm eZ (PyProof.Rows.callWith_type1 (fU (ha pos pins s σ H _ I h) λus s1 ⟨vs,H1,I1,r1,q1⟩=>?_) (by rw[hs,hs2]) (by rw[hs2];rfl)));obtain⟨i,j,e,q⟩:=q1;subst e;cases r1 with
 |cons r rr=>
  cases rr with
  |cons r' rr=>
   cases rr;obtain⟨t,rfl⟩:=r;obtain⟨t',rfl⟩:=r';exact call_range_2 (Ij I1 (n:=(j-i).toNat) (by rw[rangeSize_one];split<;>omega) (by rw[Wl];exact q))
theorem Cz{a b:Expr}{ta:TA}{p pos:Pos}(hm:X.mg "range"=none)(ha:As X [a,b] ta)(hg:Gl X "range":=by rfl)(hs:starEach [a,b] X.env=[(false,eval a X.env),(false,eval b X.env)]:=by rfl)(hs2:starEach [b] X.env=[(false,eval b X.env)]:=by rfl):
  Il X tg (.Call (.Name "range" p) [a,b] [] pos) (Dr ta):=⟨RE hg hm ha.h hs hs2⟩
end
noncomputable def qg(a:Addr)(lo hi st:Int):HO:=.ext λh=>∃t u v,h.get? a=some {cls:=.type "range",data:=.fields #[.int lo t,.int hi u,.int st v]}
section
variable{X:Cx}
theorem Fe{pins:List (Addr×Obj)}{σ:St}{H:Hp}{s:Shared}{Q:VK}{lo hi st:Int}{t u v:Tok}{tk:Nat}(I:Inv X pins σ H s)(q:∀p,H p=none->Q (.ref p) (upd H p (qg p lo hi st))):
  EP X pins σ Q (.ref s.heap.objs.size) {s with heap:=s.heap.push {cls:=.type "range",data:=.fields #[.int lo t,.int hi u,.int st v]},toks:=tk}:=by
 refine⟨.ref s.heap.objs.size,upd H s.heap.objs.size (qg s.heap.objs.size lo hi st),I.laid (t':=tk) (λb u e=>aU _ e) (aQ _) ?_,rfl,q _ (I.hok.fresh (aQ _))⟩;have e:=a9 s.heap (o:={cls:=.type "range",data:=.fields #[.int lo t,.int hi u,.int st v]}) rfl;exact⟨⟨t,u,v,e⟩,⟨_,e⟩,λh1 h2 ⟨t,u,v,z⟩ k=>⟨t,u,v,k _ z⟩⟩
theorem C2:iD X (.type "range") (λxs H Q=>∃i j,xs=[.int i,.int j]/\∀p,H p=none->Q (.ref p) (upd H p (qg p i j 1))):=by
 refine⟨λpins s σ H xs us Q I r h=>?_⟩;obtain⟨i,j,rfl,q⟩:=h;obtain⟨u,u',rfl,⟨t,rfl⟩,⟨t',rfl⟩⟩:=ox r;exact call_range_2 (Fe I q)
theorem rZ:iD X (.type "range") (λxs H Q=>∃i j c,xs=[.int i,.int j,.int c]/\(0<c/\c<1073741824)/\∀p,H p=none->Q (.ref p) (upd H p (qg p i j c))):=by
 refine⟨λpins s σ H xs us Q I r h=>?_⟩;obtain⟨i,j,c,rfl,⟨c0,c1⟩,q⟩:=h;cases r with
 |cons r rr=>
  cases rr with
  |cons r' rr=>
   cases rr with
   |cons r'' rr=>
    cases rr;obtain⟨t,rfl⟩:=r;obtain⟨t',rfl⟩:=r';obtain⟨t'',rfl⟩:=r'';exact call_range_3 (Int.ne_of_gt c0) (Fe I q) (.inl (PyProof.noPylong_small ⋯))
theorem LB{lo st:Int}:∀{n:Nat} {acc:Array Value},ItemsOf (λi v=>∃t,v=.int (lo+i*st) t) acc n->Vals ((List.range n).map λi:Nat=>V.int (lo+i*st)) acc.toList:=by
 intro n acc h;obtain⟨hz,hi⟩:=h;have key:∀(m:Nat),m<=n->Vals ((List.range m).map λi:Nat=>V.int (lo+i*st)) (acc.toList.take m):=by
  intro m;induction m with
  |zero=>intro _;exact .nil
  |succ m ih=>
   intro hm;have hlt:m<acc.toList.length:=by rw[bS];omega
   obtain⟨t,e⟩:=hi m acc.toList[m] (by rw[←cI];exact bW hlt);rw[List.range_succ,bB,b8,bW hlt];exact (ih ⋯).append (.cons ⟨t,e⟩ .nil)
 have:=key n (aQ _)
 rwa [d9 (by rw[bS];omega)] at this
theorem oq(hc:X.calm=true:=by rfl):iD X (.type "list") (λxs H Q=>∃(p:Addr) (lo hi st:Int) (n:Nat),xs=[.ref p]/\H p=some (qg p lo hi st)/\Builtin.Range.small lo hi st=true/\Builtin.Range.rangeSize lo hi st=(n:Int)/\n<=100000/\
  ∀l,H l=none->Q (.ref l) (upd H l (.lst ((List.range n).map λi:Nat=>V.int (lo+i*st))))):=by
 refine⟨λpins s σ H xs us Q I r h=>?_⟩;obtain⟨p,lo,hi,st,n,rfl,hp,hs,hn,hl,q⟩:=h;obtain⟨u,rfl,rx⟩:=jk r;cases rx;obtain⟨⟨t,u,v,e⟩,_,_⟩:=I.hok p _ hp;refine call_list_range (I.ok.hd hc) e hs hn (bL hl (by decide)) λh' tk acc c' kp hS hI=>?_;have hz:((List.range n).map λi:Nat=>V.int (lo+i*st)).length<=sizeLine:=by
  rw[aR,cJ,eT];omega
 exact⟨.ref s.heap.objs.size,_,I.laid (t':=tk) kp (aQ _) (show ObjOk X.prog X.w _ h' _ (.lst _) from ⟨hz,acc.toList,c',LB hI,by simpa using hS⟩),rfl,q _ (I.hok.fresh (aQ _))⟩
def GY:V->List V->Hp->VK->Prop:=λx vs H Q=>∃i,x=.int i/\vs=[]/\Q (.int (Builtin.Int.intBits i:Nat)) H
theorem Zk:nR X "int.bit_length" GY:=by
 intro pins s σ H x xs v us Q I rx rv h;obtain⟨i,rfl,rfl,q⟩:=h;cases rv;obtain⟨t,rfl⟩:=rx;exact call_int_bit_length ⟨.int _,H,I.tok _,⟨()⟩,q⟩
theorem zJ{o:Expr}{to:TE}{apos cpos:Pos}(ho:E X o to)(hbase:attributeBase o "bit_length" X.env (eval o X.env)=eval o X.env:=by rfl)(hline:(apos.endLine==cpos.line)=true:=by rfl):
  E X (.Call (.Attribute o "bit_length" apos) [] [] cpos) (Ha X.K "int" GY to):=⟨Sq PySem.F.plainAttrs_int PySem.F.slot_int_bit_length PySem.F.type_int_bit_length Zk ho.h hbase hline⟩
theorem iZ:gE X (compareOp .Is) (λx y H Q=>y=.non/\Q (.bl (decide (x=.non))) H):=⟨YN⟩
theorem Q6:gE X (compareOp .IsNot) (λx y H Q=>y=.non/\Q (.bl (!decide (x=.non))) H):=⟨Xz⟩
theorem Zm:gE X (compareOp .In) (pf X.K false):=⟨QG⟩
theorem OX:gE X (compareOp .NotIn) (pf X.K true):=⟨VM⟩
theorem sI(z:Int):∀zs:List Int,kS (.int z) (zs.map V.int)=zs.any (λy=>decide (y=z))
 |[]=>rfl
 |y::r=>by
  show (mB (.int y) (.int z)||kS (.int z) (r.map V.int))=(decide (y=z)||r.any _)
  rw[sI z r];congr 1
end
theorem Same.none{H H':Hp}{D:Addr}(s:Same H H')(h:H' D=none):H D=none:=by
 cases e:H D with
 |none=>rfl
 |some o=>exact absurd (h.symm.trans (s _ _ e)) (by simp)
def Keep(H H':Hp):Prop:=∀b o,(∀xs,o≠ .lst xs)->H b=some o->H' b=some o
theorem Same.keep{H H':Hp}(s:Same H H'):Keep H H':=λb o _ h=>s b o h
theorem Keep.trans{H H1 H2:Hp}(a:Keep H H1)(b:Keep H1 H2):Keep H H2:=λc o n h=>b c o n (a c o n h)
theorem vo{H:Hp}{D:Addr}{l l':List V}(h:H D=some (.lst l)):Keep H (upd H D (.lst l')):=λb o n hb=>by
 by_cases e:b=D
 ·subst e;rw[h] at hb;cases hb;exact absurd rfl (n l)
 ·rw[fH e];exact hb
theorem Keep.tup{H H':Hp}(k:Keep H H'){b:Addr}{xs:List V}(h:H b=some (.tup xs)):H' b=some (.tup xs):=k b _ (λ_ z=>nomatch z) h
theorem Keep.ins{H H':Hp}(k:Keep H H'){b C dx:Addr}{fs:List (Str×V)}(h:H b=some (.ins C dx fs)):H' b=some (.ins C dx fs):=k b _ (λ_ z=>nomatch z) h
section
variable{js:List Nat}{σ:St}{tt:TT}{te:TE}{Q:VK}{H1:Hp}
end
section
variable{X:Cx}{K:FG}
theorem gv(hK:X.K=K:=by rfl):oe X (xU K):=hK▸xL
theorem f9(hK:X.K=K:=by rfl):oe X (yr K):=hK▸xT
theorem mP(hK:X.K=K:=by rfl):gE X (compareOp .In) (pf K false):=hK▸Zm
theorem uC(hK:X.K=K:=by rfl):gE X (compareOp .NotIn) (pf K true):=hK▸OX
theorem k6(hK:X.K=K:=by rfl):iD X (.builtin "len") (λxs H Q=>∃p ys,xs=[.ref p]/\(SqL K H p ys∨SqT K H p ys)/\Q (.int ys.length) H):=hK▸yp
theorem oy(hK:X.K=K:=by rfl):rN X (wW K):=hK▸ZA
end
inductive Kd where
 |int | bool | str | non | list | tuple | dict
noncomputable def Kd.nm:Kd->String
 |.int=>"int" | .bool=>"bool" | .str=>"str" | .non=>"NoneType" | .list=>"list" | .tuple=>"tuple" | .dict=>"dict"
noncomputable def Kd.isa:Kd->Kd->Bool
 |.int,.int=>true | .bool,.int=>true | .bool,.bool=>true | .str,.str=>true | .list,.list=>true | .tuple,.tuple=>true | .dict,.dict=>true | _,_=>false
def KindV(K:FG)(H:Hp):V->Kd->Prop
 |.int _,k=>k=.int
 |.bl _,k=>k=.bool
 |.str _,k=>k=.str
 |.non,k=>k=.non
 |.ref a,k=>(k=.list/\∃xs,SqL K H a xs)∨(k=.tuple/\∃xs,SqT K H a xs)∨(k=.dict/\∃kvs,H a=some (.dK kvs))
 |_,_=>False
theorem nJ{X:Cx}:iD X (.builtin "isinstance") (λxs H Q=>∃(v:V) (n k:Kd),xs=[v,.ty n.nm]/\n.nm≠"NoneType"/\KindV X.K H v k/\Q (.bl (Kd.isa k n)) H):=by
 refine⟨λpins s σ H xs us Q I r h=>?_⟩;obtain⟨v,n,k,rfl,hn,hk,q⟩:=h;obtain⟨u,w',rfl,r1,r2⟩:=ox r;cases r2;have fZ:∀tk,EP X pins σ Q (.bool (Kd.isa k n)) {s with toks:=tk}:=λtk=>⟨.bl _,H,I.tok _,rfl,q⟩;have fin0:EP X pins σ Q (.bool (Kd.isa k n)) s:=⟨.bl _,H,I,rfl,q⟩;cases v with
 |int i=>
  obtain⟨t,rfl⟩:=r1;cases (show k=Kd.int from hk);cases n with
  |int=>exact PySem.IsiPair.int_int fin0
  |bool=>exact PySem.IsiPair.int_bool (fZ _)
  |str=>exact PySem.IsiPair.int_str (fZ _)
  |list=>exact PySem.IsiPair.int_list (fZ _)
  |tuple=>exact PySem.IsiPair.int_tuple (fZ _)
  |dict=>exact PySem.IsiPair.int_dict (fZ _)
  |non=>exact absurd rfl hn
 |bl b=>
  cases r1;cases (show k=Kd.bool from hk);cases n with
  |int=>exact PySem.IsiPair.bool_int fin0
  |bool=>exact PySem.IsiPair.bool_bool fin0
  |str=>exact PySem.IsiPair.bool_str (fZ _)
  |list=>exact PySem.IsiPair.bool_list (fZ _)
  |tuple=>exact PySem.IsiPair.bool_tuple (fZ _)
  |dict=>exact PySem.IsiPair.bool_dict (fZ _)
  |non=>exact absurd rfl hn
 |str x=>
  obtain⟨t,rfl⟩:=r1;cases (show k=Kd.str from hk);cases n with
  |int=>exact PySem.IsiPair.str_int (fZ _)
  |bool=>exact PySem.IsiPair.str_bool (fZ _)
  |str=>exact PySem.IsiPair.str_str fin0
  |list=>exact PySem.IsiPair.str_list (fZ _)
  |tuple=>exact PySem.IsiPair.str_tuple (fZ _)
  |dict=>exact PySem.IsiPair.str_dict (fZ _)
  |non=>exact absurd rfl hn
 |non=>
  cases r1;cases (show k=Kd.non from hk);cases n with
  |int=>exact PySem.IsiPair.NoneType_int (fZ _)
  |bool=>exact PySem.IsiPair.NoneType_bool (fZ _)
  |str=>exact PySem.IsiPair.NoneType_str (fZ _)
  |list=>exact PySem.IsiPair.NoneType_list (fZ _)
  |tuple=>exact PySem.IsiPair.NoneType_tuple (fZ _)
  |dict=>exact PySem.IsiPair.NoneType_dict (fZ _)
  |non=>exact absurd rfl hn
 |ref a=>
  cases r1;rcases hk with ⟨rfl,ys,hq⟩ | ⟨rfl,ys,hq⟩ | ⟨rfl,kvs,hq⟩
  ·obtain⟨its,rv,pl,_⟩:=I.list hq;obtain⟨o,ho,hc,_⟩:=pl.isList;cases n with
   |int=>exact PySem.IsiPair.list_int ho hc (fZ _)
   |bool=>exact PySem.IsiPair.list_bool ho hc (fZ _)
   |str=>exact PySem.IsiPair.list_str ho hc (fZ _)
   |list=>exact PySem.IsiPair.list_list ho hc fin0
   |tuple=>exact PySem.IsiPair.list_tuple ho hc (fZ _)
   |dict=>exact PySem.IsiPair.list_dict ho hc (fZ _)
   |non=>exact absurd rfl hn
  ·obtain⟨its,rv,⟨o,ho,hc,_⟩,_⟩:=I.tuple hq;cases n with
   |int=>exact PySem.IsiPair.tuple_int ho hc (fZ _)
   |bool=>exact PySem.IsiPair.tuple_bool ho hc (fZ _)
   |str=>exact PySem.IsiPair.tuple_str ho hc (fZ _)
   |list=>exact PySem.IsiPair.tuple_list ho hc (fZ _)
   |tuple=>exact PySem.IsiPair.tuple_tuple ho hc fin0
   |dict=>exact PySem.IsiPair.tuple_dict ho hc (fZ _)
   |non=>exact absurd rfl hn
  ·obtain⟨_,_,_,_,o,_,_,ho,ex,_⟩:=I.hok a _ hq;cases n with
   |int=>exact PySem.IsiPair.dict_int ho ex.1 (fZ _)
   |bool=>exact PySem.IsiPair.dict_bool ho ex.1 (fZ _)
   |str=>exact PySem.IsiPair.dict_str ho ex.1 (fZ _)
   |list=>exact PySem.IsiPair.dict_list ho ex.1 (fZ _)
   |tuple=>exact PySem.IsiPair.dict_tuple ho ex.1 (fZ _)
   |dict=>exact PySem.IsiPair.dict_dict ho ex.1 fin0
   |non=>exact absurd rfl hn
 |byt b=>exact False.elim hk
 |flt b=>exact False.elim hk
 |ty n=>exact False.elim hk
end L2
namespace L2
open PySem PySem.Spec PyProof.Rows PySem.Builtin PySem.Builtin.Str
noncomputable abbrev Tx(l:List Nat):Str:=⟨l.toArray⟩
theorem Tx_inj{a b:List Nat}:Tx a=Tx b↔a=b:=⟨λh=>by
 have:(Tx a).cps.toList=(Tx b).cps.toList:=by rw[h]
 simpa using this,λh=>by rw[h]⟩
theorem GZ(x:Str):Tx x.cps.toList=x:=by cases x;simp
theorem i9(a:List Nat):(Tx a).length=a.length:=by simp[Str.length]
noncomputable def rF(x:Str):It:=⟨λi _=>i<x.cps.size,λi H v H'=>H'=H/\∃c,x.cps[i]? =some c/\v=.str ⟨#[c]⟩,λi _=>i=x.cps.size⟩
theorem IQ{P:Program}{w:World}{K:FG}{tg:Expr}(x:Str)(t:Tok)(it:Addr):iO P w K tg (rF x) [it] it (λi h=>h.IsStrIter it "str_ascii_iterator" x t i) where
 mem:=by simp
 obj:=λi h st b hb=>by
  have e:b=it:=by simpa using hb
  subst e;obtain⟨o,e,c,d⟩:=st;exact⟨o,e,λv z=>by rw[d] at z;cases z⟩
 keep:=λi h h' st k=>by
  obtain⟨o,e,r⟩:=st;exact⟨o,k it (by simp) o e,r⟩
 item:=by
  intro X hP hw hK hc i pins s σ H E I hf st hg;subst hP hw hK;obtain⟨f0,f1,f2,f3,f4,f5⟩:=hf it (by simp);have hg:i<x.cps.size:=hg;refine wpAny_pyNext_ascii_item st (c:=x.cps[i]) (by simp[hg]) λh' st' sb=>?_;have I1:Inv X pins σ H {s with heap:=h',toks:=s.toks+1}:=I.turned (λb o hb e=>sb.extBut b o hb e) f0 f1 f3 f4 f5;obtain⟨o,e,c,d⟩:=id st';exact⟨(),nz (s:={s with heap:=h',toks:=s.toks+1}) e c d (by decide) ⟨.str ⟨#[x.cps[i]]⟩,H,I1,⟨()⟩,⟨rfl,x.cps[i],by simp[hg],rfl⟩,st',λb hb=>(hf b hb).1⟩⟩
 done:=by
  intro X hP hw hK hc i pins s σ H E I hf st hg;subst hP hw hK;obtain⟨f0,f1,f2,f3,f4,f5⟩:=hf it (by simp);have hg:i=x.cps.size:=hg;exact wpAny_pyNext_ascii_end (I.ok.hd hc) st (by simp[hg]) λh' eb=>⟨rfl,I.turned (t':=s.toks) (λb o hb e=>eb b o hb e) f0 f1 f3 f4 f5⟩
 self:=λ_ _ _ _ _ st h=>wpAny_pyIter_striter_ascii st h
theorem Sk{P:Program}{w:World}{K:FG}{tg:Expr}(x:Str)(t:Tok)(it:Addr):iO P w K tg (rF x) [it] it (λi h=>h.IsStrIter it "str_iterator" x t i) where
 mem:=by simp
 obj:=λi h st b hb=>by
  have e:b=it:=by simpa using hb
  subst e;obtain⟨o,e,c,d⟩:=st;exact⟨o,e,λv z=>by rw[d] at z;cases z⟩
 keep:=λi h h' st k=>by
  obtain⟨o,e,r⟩:=st;exact⟨o,k it (by simp) o e,r⟩
 item:=by
  intro X hP hw hK hc i pins s σ H E I hf st hg;subst hP hw hK;obtain⟨f0,f1,f2,f3,f4,f5⟩:=hf it (by simp);have hg:i<x.cps.size:=hg;refine wpAny_pyNext_wide_item st (c:=x.cps[i]) (by simp[hg]) λh' st' sb=>?_;have I1:Inv X pins σ H {s with heap:=h',toks:=s.toks+1}:=I.turned (λb o hb e=>sb.extBut b o hb e) f0 f1 f3 f4 f5;obtain⟨o,e,c,d⟩:=id st';exact⟨(),nz (s:={s with heap:=h',toks:=s.toks+1}) e c d (by decide) ⟨.str ⟨#[x.cps[i]]⟩,H,I1,⟨()⟩,⟨rfl,x.cps[i],by simp[hg],rfl⟩,st',λb hb=>(hf b hb).1⟩⟩
 done:=by
  intro X hP hw hK hc i pins s σ H E I hf st hg;subst hP hw hK;obtain⟨f0,f1,f2,f3,f4,f5⟩:=hf it (by simp);have hg:i=x.cps.size:=hg;exact wpAny_pyNext_wide_end (I.ok.hd hc) st (by simp[hg]) λh' eb=>⟨rfl,I.turned (t':=s.toks) (λb o hb e=>eb b o hb e) f0 f1 f3 f4 f5⟩
 self:=λ_ _ _ _ _ st h=>wpAny_pyIter_striter_wide st h
section
variable{X:Cx}{tg:Expr}
def AF(tl:TE):TI:=λσ H R=>tl σ H λx H1=>∃z,x=.str z/\R (rF z) H1
theorem iX{l:Expr}{tl:TE}(hl:E X l tl):Il X tg l (AF tl):=by
 refine⟨λpins s σ H R I h=>?_⟩;refine fU (hl.h pins s σ H _ I h) λu s1 ⟨x,H1,I1,r1,q1⟩=>?_;obtain⟨z,rfl,q⟩:=q1;obtain⟨t,rfl⟩:=r1;have fp:∀b∈[s1.heap.objs.size],j4 X pins H1 b:=λb hb=>by
  have e:b=s1.heap.objs.size:=by simpa using hb
  subst e;exact I1.fpOk (aQ _) (I1.hok.fresh (aQ _))
 cases ha:z.cps.all (·<128)
 ·exact wpAny_pyIter_wide ha ⟨s1.heap.objs.size,[s1.heap.objs.size],_,_,H1,rfl,I1.kept (t':=s1.toks) λb o e=>aU _ e,Sk z t _,⟨_,a9 _ rfl,rfl,rfl⟩,fp,q⟩
 ·exact wpAny_pyIter_ascii ha ⟨s1.heap.objs.size,[s1.heap.objs.size],_,_,H1,rfl,I1.kept (t':=s1.toks) λb o e=>aU _ e,IQ z t _,⟨_,a9 _ rfl,rfl,rfl⟩,fp,q⟩
variable{js:List Nat}{σ:St}{tt:TT}{te:TE}{Q:VK}{H1:Hp}
theorem Yq{xs:List Nat}(R:Nat->List V->Prop)(hn:xs.length<=sizeLine)(h0:R 0 [])
  (hs:∀(i:Nat) (c:Nat) (l:List V) (D:Addr) (H2:Hp) (E:V->Hp->Prop) (F:Hp->Prop),xs[i]? =some c->R i l->H1 D=none->Same H1 H2->H2 D=some (.lst l)->(∀y H5,Same H2 H5->R (i+1) (l++[y])->E y H5)->(∀H4,Same H2 H4->R (i+1) l->F H4)->
   tt (some (.str (Tx [c]))::iN js σ) H2 λb H4=>if b=true then te (some (.str (Tx [c]))::iN js σ) H4 E else F H4)
  (hd:∀(D:Addr) (H2:Hp) (l:List V),R xs.length l->H1 D=none->Same H1 H2->H2 D=some (.lst l)->Q (.ref D) H2):pR (rF (Tx xs)) js σ tt te Q H1:=by
 intro D hD;have hz:(Tx xs).cps.size=xs.length:=by simp
 refine⟨λi m H2=>m=xs.length-i/\i<=xs.length/\Same H1 H2/\∃l,H2 D=some (.lst l)/\l.length<=i/\R i l,⟨xs.length,by simp,bM _,fj hD _,[],fh,aQ _,h0⟩,?_⟩;rintro i m H2 ⟨rfl,hi,s2,l,h2,hll,hR⟩;by_cases hlt:i<xs.length
 ·refine .inr ⟨show i<(Tx xs).cps.size by rw[hz];exact hlt,λv H3 y=>?_⟩;obtain⟨e,c,ec,ev⟩:=y;subst e ev;refine hs i c l D _ _ _ (by simpa using ec) hR hD s2 h2 (λz H5 s5 r5=>?_) (λH4 s4 r4=>?_)
  ·refine⟨l,s5 _ _ h2,d8 hll (bA hlt hn),xs.length-(i+1),⋯,rfl,hlt,λb o hb=>?_,l++[z],fh,by rw[aY,bX];omega,r5⟩;rw[fH (gU hb hD)];exact s5 _ _ (s2 _ _ hb)
  ·exact⟨xs.length-(i+1),⋯,rfl,hlt,s2.trans s4,l,s4 _ _ h2,⋯,r4⟩
 ·have e:i=xs.length:=⋯;subst e;exact .inl ⟨show xs.length=(Tx xs).cps.size by rw[hz],hd D H2 l hR hD s2 h2⟩
end
section
variable{X:Cx}
theorem WP{prog:Program}{w:World}{A:Around}{its:Array Value}{bs:List Bool}(r:Vals (bs.map V.bl) its.toList):TruthOf prog w A (λi v=>its[i]? =some v) (λi=>bs.getD i false):=by
 intro i v s Q E hv hq;have hv':its.toList[i]? =some v:=by rw[cI];exact hv
 have hi:i<bs.length:=by
  have h1:=r.length;rw[aR] at h1;rcases cL i its.toList.length with z | z
  ·omega
  ·rw[eC z] at hv';cases hv'
 obtain⟨u,hu,ru⟩:=r.get (i:=i) (x:=V.bl bs[i]) (by rw[bC,bW hi];rfl);rw[hv'] at hu;cases hu;cases ru;have e:bs.getD i false=bs[i]:=by simp[List.getD,bW hi]
 have hq:Q (bs.getD i false) s:=hq;rw[e] at hq;exact fF hq
theorem Ig(bs:List Bool):(List.range bs.length).all (λi=>bs.getD i false)=bs.all id:=by
 rw[c8,bV,bV];refine⟨λh b hb=>?_,λh i hi=>?_⟩
 ·obtain⟨i,hi,e⟩:=List.getElem_of_mem hb;have:=h i (cT.mpr hi);rw[show bs.getD i false=bs[i] by simp[List.getD,bW hi],e] at this;exact this
 ·have hi:=cT.mp hi;rw[show bs.getD i false=bs[i] by simp[List.getD,bW hi]];exact h _ (List.getElem_mem hi)
theorem ui(hc:X.calm=true:=by rfl):iD X (.builtin "all") (λxs H Q=>∃(p:Addr) (bs:List Bool),xs=[.ref p]/\SqL X.K H p (bs.map V.bl)/\Q (.bl (bs.all id)) H):=by
 refine⟨λpins s σ H xs us Q I r h=>?_⟩;obtain⟨p,bs,rfl,hq,q⟩:=h;obtain⟨u,rfl,r1⟩:=jk r;cases r1;obtain⟨its,rv,pl,hz⟩:=I.list hq;have hne:p≠s.heap.objs.size:=by
  obtain⟨o,ho,_⟩:=pl.isList;exact aW (aV ho)
 refine call_all_walk (wpAny_pyIter_list pl.isList ⟨s.heap.objs.size,[s.heap.objs.size,p],[s.heap.objs.size],its.toArray.size,(λi v=>its.toArray[i]? =some v),(λi h=>h.IsListIter s.heap.objs.size p i/\h.IsList p its.toArray),(λi=>bs.getD i false),rfl,Walks.list (prog:=X.prog) (w:=X.w) (A:=X.A.in1) (I.ok.hd hc) _ p hne its.toArray,⟨⟨_,a9 _ rfl,rfl,rfl⟩,pl.isList.push _⟩,WP (by simpa using rv),λh' tk hk=>?_⟩)
 have hl:=rv.length;rw[aR] at hl;have e:its.toArray.size=bs.length:=by rw[bI];omega
 rw[e,Ig];exact⟨.bl _,H,I.kept λb o eb=>hk b o (by simpa using aW (aV eb)) (aU _ eb),rfl,q⟩
end
end L2
namespace L2
open PySem PySem.Spec PyProof.Rows PySem.Builtin PySem.Builtin.Str
noncomputable def fO(c:Nat):List Nat->List (List Nat)
 |[]=>[[]]
 |x::r=>if x=c then []::fO c r else match fO c r with
  |h::t=>(x::h)::t
  |[]=>[[x]]
noncomputable def gK(c:Nat):List (List Nat)->List Nat
 |[]=>[]
 |[p]=>p
 |p::r=>p++c::gK c r
theorem Vr(c:Nat):∀l,fO c l≠[]
 |[]=>by simp[fO]
 |x::r=>by
  unfold fO;split
  ·simp
  ·split<;>simp
theorem oU(c:Nat):∀(p:List Nat),c∉p->fO c p=[p]
 |[],_=>rfl
 |x::r,h=>by
  have h1:¬x=c:=λe=>h (by simp[e]);have h2:=oU c r λe=>h (by simp[e]);unfold fO;rw[if_neg h1,h2]
theorem qX(c:Nat):∀(p r:List Nat),c∉p->fO c (p++c::r)=p::fO c r
 |[],r,_=>by
  show fO c (c::r)=_;unfold fO;rw[if_pos rfl];cases r<;>rfl
 |x::q,r,h=>by
  have h1:¬x=c:=λe=>h (by simp[e]);have h2:=qX c q r λe=>h (by simp[e]);show fO c (x::(q++c::r))=_;rw[fO,if_neg h1,h2]
theorem qh(c:Nat):∀(ps:List (List Nat)),ps≠[]->(∀p∈ps,c∉p)->fO c (gK c ps)=ps
 |[],h,_=>absurd rfl h
 |[p],_,h=>oU c p (h p (by simp))
 |p::q::r,_,h=>by
  show fO c (p++c::gK c (q::r))=_;rw[qX c p _ (h p (by simp)),qh c (q::r) (by simp) λz hz=>h z (bG _ hz)]
theorem Ay(c:Nat):∀ps:List Str,(Str.join (Tx [c]) ps).cps.toList=gK c (ps.map (·.cps.toList))
 |[]=>rfl
 |[p]=>rfl
 |p::q::r=>by
  have ih:=Ay c (q::r);show (p++Tx [c]++Str.join (Tx [c]) (q::r)).cps.toList=p.cps.toList++c::gK c ((q::r).map (·.cps.toList));rw[←ih];show ((p.cps++ #[c])++(Str.join (Tx [c]) (q::r)).cps).toList=_;simp
theorem LZ(x y:Str)(h:Txt.split x y=[]):False:=by
 unfold Txt.split at h;split at h
 ·cases h
 ·split at h
  ·cases h
  ·have e:=congrArg List.length h;rw[length_partsBetween] at e;simp at e
theorem P2(l:List Nat)(c:Nat):(Txt.split (Tx l) (Tx [c])).map (·.cps.toList)=fO c l:=by
 have h1:=StrLaws.join_split (Tx l) (Tx [c]);have h2:=StrLaws.split_free (Tx l) c;have h3:=Ay c (Txt.split (Tx l) (Tx [c]));rw[h1] at h3;have e:gK c ((Txt.split (Tx l) (Tx [c])).map (·.cps.toList))=l:=by rw[←h3]
 rw[←qh c ((Txt.split (Tx l) (Tx [c])).map (·.cps.toList)) (λz=>LZ _ _ (List.map_eq_nil_iff.mp z)) ?_,e];intro p hp;obtain⟨z,hz,rfl⟩:=bD.mp hp;exact h2 z hz
theorem XW(l:List Nat)(c:Nat):Txt.split (Tx l) (Tx [c])=(fO c l).map Tx:=by
 rw[←P2,bY];have:∀ps:List Str,ps=ps.map ((λw:List Nat=>Tx w) ∘ λx=>x.cps.toList):=λps=>by
  induction ps with
  |nil=>rfl
  |cons a r ih=>rw[bH,←ih];simp
 exact this _
theorem Cr:∀l:List (Str×Tok),Vals (l.map λp=>V.str p.1) (strValues l)
 |[]=>.nil
 |p::r=>.cons ⟨p.2,rfl⟩ (Cr r)
section
variable{prog:Program}{w:World}{A:Around}{E:Value->Shared->Prop}{s:Shared}{x y:Str}{t u:Tok}{Q:Value->Shared->Prop}
theorem Tt(hy:(y.length==0)=false)(hsz:x.length+2<=sizeLine)
  (h:∀l k,l.map (·.1)=Txt.split x y->Q (.ref s.heap.objs.size) {s with heap:=s.heap.push {cls:=.type "list",data:=.seq (strValues l).toArray},toks:=k}):
  wpAny (model prog w) A (call (.builtin "str.split") [.str x t,.str y u]) Q E s:=by
 have hn:(partsBetween x (occurrences x y 0 x.length (x.length+1)) y.length).length<=sizeLine:=by
  have e1:=StrLaws.occ_length_le x y 0 x.length (x.length+1);rw[length_partsBetween];omega
 cases h1:(decide (x.length<y.length)||decide (strKind x<strKind y))
 ·cases hf:(occurrences x y 0 x.length (x.length+1)).isEmpty
  ·refine call_meets F.slot_str_split (typeIs_str _ _ _) F.entry_str_split (F.args_str_split_2 _ _) (meets_str_split_sep x y t u h1 hy hf ⋯ hn) ?_;show wants Q E _ {s with toks:=_,heap:=s.heap.push {cls:=.type "list",data:=.seq (strsFrom s.toks (partsBetween x (occurrences x y 0 x.length (x.length+1)) y.length)).toArray} };rw[strsFrom_eq];exact h (numbered s.toks _) _ ((numbered_texts _ _).trans ((if_neg (ne_true_of_eq_false h1)).trans (if_neg (ne_true_of_eq_false hf))).symm)
  ·exact call_meets F.slot_str_split (typeIs_str _ _ _) F.entry_str_split (F.args_str_split_2 _ _) (meets_str_split_not_found x y t u h1 hy hf)
    (h [(x,t)] s.toks ((if_neg (ne_true_of_eq_false h1)).trans (if_pos hf)).symm)
 ·exact call_meets F.slot_str_split (typeIs_str _ _ _) F.entry_str_split (F.args_str_split_2 _ _) (meets_str_split_cannot_occur x y t u h1)
   (h [(x,t)] s.toks (if_pos h1).symm)
end
theorem qC(c:Nat):∀l,(fO c l).length<=l.length+1
 |[]=>by simp[fO]
 |x::r=>by
  have ih:=qC c r;unfold fO;split
  ·simp;omega
  ·split
   ·rename_i e;rw[e] at ih;simp at ih ⊢;omega
   ·simp
section
variable{X:Cx}
def BG:V->List V->Hp->VK->Prop:=λx vs H Q=>∃(l:List Nat) (c:Nat),x=.str (Tx l)/\vs=[.str (Tx [c])]/\l.length+2<=sizeLine/\∀p,H p=none->Q (.ref p) (upd H p (.lst ((fO c l).map λq=>V.str (Tx q))))
theorem QZ:nR X "str.split" BG:=by
 intro pins s σ H x xs v us Q I rx rv h;obtain⟨l,c,rfl,rfl,hz,q⟩:=h;obtain⟨u,rfl,t',rfl⟩:=jk rv;obtain⟨t,rfl⟩:=rx;refine Tt (by rfl) (by rw[i9];exact hz) λps k e=>?_;have e2:ps.map (λp=>V.str p.1)=(fO c l).map λq=>V.str (Tx q):=by
  have:=congrArg (List.map V.str) e;rw[XW,bY,bY] at this;exact this
 have hl:((fO c l).map λq=>V.str (Tx q)).length<=sizeLine:=by
  have:=qC c l;rw[aR];omega
 refine⟨.ref s.heap.objs.size,upd H s.heap.objs.size (.lst ((fO c l).map λq=>V.str (Tx q))),I.laid (t':=k) (λb u e=>aU _ e) (aQ _) ?_,rfl,q _ (I.hok.fresh (aQ _))⟩;exact⟨hl,strValues ps,0,by rw[←e2];exact Cr ps,a9 _ rfl⟩
theorem oS{o e:Expr}{to te:TE}{apos cpos:Pos}(ho:E X o to)(he:E X e te)(hbase:attributeBase o "split" X.env (eval o X.env)=eval o X.env:=by rfl)
  (hfew:((backTo cpos (starEach [e] X.env)).all (λx=> !x.1)&&(backToKw cpos (keywordEach [] X.env)).all (λx=>x.1.isSome)&&decide (([e]:List Expr).length+([]:List Keyword).length+(if ([]:List Keyword).isEmpty then 0 else 1)<30))=true:=by rfl)
  (hline:(apos.endLine==cpos.line)=true:=by rfl) (hs:starEach [e] X.env=(false,eval e X.env)::starEach [] X.env:=by rfl) (hplain:(backTo cpos (starEach [] X.env)).any (·.1)=false:=by rfl):
  E X (.Call (.Attribute o "split" apos) [e] [] cpos) (oI X.K "str" BG to (jr te jQ)):=
 ⟨pU PySem.F.plainAttrs_str PySem.F.slot_str_split PySem.F.type_str_split QZ ho.h (mN he.h mO hs) hbase hfew hline hs hplain⟩
theorem yn:gE X (compareOp .In) (λx y H Q=>∃(c:Nat) (l:List Nat),x=.str (Tx [c])/\y=.str (Tx l)/\Q (.bl (decide (c∈l))) H):=by
 refine⟨λpins s σ H x y v u Q I rx ry h=>?_⟩;obtain⟨c,l,rfl,rfl,q⟩:=h;refine Ze pins s σ H _ _ v u Q I rx ry ⟨(()),?_⟩;rw[show (!(occurrences (Tx l) (Tx [c]) 0 (Tx l).length 1).isEmpty)=decide (c∈(Tx l).cps.toList) from StrLaws.found_one (Tx l) c];exact q
theorem Ab:iD X (.builtin "len") (λxs H Q=>∃l:List Nat,xs=[.str (Tx l)]/\l.length<=sizeLine/\Q (.int l.length) H):=by
 refine⟨λpins s σ H xs us Q I r h=>?_⟩;obtain⟨l,rfl,hz,q⟩:=h;refine RO pins s σ H _ us Q I r ⟨Tx l,rfl,by rw[i9];exact hz,?_⟩;rw[i9];exact q
theorem jI:gE X (binaryOp .Add) (λx y H Q=>∃a b:List Nat,x=.str (Tx a)/\y=.str (Tx b)/\a.length+b.length<=sizeLine/\Q (.str (Tx (a++b))) H):=by
 refine⟨λpins s σ H x y v u Q I rx ry h=>?_⟩;obtain⟨a,b,rfl,rfl,hz,q⟩:=h;refine QX pins s σ H _ _ v u Q I rx ry ⟨(()),by rw[i9,i9];exact hz,?_⟩;have e:Tx a++Tx b=Tx (a++b):=by show Str.mk _=Str.mk _;simp
 rw[e];exact q
theorem xX:oe X (λx y H Q=>∃(l:List Nat) (i:Int) (c:Nat),x=.str (Tx l)/\y=.int i/\l.length<=sizeLine/\jb l i=some c/\Q (.str (Tx [c])) H):=by
 refine⟨λvalue slice pins s σ H x y v u Q I rx ry h hs=>?_⟩;obtain⟨l,i,c,rfl,rfl,hz,ha,q⟩:=h;exact Ve value slice pins s σ H _ _ v u Q I rx ry ⟨Tx l,i,c,rfl,rfl,by rw[i9];exact hz,by simpa using ha,q⟩ hs
end
end L2
namespace L2
open PySem PySem.Spec PyProof.Rows PySem.Builtin PySem.Builtin.Str
section
variable{X:Cx}{pins:List (Addr×Obj)}{σ:St}{H:Hp}{s:Shared}{h':Heap}
theorem Inv.turnT{ch:List Addr}{T:Addr}{o:HO}{t':Nat}(I:Inv X pins σ H s)(k:∀b u,b∉ch->s.heap.get? b=some u->h'.get? b=some u)(hch:∀b∈ch,j4 X pins H b)(hT:s.heap.objs.size<=T)(new:ObjOk X.prog X.w (upd H T o) h' T o):
  Inv X pins σ (upd H T o) {s with heap:=h',toks:=t'}:=by
 have hn:=I.hok.fresh hT;have nit:∀b u,H b=some u->b∉ch:=λb u e z=>by rw[(hch b z).1] at e;cases e
 refine I.step (g':=s.gens) (d':=s.drawn) (ch:=ch) (λb hb=>?_) (λb u _ _ hc e _=>k b u hc e) (λb u _ _ hc e _=>⟨u.slots,k b u hc e⟩) (λb u _ e n=>?_)
  (λb u hc e=>⟨u,k b u hc e⟩) (λb xs e=>by rw[fH (gU e hn)];exact e) (λb u xs e=>by rw[fH (gU e hn)];exact e) (λb ps e=>⟨#[],by rw[fH (gU e hn),e];simp⟩) (λm hm=>?_) (λb u e=>?_) I.bare
 ·obtain⟨f0,f1,f2,f3,f4,f5⟩:=hch b hb;exact⟨f3,f1,f4,f5⟩
 ·rw[fH (aW (bA (aV e) hT))];exact n
 ·obtain⟨ob,es,ep,ho,r⟩:=hm;exact⟨ob,es,ep,k _ ob (λz=>(hch _ z).2.1 rfl) ho,r⟩
 ·by_cases hb:b=T
  ·subst hb;rw[fh] at e;cases e;exact new
  ·rw[fH hb] at e;refine (I.hok b u e).stay (λc v hc q=>k c v ?_ q) (λc q=>by rw[fH (gU q hn)];exact q) λc xs q=>by rw[fH (gU q hn)];exact q
   rcases hc with z | z
   ·rw[z];exact nit b u e
   ·exact nit c _ z
theorem Inv.turnN{ch:List Addr}{t':Nat}(I:Inv X pins σ H s)(k:∀b u,b∉ch->s.heap.get? b=some u->h'.get? b=some u)(hch:∀b∈ch,j4 X pins H b):Inv X pins σ H {s with heap:=h',toks:=t'}:=by
 have nit:∀b u,H b=some u->b∉ch:=λb u e z=>by rw[(hch b z).1] at e;cases e
 refine I.step (g':=s.gens) (d':=s.drawn) (ch:=ch) (λb hb=>?_) (λb u _ _ hc e _=>k b u hc e) (λb u _ _ hc e _=>⟨u.slots,k b u hc e⟩) (λb u _ e n=>n)
  (λb u hc e=>⟨u,k b u hc e⟩) (λb xs e=>e) (λb u xs e=>e) (λb ps e=>⟨#[],by rw[e];simp⟩) (λm hm=>?_) (λb u e=>?_) I.bare
 ·obtain⟨f0,f1,f2,f3,f4,f5⟩:=hch b hb;exact⟨f3,f1,f4,f5⟩
 ·obtain⟨ob,es,ep,ho,r⟩:=hm;exact⟨ob,es,ep,k _ ob (λz=>(hch _ z).2.1 rfl) ho,r⟩
 ·refine (I.hok b u e).stay (λc v hc q=>k c v ?_ q) (λc q=>q) λc xs q=>q;rcases hc with z | z
  ·rw[z];exact nit b u e
  ·exact nit c _ z
end
noncomputable def nr(K:FG)(a:Addr):It:=
 ⟨λi H=>∃xs x,SqL K H a xs/\xs[i]? =some x,λi H v H'=>∃T,v=.ref T/\H T=none/\∀xs,SqL K H a xs->∃x,xs[i]? =some x/\H'=upd H T (.tup [.int i,x]),λi H=>∃xs,SqL K H a xs/\xs.length=i⟩
theorem N6{P:Program}{w:World}{K:FG}{es:List Expr}{kk:Nat}{pos:Pos}(a e it:Addr)(hne:e≠it):iO P w K (.Tuple es kk pos) (nr K a) [e,it] e (λi h=>(∃old,IsEnum h e it i old)/\h.IsListIter it a i) where
 mem:=by simp
 obj:=λi h st b hb=>by
  obtain⟨⟨old,he⟩,o,e1,c,d⟩:=st;rcases aX.mp hb with z | z
  ·subst z;exact⟨_,he,λv q=>by
    have q':Data.fields _=Data.cell v:=q;cases q'⟩
  ·have z:b=it:=by simpa using z
   subst z;exact⟨o,e1,λv q=>by rw[d] at q;cases q⟩
 keep:=λi h h' st k=>by
  obtain⟨⟨old,he⟩,hit⟩:=st;exact⟨⟨old,k e (by simp) _ he⟩,hit.at λo q=>k it (by simp) o q⟩
 item:=by
  intro X hP hw hK hc i pins s σ H E I hf st hg;subst hP hw hK;obtain⟨xs,x,hq,hx⟩:=hg;obtain⟨⟨old,he⟩,hit⟩:=st;obtain⟨its,rv,p,hz⟩:=I.list hq;obtain⟨u,hu,ru⟩:=rv.get hx;refine wpAny_pyNext_enum_item he hit p.isList (x:=u) (by simpa using hu) hne λh1 ho hit1 hT hsz hk=>?_;refine⟨(),wpAny_letOwnedTupleGo_enum ho λh2 he2 sb=>?_⟩;have ele:e<s.heap.objs.size:=aV he;have k2:∀b ob,b∉[e,it]->s.heap.get? b=some ob->h2.get? b=some ob:=λb ob hb q=>by
   have n1:b≠e:=λz=>hb (by simp[z]);have n2:b≠it:=λz=>hb (by simp[z]);exact (sb.2 b n1).trans (hk b ob n1 n2 q)
  have hTn:s.heap.objs.size≠e:=Nat.ne_of_gt ele;have hT2:h2.get? s.heap.objs.size=some {cls:=.type "tuple",data:=.seq #[.int i s.toks,u]}:=(sb.2 _ hTn).trans hT;have hn:=I.hok.fresh (aQ s.heap.objs.size);have I2:Inv X pins σ (upd H s.heap.objs.size (.tup [.int i,x])) {s with heap:=h2,toks:=s.toks+1}:=I.turnT k2 hf (aQ _) ⟨by show 2<=sizeLine;decide,[.int i s.toks,u],.cons ⟨()⟩ (.cons ru .nil),⟨_,hT2,rfl,()⟩⟩
  refine⟨.ref s.heap.objs.size,_,I2,rfl,⟨s.heap.objs.size,rfl,hn,λys hy=>⟨x,by rw[I.list_inj hy hq];exact hx,rfl⟩⟩,⟨⟨_,by simpa using he2⟩,hit1.at λo q=>(sb.2 it (Ne.symm hne)).trans q⟩,λb hb=>?_⟩;have hblt:b<s.heap.objs.size:=by
   rcases aX.mp hb with z | z
   ·rw[z];exact ele
   ·have z:b=it:=by simpa using z
    obtain⟨o,q,_⟩:=hit;rw[z];exact aV q
  rw[fH (aW hblt)];exact (hf b hb).1
 done:=by
  intro X hP hw hK hc i pins s σ H E I hf st hg;subst hP hw hK;obtain⟨xs,hq,hx⟩:=hg;obtain⟨⟨old,he⟩,hit⟩:=st;obtain⟨its,rv,p,hz⟩:=I.list hq;have hl:=rv.length;refine wpAny_pyNext_enum_end (I.ok.hd hc) he hit p.isList (by simp;omega) λh' hk=>⟨rfl,?_⟩;exact I.turnN (ch:=[e,it]) (t':=s.toks) (λb ob hb q=>hk b ob (λz=>hb (by simp[z])) q) hf
 self:=λ_ _ _ _ _ st h=>by
  obtain⟨⟨old,he⟩,_⟩:=st;exact wpAny_pyIter_enum he h
section
variable{X:Cx}{es:List Expr}{kk:Nat}{tpos:Pos}
def uS(K:FG)(tl:TE):TI:=λσ H R=>tl σ H λx H1=>∃a,x=.ref a/\(∃xs,SqL K H1 a xs)/\R (nr K a) H1
theorem XM:bootBuiltins "enumerate"=some (.type "enumerate"):=by decide +kernel
theorem iE{l:Expr}{tl:TE}{p pos:Pos}(hm:X.mg "enumerate"=none)(hl:E X l tl)(hg:Gl X "enumerate":=by rfl)(hs:starEach [l] X.env=[(false,eval l X.env)]:=by rfl):
  Il X (.Tuple es kk tpos) (.Call (.Name "enumerate" p) [l] [] pos) (uS X.K tl):=by
 refine⟨λpins s σ H R I h=>?_⟩;have hA:PA X [l] (jr tl jQ):=mN hl.h mO hs;refine Call_ (nV I hg hm XM (PyProof.Rows.callWith_type1 (fU (hA pos pins s σ H (λvs H1=>match vs with | [x]=>∃a,x=.ref a/\(∃xs,SqL X.K H1 a xs)/\R (nr X.K a) H1 | _=>False) I ?_) λus s1 ⟨vs,H1,I1,r1,q1⟩=>?_) hs rfl))
 ·exact h
 match vs,q1,r1 with
 |[x],q1,r1=>?_
 obtain⟨a,rfl,⟨xs,hq⟩,q⟩:=q1;obtain⟨u,rfl,rx⟩:=jk r1;cases rx;obtain⟨its,rv,pl,hz⟩:=I1.list hq;refine call_enumerate_list pl.isList λh' he hit hsz hk=>?_;refine wpAny_pyIter_enum he ?_;have I2:Inv X pins σ H1 {s1 with heap:=h'}:=I1.kept (t':=s1.toks) hk;have hne:s1.heap.objs.size+1≠s1.heap.objs.size:=Nat.ne_of_gt (dD _);refine⟨s1.heap.objs.size+1,[s1.heap.objs.size+1,s1.heap.objs.size],_,_,H1,rfl,I2,N6 a _ _ hne,⟨⟨_,he⟩,hit⟩,λb hb=>?_,q⟩
 have hb2:s1.heap.objs.size<=b:=by
  rcases aX.mp hb with z | z
  ·rw[z];exact Nat.le_succ _
  ·have z:b=s1.heap.objs.size:=by simpa using z
   rw[z];exact aQ _
 exact I1.fpOk hb2 (I1.hok.fresh hb2)
end
theorem wo{K:FG}{a:Addr}{xs:List V}{g:TG}{tb:TS}{D:iC}{σ:St}{H:Hp}(Pv:Nat->St->Hp->Prop)(h0:Pv 0 σ H)(hl:∀i σ H,i<=xs.length->Pv i σ H->SqL K H a xs)
  (hs:∀i x σ H T,xs[i]? =some x->Pv i σ H->H T=none->g (.ref T) σ (upd H T (.tup [.int i,x])) λσ2 H2=>tb {D with nx:=Pv (i+1),ct:=Pv (i+1),bk:=D.nx} σ2 H2) (hd:∀σ H,Pv xs.length σ H->D.nx σ H):
  ∃W:Nat->Nat->St->Hp->Prop,(∃m,W 0 m σ H)/\∀i m σ H,W i m σ H->
   ((nr K a).stop i H/\D.nx σ H)∨((nr K a).go i H/\∃N:St->Hp->Prop,(∀σ' H',N σ' H'->∃m',m'<m/\W (i+1) m' σ' H')/\∀x H',(nr K a).yld i H x H'->g x σ H' λσ2 H2=>tb {D with nx:=N,ct:=N,bk:=D.nx} σ2 H2):=by
 refine⟨λi m σ H=>m=xs.length-i/\i<=xs.length/\Pv i σ H,⟨xs.length,by simp,bM _,h0⟩,?_⟩;rintro i m σ H ⟨rfl,hi,p⟩;have hq:=hl i σ H hi p;by_cases hlt:i<xs.length
 ·refine .inr ⟨⟨xs,xs[i],hq,by simp[hlt]⟩,Pv (i+1),λσ' H' p'=>⟨xs.length-(i+1),⋯,rfl,hlt,p'⟩,λx H' y=>?_⟩;obtain⟨T,rfl,hT,hy⟩:=y;obtain⟨x,hx,rfl⟩:=hy xs hq;exact hs i x σ H T hx p hT
 ·have e:i=xs.length:=⋯;subst e;exact .inl ⟨⟨xs,hq,rfl⟩,hd σ H p⟩
noncomputable def num(m:Nat):List Nat:=(Nat.toDigits 10 m).map Char.toNat
section
variable{X:Cx}
theorem IZ:iD X (.type "int") (λxs H Q=>∃l:List Nat,xs=[.str (Tx l)]/\PySem.NumText.AllDigits l/\l≠[]/\l.length<=640/\Q (.int ((PySem.NumText.digitsVal l:Nat):Int)) H):=by
 refine⟨λpins s σ H xs us Q I r h=>?_⟩;obtain⟨l,rfl,h1,h2,h3,q⟩:=h;obtain⟨u,rfl,t,rfl⟩:=jk r;refine PySem.W.KIN.call_text (PySem.intText_digits (x:=Tx l) (by simpa using h1) (by simpa using h2) (by rw[i9];omega)) (by rw[i9];exact h3) ?_;exact⟨.int _,H,I.tok _,⟨()⟩,by simpa using q⟩
theorem jD:iD X (.type "str") (λxs H Q=>∃n:Nat,xs=[.int n]/\n<10^500/\Q (.str (Tx (num n))) H):=by
 refine⟨λpins s σ H xs us Q I r h=>?_⟩;obtain⟨n,rfl,hn,q⟩:=h;refine RV pins s σ H _ us Q I r ⟨(n:Int),rfl,?_,?_⟩
 ·by_cases h0:n=0
  ·subst h0;decide
  ·have:n<2^1900:=bA hn (by decide +kernel);have:=(Nat.log2_lt h0).mpr this;show (n:Int).natAbs.log2<1920;simp only[Int.natAbs_natCast];omega
 ·have e:PySem.Str.ofString (toString (n:Int))=Tx (num n):=by
   rw[←GZ (PySem.Str.ofString (toString (n:Int)))];exact congrArg (λz=>Tx z) (PySem.W.KIN.signs_num n)
  show Q (.str (PySem.Str.ofString (toString (n:Int)))) H;rw[e];exact q
end
end L2
namespace L2
open PySem PySem.Spec PyProof.Rows PySem.Builtin PySem.Builtin.Str
theorem jM{b:Bool}{A B:Prop}(e:b=true)(h:A):if b=true then A else B:=by rw[if_pos e];exact h
theorem hX{b:Bool}{A B:Prop}(e:b=false)(h:B):if b=true then A else B:=by rw[if_neg (by rw[e];exact a8)];exact h
theorem C7{b:Bool}{A B:Prop}(h1:b=true->A)(h2:b=false->B):if b=true then A else B:=by
 cases b
 ·exact hX rfl (h2 rfl)
 ·exact jM rfl (h1 rfl)
theorem qL(a b:List Nat):decide (V.str (Tx a)=V.str (Tx b))=decide (a=b):=decide_eq_decide.mpr ⟨λh=>Tx_inj.mp (V.str.inj h),λh=>by rw[h]⟩
section
variable{X:Cx}{pos:Pos}
theorem fW{z:Str}{j}(l:List Nat)(h:z=Tx l:=by decide +kernel):E X (.Constant (.str z) j pos) (tC (.str (Tx l))):=by
 subst h;exact⟨CB⟩
end
noncomputable def lh(c:Nat):Bool:=decide (48<=c)&&decide (c<=57)
noncomputable def rb:List Nat:=[48,49,50,51,52,53,54,55,56,57]
theorem RK:∀c:Nat,c<58->decide (c∈rb)=lh c:=by decide
theorem XB(c:Nat):decide (c∈rb)=lh c:=by
 rcases cL c 58 with h | h
 ·exact RK c h
 ·have n:∀x∈rb,x<58:=by decide
  unfold lh;rw[fB (λz=>absurd (n c z) (Nat.not_lt.mpr h)),fB (show ¬c<=57 from Nat.not_le.mpr h),cM]
noncomputable def mj(l:List Nat):Bool:= !decide (l=[])&&l.all lh
noncomputable def iS(l:List Nat):Bool:=mj l&&(decide (l=[48])|| !decide (l.headD 0=48))
noncomputable def dv(l:List Nat):Int:=((PySem.NumText.digitsVal l:Nat):Int)
noncomputable def gI(lo hi:Int)(l:List Nat):Option Int:=if iS l=true then (if lo<=dv l/\dv l<=hi then some (dv l) else none) else none
noncomputable def oV:Option Int->V
 |none=>.non
 |some n=>.int n
noncomputable def mX(es:List (Option Int)):Option (Int×Int):=match es with
 |[some a]=>some (a,a)
 |[some a,some b]=>if b<a then none else some (a,b)
 |_=>none
noncomputable def iP(lo hi:Int)(l:List Nat):Option (Int×Int):=if l=[42] then some (lo,hi) else mX ((fO 45 l).map (gI lo hi))
@[irreducible] noncomputable def iJ(a b s:Int):List Int:=(List.range (Builtin.Range.rangeSize a (b+1) s).toNat).map λi:Nat=>a+(i:Int)*s
theorem l6(a b s:Int):iJ a b s=(List.range (Builtin.Range.rangeSize a (b+1) s).toNat).map λi:Nat=>a+(i:Int)*s:=by rw[iJ]
noncomputable def kT(a b s:Int):Int:=fu (iJ a b s)
noncomputable def kc(lo hi:Int)(r s:List Nat):Option Int:=
 match iP lo hi r,gI 1 99 s with
 |some (a,b),some st=>some (kT a (if iS r=true then hi else b) st)
 |_,_=>none
noncomputable def gG(lo hi:Int)(l:List Nat):Option Int:=
 match fO 47 l with
 |[r,s]=>kc lo hi r s
 |_=>match iP lo hi l with
  |some (a,b)=>some (kT a b 1)
  |none=>none
theorem VO{l:List Nat}(h:iS l=true):PySem.NumText.AllDigits l/\l≠[]:=by
 unfold iS mj at h;rw[bE,bE] at h;refine⟨λc hc=>?_,λe=>?_⟩
 ·have:=bV.mp h.1.2 c hc;unfold lh at this;rw[bE] at this;exact⟨eX this.1,eX this.2⟩
 ·rw[eY e] at h;exact absurd h.1.1 (by decide)
theorem q9{a b s:Int}(hs:0<s):Builtin.Range.rangeSize a (b+1) s=if a<=b then (b-a) / s+1 else 0:=by
 unfold Builtin.Range.rangeSize;rw[if_pos hs];by_cases c:a<=b
 ·rw[if_pos c,if_pos ⋯,show b+1-a-1=b-a by omega]
 ·rw[if_neg c,if_neg ⋯]
theorem ww{a b s z:Int}(hs:0<s):z∈iJ a b s↔a<=z/\z<=b/\(z-a)%s=0:=by
 rw[l6,bD,q9 hs];refine⟨λ⟨i,hi,e⟩=>?_,λ⟨h1,h2,h3⟩=>?_⟩
 ·subst e;by_cases c:a<=b
  ·rw[if_pos c,cT] at hi;have hq:(i:Int)<=(b-a) / s:=by
    have:0<=(b-a) / s:=Int.ediv_nonneg ⋯ ⋯;omega
   have hm:(i:Int)*s<=(b-a) / s*s:=Int.mul_le_mul_of_nonneg_right hq ⋯;have hd:(b-a) / s*s<=b-a:=Int.ediv_mul_le _ ⋯;have h0:0<=(i:Int)*s:=Int.mul_nonneg ⋯ ⋯;refine⟨⋯,⋯,?_⟩;rw[show a+(i:Int)*s-a=(i:Int)*s by omega];exact Int.mul_emod_left _ _
  ·rw[if_neg c,cT] at hi;exact absurd hi (by simp)
 ·rw[if_pos ⋯];have hd:s*((z-a) / s)+(z-a)%s=z-a:=Int.mul_ediv_add_emod _ _;rw[h3,Int.add_zero] at hd;have h0:0<=(z-a) / s:=Int.ediv_nonneg ⋯ ⋯;have hle:(z-a) / s<=(b-a) / s:=Int.ediv_le_ediv hs ⋯;refine⟨((z-a) / s).toNat,cT.mpr ⋯,?_⟩;rw[bK h0,Int.mul_comm];omega
theorem nS{a b s:Int}(h0:0<=a)(h1:b<=1000)(hs:0<s):(Builtin.Range.rangeSize a (b+1) s).toNat<=1001/\Builtin.Range.rangeSize a (b+1) s=((Builtin.Range.rangeSize a (b+1) s).toNat:Int):=by
 have hz:=Gn (a:=a) (b:=b+1) hs;refine⟨?_,⋯⟩;rw[q9 hs];split
 ·have:(b-a) / s<=b-a:=Int.ediv_le_self _ ⋯;omega
 ·decide
theorem oO{a b s:Int}(h0:0<=a)(ha:a<=1000)(h1: -1<=b)(hb:b<=1000)(hs:0<s)(hs2:s<=1000):Builtin.Range.small a (b+1) s=true:=by
 have hl:=nS h0 hb hs;have hz:=Gn (a:=a) (b:=b+1) hs;unfold Builtin.Range.small;simp only[Builtin.Range.rangeFitsLong,bE,cW,fA,beq_iff_eq];refine⟨⟨⟨⟨?_,?_⟩,?_⟩,?_⟩,.inr ?_⟩
 ·exact⟨⋯,⋯⟩
 ·exact⟨⋯,⋯⟩
 ·exact⟨⋯,⋯⟩
 ·exact⟨⋯,⋯⟩
 ·rw[if_pos hs];simp only[bE,fA];exact⟨⋯,⋯⟩
end L2
namespace L2
open PySem PySem.Spec PyProof.Rows PySem.Builtin PySem.Builtin.Str
theorem Fu{lo hi a:Int}{l:List Nat}(h:gI lo hi l=some a):lo<=a/\a<=hi:=by
 unfold gI at h;split at h
 ·split at h
  ·rename_i c;have:=aZ h;omega
  ·cases h
 ·cases h
theorem EJ{lo hi a b:Int}{l:List Nat}(hle:lo<=hi)(h:iP lo hi l=some (a,b)):(lo<=a/\a<=hi)/\lo<=b/\b<=hi:=by
 unfold iP at h;split at h
 ·cases h;omega
 ·have key:∀es:List (Option Int),(∀e∈es,∀x,e=some x->lo<=x/\x<=hi)->mX es=some (a,b)->(lo<=a/\a<=hi)/\lo<=b/\b<=hi:=by
   intro es hb h
   match es,hb,h with
   |[some x],hb,h=>
    have h:some (x,x)=some (a,b):=h;cases h;have:=hb _ (by simp) a rfl;exact⟨this,this⟩
   |[some x,some y],hb,h=>
    have h:(if y<x then none else some (x,y))=some (a,b):=h;split at h
    ·cases h
    ·cases h;exact⟨hb (some a) (by simp) a rfl,hb (some b) (by simp) b rfl⟩
   |[],_,h=>cases h
   |[none],_,h=>cases h
   |[none,y],_,h=>cases h
   |[some x,none],_,h=>cases h
   |x::y::u::r,_,h=>cases x<;>cases y<;>cases h
  refine key _ (λe he x hx=>?_) h;obtain⟨w,_,rfl⟩:=bD.mp he;exact Fu hx
noncomputable def gz(ms:List Int):Int:=ms.foldl (λa m=>Builtin.bitOr a m) 0
theorem pX(ms:List Int)(m:Int):gz (ms++[m])=Builtin.bitOr (gz ms) m:=by unfold gz;rw[List.foldl_append];rfl
theorem uD:∀(ms:List Int) (a:Int),0<=a->(∀m∈ms,0<=m)->0<=ms.foldl (λa m=>Builtin.bitOr a m) a/\∀i,tb (ms.foldl (λa m=>Builtin.bitOr a m) a) i=(tb a i||ms.any λm=>tb m i)
 |[],a,h,_=>⟨h,λi=>by simp⟩
 |m::ms,a,h,hm=>by
  have hp:=hm m (by simp);obtain⟨h1,h2⟩:=uD ms (Builtin.bitOr a m) (mM h hp) λz hz=>hm z (by simp[hz]);refine⟨h1,λi=>?_⟩;show tb (ms.foldl _ (Builtin.bitOr a m)) i=_;rw[h2 i,pD h hp,bR,Bool.or_assoc]
theorem kQ{ms:List Int}(h:∀m∈ms,0<=m):0<=gz ms:=(uD ms 0 (aS 0) h).1
theorem jW{ms:List Int}(h:∀m∈ms,0<=m)(i:Nat):tb (gz ms) i=ms.any λm=>tb m i:=by
 have:=(uD ms 0 (aS 0) h).2 i;rw[gQ,dG] at this;exact this
noncomputable def lP(lo hi:Int)(l:List Nat):List Int:=(fO 44 l).map λw=>(gG lo hi w).getD 0
def C8(lo hi:Int)(l:List Nat):Prop:=(fO 44 l).length<=40/\∀w∈fO 44 l,(gG lo hi w).isSome=true
theorem oK:∀n:Nat,n<100->iS (num n)=true/\dv (num n)=(n:Int)/\((num n).all λc=>lh c)=true/\(num n).length<=2:=by decide +kernel
theorem kg{n c:Nat}(h:n<100)(hc:lh c=false):c∉num n:=λhm=>by
 have:=bV.mp (oK n h).2.2.1 c hm;rw[hc] at this;cases this
theorem Ql{n:Nat}(h:n<100):num n≠[42]:=λe=>by
 have:=kg h (c:=42) (by decide);rw[e] at this;exact this (by simp)
theorem tD{n:Nat}{lo hi:Int}(h:n<100)(h1:lo<=n)(h2:(n:Int)<=hi):gI lo hi (num n)=some (n:Int):=by
 obtain⟨a,b,_⟩:=oK n h;unfold gI;rw[if_pos a,b,if_pos ⟨h1,h2⟩]
theorem W8{l:List Nat}{c:Nat}(hm:c∈l)(hc:lh c=false):iS l=false:=by
 cases e:iS l
 ·rfl
 ·unfold iS mj at e;rw[bE,bE] at e;have:=bV.mp e.1.2 c hm;rw[hc] at this;cases this
theorem Cw{n:Nat}{lo hi:Int}(h:n<100)(h1:lo<=n)(h2:(n:Int)<=hi):iP lo hi (num n)=some ((n:Int),(n:Int)):=by
 unfold iP;rw[if_neg (Ql h),oU 45 _ (kg h (by decide))];show mX [gI lo hi (num n)]=_;rw[tD h h1 h2];rfl
theorem CD{n m:Nat}{lo hi:Int}(h:n<100)(h':m<100)(h1:lo<=n)(h2:n<=m)(h3:(m:Int)<=hi):iP lo hi (num n++45::num m)=some ((n:Int),(m:Int)):=by
 unfold iP;rw[if_neg (λe=>by (have:45∈num n++45::num m:=(by simp));rw[e] at this;simp at this),qX 45 _ _ (kg h (by decide)),oU 45 _ (kg h' (by decide))];show mX [gI lo hi (num n),gI lo hi (num m)]=_;rw[tD h h1 ⋯,tD h' ⋯ h3];show (if (m:Int)<n then none else some ((n:Int),(m:Int)))=_;rw[if_neg ⋯]
theorem EY{lo hi:Int}:iP lo hi [42]=some (lo,hi):=by unfold iP;rw[if_pos rfl]
theorem uK{lo hi a b:Int}{r:List Nat}(hf:47∉r)(h:iP lo hi r=some (a,b)):gG lo hi r=some (kT a b 1):=by
 unfold gG;rw[oU 47 r hf,h]
theorem yQ{lo hi a b:Int}{r:List Nat}{s:Nat}(hf:47∉r)(h:iP lo hi r=some (a,b))(hs:s<100)(hs1:1<=s):gG lo hi (r++47::num s)=some (kT a (if iS r=true then hi else b) s):=by
 unfold gG;rw[qX 47 r _ hf,oU 47 _ (kg hs (by decide))];show kc lo hi r (num s)=_;unfold kc;rw[h,tD hs ⋯ ⋯]
end L2
namespace L2
open PySem PySem.Spec PyProof.Rows PySem.Builtin PySem.Builtin.Str
theorem GX:∀{ws:List (List Nat)} {vs:List Value},Vals (ws.map λq=>V.str (Tx q)) vs->StrsAre vs (ws.map Tx)
 |[],[],_=>.nil
 |[],_::_,h=>nomatch h
 |_::_,[],h=>nomatch h
 |w::r,v::vs,.cons h t=>by
  obtain⟨k,rfl⟩:=h;exact .cons (Tx w) k (GX t)
theorem Ro(c:Nat)(ws:List (List Nat)):Txt.join (Tx [c]) (ws.map Tx)=Tx (gK c ws):=by
 have e1:Txt.join (Tx [c]) (ws.map Tx)=Str.join (Tx [c]) (ws.map Tx):=StrLaws.glued_eq_join _ _;have e2:=Ay c (ws.map Tx);rw[bY] at e2;have e3:ws.map ((λx:Str=>x.cps.toList) ∘ Tx)=ws:=by
  have:∀l:List (List Nat),l.map ((λx:Str=>x.cps.toList) ∘ Tx)=l:=λl=>by
   induction l with
   |nil=>rfl
   |cons a r ih=>rw[bH,ih];simp
  exact this ws
 rw[e3] at e2;rw[e1,←GZ (Str.join (Tx [c]) (ws.map Tx)),e2]
theorem Fw(c:Nat):∀ws:List (List Nat),(ws.map (·.length)).sum+ws.length=(gK c ws).length+(if ws=[] then 0 else 1)
 |[]=>rfl
 |[p]=>by simp[gK]
 |p::q::r=>by
  have ih:=Fw c (q::r);rw[if_neg (by simp)] at ih ⊢;simp only[bH,List.sum_cons,bZ,gK,aY] at ih ⊢;omega
section
variable{X:Cx}
def Fb(K:FG):V->List V->Hp->VK->Prop:=λx vs H Q=>∃(c:Nat) (p:Addr) (ws:List (List Nat)),x=.str (Tx [c])/\vs=[.ref p]/\SqL K H p (ws.map λq=>V.str (Tx q))/\(gK c ws).length<=1000000/\Q (.str (Tx (gK c ws))) H
theorem NN:nR X "str.join" (Fb X.K):=by
 intro pins s σ H x xs v us Q I rx rv h;obtain⟨c,p,ws,rfl,rfl,hq,hz,q⟩:=h;obtain⟨u,rfl,r1⟩:=jk rv;cases r1;obtain⟨t,rfl⟩:=rx;obtain⟨its,rv2,pl,hz2⟩:=I.list hq;have hj:=Fw c ws;have hw:((ws.map Tx).map (·.length)).sum+(ws.map Tx).length<=1048576:=by
  rw[bY,aR];have e:ws.map ((λx:Str=>x.length) ∘ Tx)=ws.map (·.length):=List.map_congr_left λa _=>i9 a;rw[e];split at hj<;>omega
 refine join_listW pl.isList (ys:=ws.map Tx) (by simpa using GX rv2) (by rw[i9];show 1<=16;decide) hw λt' k=>?_;refine⟨.str (Tx (gK c ws)),H,I.kept (t':=k) λ_ _ e=>e,⟨t',by rw[Ro]⟩,q⟩
theorem rh{o e:Expr}{to te:TE}{apos cpos:Pos}(ho:E X o to)(he:E X e te)(hbase:attributeBase o "join" X.env (eval o X.env)=eval o X.env:=by rfl)
  (hfew:((backTo cpos (starEach [e] X.env)).all (λx=> !x.1)&&(backToKw cpos (keywordEach [] X.env)).all (λx=>x.1.isSome)&&decide (([e]:List Expr).length+([]:List Keyword).length+(if ([]:List Keyword).isEmpty then 0 else 1)<30))=true:=by rfl)
  (hline:(apos.endLine==cpos.line)=true:=by rfl) (hs:starEach [e] X.env=(false,eval e X.env)::starEach [] X.env:=by rfl) (hplain:(backTo cpos (starEach [] X.env)).any (·.1)=false:=by rfl):
  E X (.Call (.Attribute o "join" apos) [e] [] cpos) (oI X.K "str" (Fb X.K) to (jr te jQ)):=
 ⟨pU PySem.F.plainAttrs_str PySem.F.slot_str_join PySem.F.type_str_join NN ho.h (mN he.h mO hs) hbase hfew hline hs hplain⟩
theorem W7:gE X (binaryOp .Add) (λx y H Q=>∃(a b:Addr) (xs ys:List V),x=.ref a/\y=.ref b/\SqL X.K H a xs/\SqL X.K H b ys/\xs.length+ys.length<=sizeLine/\∀p,H p=none->Q (.ref p) (upd H p (.lst (xs++ys)))):=by
 refine⟨λpins s σ H x y v u Q I rx ry h=>?_⟩;obtain⟨a,b,xs,ys,rfl,rfl,ha,hb,hz,q⟩:=h;cases rx;cases ry;obtain⟨i1,r1,p1,z1⟩:=I.list ha;obtain⟨i2,r2,p2,z2⟩:=I.list hb;obtain⟨⟨cls,dd,data,sl⟩,ho,hc,n,hd⟩:=p1.isList;obtain⟨⟨cls2,dd2,data2,sl2⟩,ho2,hc2,n2,hd2⟩:=p2.isList;simp only at hc hd hc2 hd2;subst hc hd hc2 hd2;have l1:=r1.length;have l2:=r2.length;refine concat_meets ⟨_,ho,rfl⟩ ⟨_,ho2,rfl⟩ noFill_list_add seq_list_add PySem.F.slot_list_add PySem.F.entry_list_add (PySem.F.args_list_add_2 _ _) (list_addW a b _ _ n n2 dd dd2 sl sl2 (by simp only[bI];omega)) ⟨ho,ho2,?_⟩
 refine⟨.ref s.heap.objs.size,upd H s.heap.objs.size (.lst (xs++ys)),I.laid (t':=s.toks) (λb u e=>aU _ e) (aQ _) ?_,rfl,q _ (I.hok.fresh (aQ _))⟩;exact⟨by rw[aY];exact hz,i1++i2,0,r1.append r2,by simpa using a9 _ rfl⟩
end
def x6(J:It)(k:Nat)(js:List Nat)(g:TG)(σ:St)(tt:TT)(te:TE)(Q:VK)(H1:Hp):Prop:=∀D,H1 D=none->∃W:Nat->Nat->Hp->Prop,(∃m,W 0 m (upd H1 D (.lst [])))/\∀i m H2,W i m H2->
 (J.stop i H2/\Q (.ref D) H2)∨(J.go i H2/\∀v H3,J.yld i H2 v H3->∀τ:St,τ.length=k->g v (τ++iN js σ) H3 λσ2 H3'=>(∃τ':St,τ'.length=k/\σ2=τ'++iN js σ)/\tt σ2 H3' λb H4=>if b=true then
  te σ2 H4 λy H5=>∃ys,H5 D=some (.lst ys)/\ys.length<sizeLine/\∃m',m'<m/\W (i+1) m' (upd H5 D (.lst (ys++[y])))
  else ∃m',m'<m/\W (i+1) m' H4)
def FM(wi:TI)(k:Nat)(js:List Nat)(g:TG)(tt:TT)(te:TE):TE:=λσ H Q=>wi σ H λJ H1=>x6 J k js g σ tt te Q H1
section
variable{X:Cx}{elt iter tg:Expr}{xs:List Str}{y:Str}{py pos spos:Pos}{ifs:List Expr}{scope:Scope}{cl:List (Str×Addr)}{N':List Str}{js:List Nat}{tt:TT}{te:TE}{g:TG}{wi:TI}
theorem KY{pins:List (Addr×Obj)}{σ:St}{H:Hp}{s s4:Shared}{fp:List Addr}{C:Addr}{m4:Str->Option Value}(hcl:jF X scope cl)(hN:js.map (λj=>X.N[j]?)=N'.map some)
  (hk:N'.all (λy=>(X.env.kindOf y==some .cell)||(X.env.kindOf y==some .free))=true) (hf:N'.all (λy=>scope.names.lookup y==some .free)=true)
  (I:Inv X pins σ H s) (hfp:∀b∈fp,j4 X pins H b/\b<s.heap.objs.size) (hC:C=s.heap.objs.size) (ho:s4.os=s.os) (hg:s4.gens=s.gens) (hkeep:∀b o,s.heap.get? b=some o->s4.heap.get? b=some o) (hn:s4.heap.Ns C m4):
  Inv (iu X (xs++N') scope cl C fp pins s H) [] (List.replicate xs.length none++iN js σ) H s4:=by
 have hne:∀b o,s.heap.get? b=some o->b≠C:=λb o e=>by rw[hC];exact aW (aV e)
 refine⟨⟨I.ok.mod,hcl.kind,I.ok.glob,I.ok.blt,Nat.le_of_eq hC.symm,λy z c h1 h2=>I.ok.inj y z c (hcl.sub y c h1) (hcl.sub z c h2),λy hy=>hcl.has y (Qj (λz=>hcl.nocell _ (PySem.mem_of_lookup z) rfl) (by rw[←yv];exact hy)),λy c h _=>(nomatch h),I.ok.hd,I.ok.frames,.inl rfl,λb hb=>⟨?_,λy c e=>(hfp b hb).1.2.2.2.2.1 y c (hcl.sub y c e)⟩,
  I.bs,bL I.ok.bsz I.sz,λb o e hb=>?_,λb hb hz=>?_,I.stack,I.stkFree⟩,ho,by rw[hg];exact I.bare,Un.kept hkeep,⟨m4,hn,λi y v h1 h2 h3=>?_⟩,λy c e=>?_,?_,λy c e=>I.freeC y c (hcl.sub y c e),λp hp=>?_,I.hok.kept hkeep,?_⟩
 ·rw[hC];exact aW (hfp b hb).2
 ·rcases (hfp b hb).1.2.2.2.1 with z | z
  ·exact I.ok.noex b o e z
  ·exact absurd (bA (aV e) (bL I.ok.bsz z)) (cR _)
 ·rcases aX.mp (I.stkSub b hz) with z | z
  ·exact (hfp b hb).1.2.1 z
  ·exact (hfp b hb).1.2.2.1 z
 ·by_cases hi:i<xs.length
  ·rw[List.getElem?_append_left (by rw[dQ];exact hi),List.getElem?_replicate,if_pos hi] at h2;exact nomatch h2
  ·obtain⟨j0,rfl⟩:∃j0,i=xs.length+j0:=⟨i-xs.length,⋯⟩;have h1:N'[j0]? =some y:=by
    have h1:(xs++N')[xs.length+j0]? =some y:=h1;rw[List.getElem?_append_right (Nat.le_add_right _ _),Nat.add_sub_cancel_left] at h1;exact h1
   have h2:(iN js σ)[j0]? =some (some v):=by rw[List.getElem?_append_right (by rw[dQ];exact Nat.le_add_right _ _),dQ,Nat.add_sub_cancel_left] at h2;exact h2
   generalize j0=i at h1 h2;have hy:y∈N':=bU h1;have q:(js.map (λj=>X.N[j]?))[i]? =some (some y):=by rw[hN,bC,h1];rfl
   rw[bC] at q;cases ej:js[i]? with
   |none=>rw[ej] at q;cases q
   |some j=>
    rw[ej] at q;have q:X.N[j]? =some y:=aZ q;unfold iN at h2;rw[bC,ej] at h2;have h2:(σ[j]?).getD none=some v:=aZ h2;have h2:σ[j]? =some (some v):=by
     cases e:σ[j]? with
     |none=>rw[e] at h2;cases h2
     |some o=>rw[e] at h2;exact congrArg some h2
    have kk:=bV.mp hk y hy;have kk:X.env.kindOf y=some .cell∨X.env.kindOf y=some .free:=by simpa using kk
    have ff:=bV.mp hf y hy;have ff:scope.names.lookup y=some .free:=by simpa using ff
    obtain⟨m,_,hl⟩:=I.loc;obtain⟨u,r,l⟩:=hl j y v q h2 (by rcases kk with z | z;exact .inr (.inl z);exact .inr (.inr z))
    refine⟨u,r,.inr ⟨OP ff,?_⟩⟩;obtain⟨c,hc⟩:=hcl.has y ff;rcases l with ⟨z,_⟩ | ⟨_,c',e',cell⟩
    ·rcases kk with k | k<;>(rw[k] at z;cases z)
    ·rw[hcl.sub y c hc] at e';cases e';exact⟨c,hc,cell.keeps hkeep⟩
 ·obtain⟨v,q⟩:=I.cell y c (hcl.sub y c e);exact⟨v,q.keeps hkeep⟩
 ·show H C=none;rw[hC];exact I.hok.fresh (aQ _)
 ·have hp:p∈X.pn++pins:=by
   have hp:p∈(X.pn++pins)++[]:=hp
   rwa [cU] at hp
  obtain⟨e,n,ne,nf,d⟩:=I.pin p hp;refine⟨hkeep _ _ e,n,hne _ _ e,λz=>?_,d⟩;rcases aX.mp (I.stkSub p.1 z) with z | z
  ·exact ne z
  ·exact nf z
 ·show (List.replicate xs.length none++iN js σ).length=(xs++N').length;rw[aY,aY,dQ];have q:=congrArg List.length hN;rw[aR,aR] at q;unfold iN;rw[aR,q]
theorem Qy{pins:List (Addr×Obj)}{σ σ':St}{H H':Hp}{s s':Shared}{fp:List Addr}{C:Addr}(I:Inv X pins σ H s)(hfp:∀b∈fp,j4 X pins H b)(J:Inv (iu X (xs++N') scope cl C fp pins s H) [] σ' H' s'):Inv X pins σ H' s':=
 I.call' (ch:=fp) J.os J.base J.hok J.bare λb hb=>⟨(hfp b hb).2.2.2.1,(hfp b hb).2.1,(hfp b hb).2.2.2.2.1,(hfp b hb).2.2.2.2.2⟩
theorem zO{pins:List (Addr×Obj)}{σ:St}{H:Hp}{s:Shared}{Q:VK}{RR:Value->Addr->Result->Shared->Prop}{J:It}{fp:List Addr}{it:Addr}{tn:Nat->Heap->Prop}
  (hcl:jF X scope cl) (hnd:(xs++N').Nodup) (hN:js.map (λj=>X.N[j]?)=N'.map some)
  (hk:N'.all (λy=>(X.env.kindOf y==some .cell)||(X.env.kindOf y==some .free))=true) (hf:N'.all (λy=>scope.names.lookup y==some .free)=true) (hc:X.calm=true)
  (hg:∀(C:Addr) (ex:List Addr) (pins:List (Addr×Obj)) (s:Shared) (H:Hp),PG (iu X (xs++N') scope cl C ex pins s H) tg g)
  (ht:∀(C:Addr) (ex:List Addr) (pins:List (Addr×Obj)) (s:Shared) (H:Hp),PF (iu X (xs++N') scope cl C ex pins s H) ifs tt)
  (he:∀(C:Addr) (ex:List Addr) (pins:List (Addr×Obj)) (s:Shared) (H:Hp),PE (iu X (xs++N') scope cl C ex pins s H) elt te)
  (I:Inv X pins σ H s) (T:iO X.prog X.w X.K (tg) J fp it tn) (st:tn 0 s.heap) (hfp:∀b∈fp,j4 X pins H b)
  (q:∀D,H D=none->∃W:Nat->Nat->Hp->Prop,(∃m,W 0 m (upd H D (.lst [])))/\∀i m H2,W i m H2->
   (J.stop i H2/\Q (.ref D) H2)∨(J.go i H2/\∀v H3,J.yld i H2 v H3->∀τ:St,τ.length=xs.length->g v (τ++iN js σ) H3 λσ2 H3'=>(∃τ':St,τ'.length=xs.length/\σ2=τ'++iN js σ)/\tt σ2 H3' λb H4=>if b=true then
    te σ2 H4 λy H5=>∃ys,H5 D=some (.lst ys)/\ys.length<sizeLine/\∃m',m'<m/\W (i+1) m' (upd H5 D (.lst (ys++[y])))
    else ∃m',m'<m/\W (i+1) m' H4))
  (hRR:∀(D C:Addr) (s':Shared) (H':Hp) (m:Str->Option Value),Inv X pins σ H' s'->H' C=none->C≠X.env.locals->X.s₀.heap.objs.size<=C->(∀y c,X.env.cells.lookup y=some c->c≠C)->(∀p∈X.pn++pins,p.1≠C)->s'.heap.Ns C m->Q (.ref D) H'->RR (.ref D) C (.ok .next) s'):
  wpAny (model X.prog X.w) X.A (newList []) (λacc s₃=>wpAny (model X.prog X.w) X.A (newFunctionEnv scope X.env.globals cl [] X.env.qual none .none (some X.env)) (λcenv s₄=>
   codeAny (model X.prog X.w) X.A (.compStart (.ListComp elt [⟨tg,iter,ifs,0⟩] scope pos) 0 (.ref it) acc {cenv with scope:=relabel scope X.env}) (RR acc cenv.locals) s₄) X.xe s₃) X.xe s:=by
 refine eK ?_;have hD:H s.heap.objs.size=none:=I.hok.fresh (aQ _);have I3:Inv X pins σ (upd H s.heap.objs.size (.lst [])) {s with heap:=s.heap.push {cls:=.type "list",dict:=none,data:=.seq ([]:List Value).toArray} }:=I.lnew (its:=[]) (t':=s.toks) .nil (bM _);have hfp3:∀b∈fp,j4 X pins (upd H s.heap.objs.size (.lst [])) b/\b<(s.heap.push {cls:=.type "list",dict:=none,data:=.seq ([]:List Value).toArray}).objs.size:=λb hb=>by
  obtain⟨o,ho,_⟩:=T.obj 0 _ st b hb;have hlt:=aV ho;obtain⟨f0,f1⟩:=hfp b hb;exact⟨⟨by rw[fH (aW hlt)];exact f0,f1⟩,by rw[c9];exact dA hlt⟩
 have st3:tn 0 (s.heap.push {cls:=.type "list",dict:=none,data:=.seq ([]:List Value).toArray}):=T.keep _ _ _ st λb _ o e=>aU _ e;obtain⟨W,⟨m0,w0⟩,turn⟩:=q s.heap.objs.size hD;generalize hs3:({s with heap:=s.heap.push {cls:=.type "list",dict:=none,data:=.seq ([]:List Value).toArray} }:Shared)=s3 at I3 ⊢;have hh3:s.heap.push {cls:=.type "list",dict:=none,data:=.seq ([]:List Value).toArray}=s3.heap:=by rw[←hs3]
 rw[hh3] at hfp3 st3;generalize s.heap.objs.size=D at I3 hfp3 w0 turn hD ⊢;generalize upd H D (.lst [])=H3 at I3 hfp3 w0;refine wpAny_newFunctionEnv hcl.nocell (by intro y hy;simp at hy) (λh₁ hns₁ hsb₁=>?_) hcl.kind;have hkeep:∀b o,s3.heap.get? b=some o->h₁.get? b=some o:=λb o e=>hsb₁.extBut b o (aW (aV e)) (aU _ e);have J4:Inv (iu X (xs++N') scope cl s3.heap.objs.size fp pins s3 H3) [] (List.replicate xs.length none++iN js σ) H3 {s3 with heap:=h₁,toks:=s3.toks+([]:List (Str×Value)).length}:=
  KY hcl hN hk hf I3 hfp3 rfl rfl rfl hkeep hns₁
 have st4:tn 0 h₁:=T.keep _ _ _ st3 λb _ o e=>hkeep b o e;have cell':∀{s':Shared} {σ':St} {H':Hp},Inv (iu X (xs++N') scope cl s3.heap.objs.size fp pins s3 H3) [] σ' H' s'->Q (.ref D) H'->RR (.ref D) s3.heap.objs.size (.ok .next) s':=λ{s' σ' H'} J hq=>by
  obtain⟨m,hn,_⟩:=J.loc;refine hRR D _ s' H' m (Qy I3 (λb hb=>(hfp3 b hb).1) J) J.free (Nat.ne_of_gt I3.lt) I3.sz (λy c e z=>?_) (λp hp z=>?_) hn hq
  ·obtain⟨v,k⟩:=I3.cell y c e;exact absurd k.lt (by rw[z];exact cR _)
  ·exact absurd (aV (I3.pin p hp).1) (by rw[z];exact cR _)
 have fpX:∀{H':Hp},(∀b∈fp,H' b=none)->∀b∈fp,j4 (iu X (xs++N') scope cl s3.heap.objs.size fp pins s3 H3) [] H' b:=λ{H'} hn b hb=>by
  obtain⟨⟨f0,f1,f2,f3,f4,f5⟩,flt⟩:=hfp3 b hb;refine⟨hn b hb,aW flt,λz=>?_,.inl hb,λy c e=>f4 y c (hcl.sub y c e),λp hp=>?_⟩
  ·rcases aX.mp (I3.stkSub b z) with z | z
   ·exact f1 z
   ·exact f2 z
  ·have hp:p∈(X.pn++pins)++[]:=hp;rw[cU] at hp;exact f5 p hp
 have loop:∀s₄:Shared,s₄={s3 with heap:=h₁,toks:=s3.toks+([]:List (Str×Value)).length}->
   codeAny (model X.prog X.w) X.A (.compLoop (.ListComp elt [⟨tg,iter,ifs,0⟩] scope pos) 0 (.ref it) (.ref D) (compEnvC scope cl s3.heap.objs.size X.env)) (RR (.ref D) s3.heap.objs.size) s₄:=by
  rintro s₄ rfl;refine Mz rfl (λn s'=>∃i τ H',τ.length=xs.length/\Inv (iu X (xs++N') scope cl s3.heap.objs.size fp pins s3 H3) [] (τ++iN js σ) H' s'/\tn i s'.heap/\(∀b∈fp,H' b=none)/\W i n H') ?_ m0 ⟨0,List.replicate xs.length none,H3,dQ,J4,st4,λb hb=>(hfp3 b hb).1.1,w0⟩;rintro n s5 ⟨i,τ,H5,hτ,J5,st5,fr5,w5⟩;rcases turn i n H5 w5 with ⟨stop,qn⟩ | ⟨go,step⟩
  ·refine eP (T.done (iu X (xs++N') scope cl s3.heap.objs.size fp pins s3 H3) rfl rfl rfl hc i [] s5 _ H5 (λ_ _=>False) J5 (fpX fr5) st5 stop) (λr s6 ⟨hr,J6⟩=>?_) λ_ _ z=>z.elim;subst hr;exact cell' J6 qn
  ·refine eP (T.item (iu X (xs++N') scope cl s3.heap.objs.size fp pins s3 H3) rfl rfl rfl hc i [] s5 _ H5 (λ_ _=>False) J5 (fpX fr5) st5 go) (λr s6 ⟨u,hr,h6⟩=>?_) λ_ _ z=>z.elim;subst hr;refine eP h6 (λ_ s6' h6'=>?_) λ_ _ z=>z.elim;obtain⟨v,H6,J6,r6,y6,st6,fr6⟩:=h6';clear h6;have J6':=J6.pinned (fpX fr6) (T.obj _ _ st6);show wpAny _ _ (assign tg _ u) _ _ _;refine eP (hg _ _ _ _ _ _ s6' _ H6 v u _ J6' r6 (step v H6 y6 τ hτ)) (λ_ s7 h7=>?_) λ_ _ z=>z.elim
   obtain⟨_,H7,J7,⟨τ',hτ',rfl⟩,q7⟩:=h7;have again:∀{σ8:St} {H8:Hp} {s8:Shared},Inv (iu X (xs++N') scope cl s3.heap.objs.size fp pins s3 H3) ([]++qf fp s6'.heap) σ8 H8 s8->tn (i+1) s8.heap/\∀b∈fp,H8 b=none:=λ{σ8 H8 s8} J8=>by
    refine⟨T.keep _ _ _ st6 λb hb o e=>(J8.pin (b,o) (cD _ (cD _ (sM hb e)))).1,λb hb=>?_⟩;obtain⟨o,e,d⟩:=T.obj _ _ st6 b hb;exact (J8.pin (b,o) (cD _ (cD _ (sM hb e)))).2.1
   refine eP (ht _ _ _ _ _ _ s7 _ H7 _ J7 q7) (λok s8 ⟨H8,J8,q8⟩=>?_) λ_ _ z=>z.elim;cases ok with
   |false=>
    obtain⟨m',hm,w8⟩:=(show ∃m',m'<n/\W (i+1) m' H8 from q8);obtain⟨a1,a2⟩:=again J8;exact⟨m',hm,i+1,τ',H8,hτ',J8.unpinned,a1,a2,w8⟩
   |true=>
    refine eP (he _ _ _ _ _ _ s8 _ H8 _ J8 q8) (λy s9 ⟨z,H9,J9,r9,ys,hys,hlen,m',hm,w9⟩=>?_) λ_ _ z=>z.elim;refine eP (C1 (X:=iu X (xs++N') scope cl s3.heap.objs.size fp pins s3 H3) _ s9 _ H9 (.ref D) [z] (.ref D) [y] (λ_ H10=>H10=upd H9 D (.lst (ys++[z]))) J9 rfl (.cons r9 .nil) ⟨D,ys,z,rfl,rfl,hys,hlen,rfl⟩) (λ_ s10 ⟨_,H10,J10,_,e10⟩=>?_) λ_ _ z=>z.elim;subst e10;obtain⟨a1,a2⟩:=again J10;exact⟨m',hm,i+1,τ',_,hτ',J10.unpinned,a1,a2,w9⟩
 exact codeAny_compStart_list (loop _ rfl) (T.self _ 0 _ _ _ st4 (loop _ rfl))
theorem LW(hcl:jF X scope cl)(hnd:(xs++N').Nodup)(hN:js.map (λj=>X.N[j]?)=N'.map some)
  (hk:N'.all (λy=>(X.env.kindOf y==some .cell)||(X.env.kindOf y==some .free))=true) (hf:N'.all (λy=>scope.names.lookup y==some .free)=true) (hc:X.calm=true)
  (hi:PI X (tg) iter wi)
  (hg:∀(C:Addr) (ex:List Addr) (pins:List (Addr×Obj)) (s:Shared) (H:Hp),PG (iu X (xs++N') scope cl C ex pins s H) tg g)
  (ht:∀(C:Addr) (ex:List Addr) (pins:List (Addr×Obj)) (s:Shared) (H:Hp),PF (iu X (xs++N') scope cl C ex pins s H) ifs tt)
  (he:∀(C:Addr) (ex:List Addr) (pins:List (Addr×Obj)) (s:Shared) (H:Hp),PE (iu X (xs++N') scope cl C ex pins s H) elt te)
  (hs:∀x,foldedSetIterable iter X.env x=pure x:=by intro _;rfl):
  PE X (.ListComp elt [⟨tg,iter,ifs,0⟩] scope pos) (FM wi xs.length js g tt te):=by
 intro pins s σ H Q I h;rw[eval_ListComp];refine wpAny_comprehension_free (use:=none) rfl hs hcl.is hcl.kind hcl.names (fU (hi pins s σ H _ I h) λxv s₁ h₁=>fU h₁ λitv s₂ h₂=>?_);obtain⟨it,fp,tn,J,H2,rfl,I2,T,st,hfp,q⟩:=h₂;refine zO (RR:=λacc C=>compPost (model X.prog X.w) X.A X.xe none (EP X pins σ Q) acc C) hcl hnd hN hk hf hc hg ht he I2 T st hfp q ?_;intro D C s' H' m I' hC0 hCL hCs hCc hCp hn hq
 refine⟨m,hn,λh' sb=>⟨.ref D,H',?_,rfl,hq⟩⟩;exact I'.turned (t':=s'.toks) (λb o hb e=>(sb.2 b hb).trans e) hC0 hCL (.inr hCs) hCc hCp
theorem Sf(xs N':List Str)(js:List Nat)(hi:Il X (tg) iter wi)
  (hg:∀(cl:List (Str×Addr)) (C:Addr) (ex:List Addr) (pins:List (Addr×Obj)) (s:Shared) (H:Hp),Gt (iu X (xs++N') scope cl C ex pins s H) tg g)
  (ht:∀(cl:List (Str×Addr)) (C:Addr) (ex:List Addr) (pins:List (Addr×Obj)) (s:Shared) (H:Hp),Fs (iu X (xs++N') scope cl C ex pins s H) ifs tt)
  (he:∀(cl:List (Str×Addr)) (C:Addr) (ex:List Addr) (pins:List (Addr×Obj)) (s:Shared) (H:Hp),E (iu X (xs++N') scope cl C ex pins s H) elt te)
  (hcl:∃cl,jF X scope cl:=by exact A8 rfl rfl rfl rfl) (hnd:(xs++N').Nodup:=by decide +kernel) (hN:js.map (λj=>X.N[j]?)=N'.map some:=by rfl)
  (hk:N'.all (λy=>(X.env.kindOf y==some .cell)||(X.env.kindOf y==some .free))=true:=by rfl) (hf:N'.all (λy=>scope.names.lookup y==some .free)=true:=by rfl) (hc:X.calm=true:=by rfl)
  (hs:∀x,foldedSetIterable iter X.env x=pure x:=by intro _;rfl):E X (.ListComp elt [⟨tg,iter,ifs,0⟩] scope pos) (FM wi xs.length js g tt te):=by
 obtain⟨cl,hcl⟩:=hcl;exact⟨LW hcl hnd hN hk hf hc hi.h (λC ex pins s H=>(hg cl C ex pins s H).h) (λC ex pins s H=>(ht cl C ex pins s H).h) (λC ex pins s H=>(he cl C ex pins s H).h) hs⟩
variable{σ:St}{Q:VK}{H1:Hp}
end
theorem kO{X:Cx}{pos:Pos}{K:FG}{es:List Expr}{k n:Nat}{t:jx}(h:nZ X es t)(hK:X.K=K:=by rfl)(hc:X.calm=true:=by rfl)(hn:(assignEach es X.env).length=n:=by rfl)(hst:(assignEach es X.env).findIdx? (·.1)=none:=by rfl):Gt X (.Tuple es k pos) (sg K n t):=by
 subst hK;exact OS h hc hn hst
section
variable{X:Cx}
variable{elt iter tg:Expr}{xs:List Str}{y:Str}{py pos spos:Pos}{ifs:List Expr}{scope:Scope}{cl:List (Str×Addr)}{N':List Str}{js:List Nat}{tt:TT}{te:TE}{g:TG}{wi:TI}
end
end L2
namespace L2
open PySem PySem.Spec PyProof.Rows PySem.SeqAt
section
variable{X:Cx}
theorem lE{K:FG}{tg e:Expr}{te:TE}(hl:E X e te)(hK:X.K=K:=by rfl):Il X tg e (AX K te):=by
 subst hK;exact iL hl
variable{M:Model}{A:Around}{E:Value->Shared->Prop}{s:Shared}{f:Obj->Prop}{B:Heap}{env:Env}{outer l:List Env}{L e:Addr}{fl:Value}{Q:Unit->Shared->Prop}
end
theorem ObjOk.at{P:Program}{w:World}{H:Hp}{h:Heap}{a:Addr}{o:HO}(x:ObjOk P w H h a o):∃ob,h.get? a=some ob:=by
 induction o with
 |lst xs=>obtain⟨_,_,_,_,e⟩:=x;exact⟨_,e⟩
 |tup xs=>obtain⟨_,_,_,ob,e,_⟩:=x;exact⟨_,e⟩
 |dK kvs=>obtain⟨_,_,_,_,ob,_,_,e,_⟩:=x;exact⟨_,e⟩
 |dT kvs=>obtain⟨_,_,_,_,ob,_,_,e,_⟩:=x;exact⟨_,e⟩
 |set S n=>obtain⟨ob,_,_,_,e,_⟩:=x;exact⟨_,e⟩
 |ins C dx fs=>obtain⟨_,_,_,e,_⟩:=x;exact⟨_,e⟩
 |own y=>exact x
 |xd fs=>obtain⟨_,⟨ob,_,_,e,_⟩,_⟩:=x;exact⟨_,e⟩
 |rng lo hi=>obtain⟨_,_,_,e⟩:=x;exact⟨_,e⟩
 |frz ob u ih=>exact⟨_,x.1⟩
 |tbl ps=>exact⟨_,x⟩
 |met f y=>exact⟨_,x⟩
 |ext φ=>exact x.2.1
def Ex(C:Addr)(d:Option Addr)(b:Bool)(o:Obj):Prop:=o.cls=.ref C/\o.dict=d/\∃vs,o.data=.fields vs/\(b=true->vs[2]? =some .none)
noncomputable def wc(C:Addr):Value:=.int C 0
noncomputable def cv(C:Addr):Bool->Value
 |true=>.ref C
 |false=>wc C
def Ik(g h:Heap)(H:Hp)(a C:Addr)(d:Option Addr)(b:Bool):Prop:=
 H a=none/\g.get? a=none/\∃(o:Obj) (vs:Array Value) (T:Addr) (oT:Obj) (ts:Array Value),(h.get? a=some o/\o.data=.fields vs/\vs[1]? =some (.ref T)/\Ex C d b o)/\
  (h.get? T=some oT/\oT.data=.fields ts/\ts[3]? =some .none)/\(H T=none/\g.get? T=none)/\T≠a
def XH(P:Program)(w:World):mf:=λouter H s E e s'=>
 ∃a C d b H',e=.ref a/\s'.os=s.os/\AllBare s'.gens/\Un (ki outer) [] H H' s.heap s'.heap/\HOk P w H' s'.heap/\Ik s.heap s'.heap H' a C d b/\E (cv C b) d H'
section
variable{P:Program}{w:World}{K:FG}{mg:Str->Option Value}{base:Heap}{N:List Str}{qual:Str}{scope:Scope}{f:Addr}{cd:Value}{A:Around}{outer:List Env}{s0:Shared}{H0:Hp}{E:XK}
end
noncomputable abbrev BZ:List Value:=[.type "ValueError",.type "Exception",.type "BaseException",.type "object"]
structure Xc(K:FG)(mg:Str->Option Value)(x:Str)(C:Addr):Prop where
 m:mg x=some (.ref C)
 n:PySem.W.nsIn K mainGlobals x=some (some (.ref C))
 q:PySem.W.excIn K C BZ "ValueError.__new__"=true
theorem Mod.top{K:FG}{mg:Str->Option Value}{base:Heap}(m:Mod K mg base)(p:Program):∃loose mb,PySem.W.TopRead p loose mg mb base:=by
 obtain⟨mb,b1,b2⟩:=m.blt;obtain⟨o,es,ep,ho,hd,hk,hf⟩:=id m.glob;refine⟨es.toList.filterMap λe=>match e.key with | .str y _=>some y | _=>none,mb,m.glob,b1,m.nolimit,b2,λx _ hx _ _ _=>?_⟩
 rw[←hf];have none_:es.find? (λe=>e.key.isStr x)=none:=by
  rw[Array.find?_eq_none];intro e he hs;obtain⟨y,t,ek⟩:=hk e he;refine hx (List.mem_filterMap.mpr ⟨e,by simpa using he,?_⟩);rw[ek] at hs ⊢;have:y=x:=by simpa [Value.isStr] using hs
  rw[this]
 show (es.find? λe=>e.key.isStr x).map (·.val)=none;rw[none_];rfl
theorem Xc.own{K:FG}{mg:Str->Option Value}{base:Heap}{x:Str}{C:Addr}(c:Xc K mg x C)(m:Mod K mg base)(p:Program):OwnCls x C BZ "ValueError.__new__" mg base:=by
 obtain⟨loose,mb,T⟩:=m.top p;exact PySem.W.own_of_in m.kin T c.n c.q
section
variable{X:Cx}{E:XK}{x:Str}{C:Addr}{e:Expr}{es:List Expr}{t:TA}{np cpos pos:Pos}
variable{P:Program}{w:World}{K:FG}{mg:Str->Option Value}{base:Heap}{N:List Str}{qual:Str}{scope:Scope}{f:Addr}{cd:Value}{A:Around}{outer:List Env}{s0:Shared}{H0:Hp}
variable{st:Stmt}{ps:List Str}{k:Nat}{sp:Sp}
end
def XP(X:Cx)(pins:List (Addr×Obj))(σ:St)(E:XK)(e:Value)(s':Shared):Prop:=∃s1 H1,Inv X pins σ H1 s1/\XH X.prog X.w X.stack H1 s1 E e s'
noncomputable abbrev TX:=St->Hp->VK->XK->Prop
noncomputable abbrev TB:=iC->St->Hp->XK->Prop
section
variable{X:Cx}{k k':Nat}{ps:List Str}{sp:Sp}{x:Str}{e:Expr}{es:List Expr}{tA:TA}{p pos:Pos}{t:TX}
variable{pins:List (Addr×Obj)}{σ:St}{H:Hp}{s:Shared}
end
noncomputable def xo(a C:Addr)(d:Option Addr)(b:Bool):HO:=.ext λh=>∃o,h.get? a=some o/\Ex C d b o
section
variable{X:Cx}{body suite:List Stmt}{b0:Stmt}{tb:TB}{th:Addr->TS}{cx n:Str}{np hpos pos:Pos}{CF:Addr}
variable{E:XK}{x:Str}{C:Addr}{e:Expr}{es:List Expr}{tA:TA}{cpos p:Pos}{k k':Nat}{ps:List Str}{sp:Sp}
end
def AtC(a C:Addr)(h:Heap):Prop:=∃o vs,h.get? a=some o/\o.cls=.ref C/\o.data=.fields vs
theorem AtC.ty{M:Model}{a C:Addr}{h:Heap}(x:AtC a C h):PySem.W.Looks M h (typeOf (.ref a)) (.ref C):=by
 obtain⟨o,vs,h1,h2,_⟩:=x;exact h2▸(PySem.W.Looks.ld h1).andThen .now
section
open PySem.W
variable{prog:Program}{w:World}{A:Around}{E:Value->Shared->Prop}{s:Shared}{K:FG}{a C:Addr}
open Builtin Builtin.ObjectAttr Builtin.Getset_descriptor in
open Builtin Builtin.ObjectAttr in
variable{X:Cx}{body suite:List Stmt}{b0:Stmt}{tb:TB}{th:Addr->TS}{cx:Str}{np hpos pos:Pos}{CF:Addr}
variable{e:Addr}{d:Option Addr}
variable{env:Env}
end
section
variable{P:Program}{w:World}{K:FG}{mg:Str->Option Value}{base:Heap}{N:List Str}{qual:Str}{scope:Scope}{f:Addr}{cd:Value}{A:Around}{outer:List Env}{s0:Shared}{H0:Hp}{E:XK}
variable{X:Cx}{x:Str}{C a:Addr}{e:Expr}{es:List Expr}{t:TA}{np cpos pos p2:Pos}{j:Nat}
end
def WW:TE:=λ_ H Q=>∀p,H p=none->Q (.ref p) (upd H p (.dK []))
section
variable{X:Cx}{pos:Pos}{o i:Expr}{to ti:TE}
theorem Inv.bigM{pins:List (Addr×Obj)}{σ:St}{H:Hp}{s:Shared}(I:Inv X pins σ H s):sysModules<s.heap.objs.size:=by
 have h:mainGlobals<s.heap.objs.size:=(I.mod.glob.keeps I.bk).lt;exact Nat.lt_trans (by decide) h
theorem NW:E X (.Dict [] [] pos) WW:=⟨λpins s σ H Q I h=>wpAny_Dict_empty ⟨.ref s.heap.objs.size,_,I.laid (a:=s.heap.objs.size) (o:=.dK []) (t':=s.toks) (λ_ _ q=>aU _ q) (aQ _)
 ⟨bM _,beq_eq_false_iff_ne.mpr (Ne.symm (aW I.bigM)),[],.nil,Heap.DictOf.new s.heap⟩,rfl,h _ (I.hok.fresh (aQ _))⟩⟩
theorem Yn(ho:E X o to)(hi:E X i ti)(ha:∀v,assign (.Subscript o i pos) X.env v=(do
   let ov ←holding [v] (eval o X.env)
   let iv ←holding [v,ov] (eval i X.env)
   standAt pos
   holding [v,ov,iv] (setItem ov iv v)
   release [v,ov,iv] []):=by intro _;rfl):Gt X (.Subscript o i pos) (Ca to ti Fc):=⟨K8 ho.h hi.h JX ha⟩
end
theorem KindV.same{K:FG}{H H':Hp}{v:V}{k:Kd}(h:KindV K H v k)(s:Same H H'):KindV K H' v k:=by
 cases v with
 |ref a=>
  rcases h with ⟨e,xs,h⟩ | ⟨e,xs,h⟩ | ⟨e,xs,h⟩
  ·exact .inl ⟨e,xs,s.seq h⟩
  ·refine .inr (.inl ⟨e,xs,?_⟩);rcases h with (h | ⟨o,h⟩) | h
   ·exact .inl (.inl (s _ _ h))
   ·exact .inl (.inr ⟨o,s _ _ h⟩)
   ·exact .inr h
  ·exact .inr (.inr ⟨e,xs,s _ _ h⟩)
 |int i=>exact h
 |bl b=>exact h
 |str x=>exact h
 |non=>exact h
 |byt b=>exact h
 |flt b=>exact h
 |ty n=>exact h
section
variable{X:Cx}
variable{js:List Nat}{σ:St}{tt:TT}{te:TE}{Q:VK}{H1:Hp}
end
noncomputable def jz(l:List Nat)(lo hi:Option Int):List Nat:=(l.drop (HT.sIx l.length 0 lo)).take (HT.sIx l.length l.length hi-HT.sIx l.length 0 lo)
theorem DZ(v:Option Int)(n d:Nat):(match v with | none=>(d:Int) | some i=>max 0 (min (if i<0 then i+(n:Int) else i) (n:Int)))=((HT.sIx n d v:Nat):Int):=by
 cases v with
 |none=>rfl
 |some i=>
  show max 0 (min (if i<0 then i+(n:Int) else i) (n:Int))=(((if i<0 then (i+(n:Int)).toNat else min i.toNat n):Nat):Int);by_cases h:i<0
  ·rw[if_pos h,if_pos h];omega
  ·rw[if_neg h,if_neg h];omega
theorem Br(lo hi:Option Int)(n:Nat):Builtin.Str.strSliceIndices lo hi 1 n=sliceRange ((HT.sIx n 0 lo:Nat):Int) ((HT.sIx n n hi:Nat):Int) 1:=by
 unfold Builtin.Str.strSliceIndices;simp only[show ((1:Int)>0)=True from by simp,if_true];rw[←DZ lo n 0,←DZ hi n n];cases lo<;>cases hi<;>rfl
theorem Fo(a b:Nat):sliceRange (a:Int) (b:Int) 1=(List.range (b-a)).map λk=>a+k:=by
 rcases cL a b with c | c
 ·have up:(a:Int)<b:=⋯;have many:(((b:Int)-a+1-1) / 1).toNat=b-a:=by rw[Int.ediv_one];omega
  have e:∀k:Nat,((a:Int)+1*(k:Int)).toNat=a+k:=λk=>by omega
  simp only[sliceRange,gt_iff_lt,Int.one_pos,if_true,up,many,e]
 ·have no:¬((a:Int)<b):=⋯;have z:b-a=0:=⋯;simp only[sliceRange,gt_iff_lt,Int.one_pos,if_true,no,if_false,z,List.range_zero,List.map_nil];rfl
theorem ZP(l:List Nat)(n a:Nat):((List.range n).map λk=>a+k).filterMap (λi=>(Tx l).cps[i]?)=(l.drop a).take n:=by
 rw[List.filterMap_map];induction n with
 |zero=>rw[List.take_zero];rfl
 |succ n ih=>
  have one:[n].filterMap ((λi=>(Tx l).cps[i]?) ∘ λk=>a+k)=(l[a+n]?).toList:=by
   show List.filterMap _ [n]=_;cases e:l[a+n]? <;>simp[e]
  rw[List.range_succ,eE,ih,one,List.take_add_one,List.getElem?_drop]
theorem V4(l:List Nat)(lo hi:Option Int):(Builtin.Str.strSliceIndices lo hi 1 l.length).filterMap (λi=>(Tx l).cps[i]?)=jz l lo hi:=by
 rw[Br,Fo,ZP];rfl
theorem JO(l:List Nat)(lo hi:Option Int)(h:(Builtin.Str.strSliceIndices lo hi 1 l.length).length=l.length):jz l lo hi=l:=by
 rw[Br,Fo,aR,cJ] at h;have h1:=HT.sIx_le l.length l.length (aQ _) hi;have e1:HT.sIx l.length 0 lo=0∨l.length=0:=⋯;unfold jz;rcases e1 with e | e
 ·rw[e];have:HT.sIx l.length l.length hi=l.length:=⋯;rw[this];simp
 ·have:l=[]:=List.eq_nil_of_length_eq_zero e;subst this;simp
theorem rm(l:List Nat)(lo hi:Option Int):(jz l lo hi).length<=l.length:=by
 unfold jz;rw[dE,dH];omega
section
variable{X:Cx}
def tY:V->Option Int->Option Int->Hp->VK->Prop:=λx lo hi H Q=>∃l:List Nat,x=.str (Tx l)/\l.length<=sizeLine/\Q (.str (Tx (jz l lo hi))) H
theorem zB:rN X tY:=by
 refine⟨λpins s σ H x v vl vu lo hi sl Q I rx hs pl pu h=>?_⟩;obtain⟨l,rfl,hz,q⟩:=h;obtain⟨t,rfl⟩:=rx;refine⟨"str",_,PySem.F.slot_str_getitem.lookup,typeIs_str _ _ _,?_⟩;obtain⟨o,ho,hc,hd⟩:=hs;have fZ:∀(a b:Option (Int×Tok)),o.data=.fields #[partValue a,partValue b,.none]->a.map (·.1)=lo->b.map (·.1)=hi->wpAny (model X.prog X.w) X.A (getItem (.str (Tx l) t) (.ref sl)) (EP X pins σ Q) X.xe s:=λa b hd ea eb=>by
  refine wpAny_getItem_str_slice (l:=a) (u:=b) (st:=none) ⟨o,ho,hc,hd⟩ rfl ?_;have ep:slicePicked (Tx l) a b none=Builtin.Str.strSliceIndices lo hi 1 l.length:=by unfold slicePicked;rw[ea,eb,i9];rfl
  unfold sliceMade;rw[ep];split
  ·next hw=>
   have hw2:(Builtin.Str.strSliceIndices lo hi 1 l.length).length=l.length:=by
    have:=(Bool.and_eq_true_iff.mp hw).2;rw[i9] at this;exact beq_iff_eq.mp this
   show EP X pins σ Q _ s;rw[JO l lo hi hw2] at q;exact⟨.str (Tx l),H,I,⟨t,rfl⟩,q⟩
  ·rw[V4];exact⟨by rw[i9];exact bL (rm l lo hi) hz,⟨.str (Tx (jz l lo hi)),H,I.tok _,⟨()⟩,q⟩⟩
 cases pl with
 |none=>
  cases pu with
  |none=>exact fZ none none hd rfl rfl
  |int j tj=>exact fZ none (some (j,tj)) hd rfl rfl
 |int i ti=>
  cases pu with
  |none=>exact fZ (some (i,ti)) none hd rfl rfl
  |int j tj=>exact fZ (some (i,ti)) (some (j,tj)) hd rfl rfl
theorem PL(m:Nat):num m≠[]:=λe=>Nat.toDigits_ne_nil (List.map_eq_nil_iff.mp e)
variable{prog:Program}{w:World}{A:Around}{E:Value->Shared->Prop}{s:Shared}{I:Addr}{fp wr:List Addr}{G:Array GenState->Array GenState->Prop}{n:Nat}{P:Nat->Value->Prop}{St:Nat->Shared->Prop}
variable{o e:Expr}{to te:TE}{p rpos apos cpos:Pos}
end
theorem mK{X:Cx}{e:Expr}{t u:TE}(h:E X e t)(h':E X e u):E X e (λσ H Q=>t σ H Q∨u σ H Q):=
 ⟨λpins s σ H Q I z=>z.elim (λz=>h.h pins s σ H Q I z) λz=>h'.h pins s σ H Q I z⟩
section
variable{X:Cx}
end
section
variable{κ:Type}[DecidableEq κ]
noncomputable def iB(kvs:List (κ×V))(k:κ):Option V:=(kvs.find? λkv=>decide (kv.1=k)).map (·.2)
noncomputable def jG(kvs:List (κ×V))(k:κ)(v:V):List (κ×V):=
 if (kvs.any λkv=>decide (kv.1=k))=true then kvs.map (λkv=>if kv.1=k then (kv.1,v) else kv) else kvs++[(k,v)]
theorem lC{p:κ×V}{r:List (κ×V)}{k:κ}(e:p.1=k):iB (p::r) k=some p.2:=by simp[iB,dW,e]
theorem lr{p:κ×V}{r:List (κ×V)}{k:κ}(e:¬p.1=k):iB (p::r) k=iB r k:=by simp[iB,dW,e]
theorem rO(k:κ):∀kvs:List (κ×V),(kvs.any λkv=>decide (kv.1=k))=(iB kvs k).isSome
 |[]=>rfl
 |p::r=>by
  rw[bR];by_cases e:p.1=k
  ·simp only[lC e,eY e,Bool.true_or,Option.isSome_some]
  ·rw[lr e,fB e,dG];exact rO k r
theorem CK(k j:κ)(y:V):∀kvs:List (κ×V),iB (kvs.map λkv=>if kv.1=k then (kv.1,y) else kv) j=(iB kvs j).map λx=>if j=k then y else x
 |[]=>rfl
 |p::r=>by
  have ih:=CK k j y r;rw[bH];by_cases h:p.1=k
  ·rw[if_pos h];by_cases e:p.1=j
   ·rw[lC (p:=(p.1,y)) e,lC e,dU,if_pos (e.symm.trans h)]
   ·rw[lr (p:=(p.1,y)) e,lr e,ih]
  ·rw[if_neg h];by_cases e:p.1=j
   ·rw[lC (p:=p) e,lC e,dU,if_neg (λz=>h (e.trans z))]
   ·rw[lr (p:=p) e,lr e,ih]
theorem CI(k j:κ)(y:V):∀kvs:List (κ×V),iB kvs k=none->iB (kvs++[(k,y)]) j=if j=k then some y else iB kvs j
 |[],_=>by
  by_cases e:k=j
  ·rw[if_pos e.symm];exact lC (p:=(k,y)) e
  ·rw[if_neg (λz=>e z.symm)];exact lr (p:=(k,y)) e
 |p::r,hn=>by
  rw[List.cons_append];have hk:¬p.1=k:=λz=>by rw[lC z] at hn;cases hn
  rw[lr hk] at hn;have ih:=CI k j y r hn;by_cases e:p.1=j
  ·rw[lC e,lC e,if_neg (λz=>hk (e.trans z))]
  ·rw[lr e,lr e,ih]
theorem Bj(kvs:List (κ×V))(k j:κ)(y:V):iB (jG kvs k y) j=if j=k then some y else iB kvs j:=by
 unfold jG;by_cases a:(kvs.any λkv=>decide (kv.1=k))=true
 ·rw[if_pos a,CK];rw[rO] at a;by_cases e:j=k
  ·obtain⟨x,hx⟩:=dP.mp a;rw[if_pos e,e,hx,dU,if_pos rfl]
  ·rw[if_neg e];cases iB kvs j with
   |none=>rfl
   |some x=>rw[dU,if_neg e]
 ·rw[if_neg a];refine CI k j y kvs ?_;rw[rO] at a;cases q:iB kvs k with
  |none=>rfl
  |some x=>rw[q] at a;exact (a rfl).elim
theorem wV(kvs:List (κ×V))(k:κ)(v:V):(jG kvs k v).length<=kvs.length+1:=by
 unfold jG;split
 ·rw[aR];omega
 ·rw[aY,bZ,List.length_nil];omega
theorem RelO.isSome_eq{o:Option V}{u:Option Value}(r:RelO o u):o.isSome=u.isSome:=by
 cases o with
 |none=>cases u with
  |none=>rfl
  |some _=>exact (show False from r).elim
 |some _=>cases u with
  |none=>exact (show False from r).elim
  |some _=>rfl
theorem KV.val{kvs:List (κ×V)}{vs:List (κ×Value)}(r:KV kvs vs)(k:κ):RelO (iB kvs k) (valueAt vs k):=by
 unfold KV at r;induction r with
 |nil=>exact True.intro
 |@cons p q ps qs h t ih=>
  obtain⟨h1,h2⟩:=h;by_cases e:p.1=k
  ·have e':q.1=k:=h1.symm.trans e;have b:valueAt (q::qs) k=some q.2:=by simp[valueAt,dW,e']
   rw[lC e,b];exact h2
  ·have e':¬q.1=k:=λz=>e (h1.trans z);have b:valueAt (q::qs) k=valueAt qs k:=by simp[valueAt,dW,e']
   rw[lr e,b];exact ih
theorem KV.any{kvs:List (κ×V)}{vs:List (κ×Value)}(r:KV kvs vs)(k:κ):(kvs.any λkv=>decide (kv.1=k))=vs.any λkv=>decide (kv.1=k):=by
 unfold KV at r;induction r with
 |nil=>rfl
 |cons h t ih=>rw[bR,bR,ih,h.1]
theorem KV.repl{kvs:List (κ×V)}{vs:List (κ×Value)}(r:KV kvs vs)(k:κ){y:V}{u:Value}(ry:RelV y u):
  KV (kvs.map λkv=>if kv.1=k then (kv.1,y) else kv) (vs.map λkv=>if kv.1=k then (kv.1,u) else kv):=by
 unfold KV at r ⊢;induction r with
 |nil=>exact .nil
 |@cons p q ps qs h t ih=>
  rw[bH,bH];refine .cons ?_ ih;obtain⟨h1,h2⟩:=h;by_cases e:p.1=k
  ·rw[if_pos e,if_pos (h1.symm.trans e)];exact⟨h1,ry⟩
  ·rw[if_neg e,if_neg (λz=>e (h1.trans z))];exact⟨h1,h2⟩
theorem KV.put{kvs:List (κ×V)}{vs:List (κ×Value)}(r:KV kvs vs)(k:κ){y:V}{u:Value}(ry:RelV y u):KV (jG kvs k y) (stored vs k u):=by
 unfold jG stored;rw[r.any k];by_cases e:(vs.any λkv=>decide (kv.1=k))=true
 ·rw[if_pos e,if_pos e];exact r.repl k ry
 ·rw[if_neg e,if_neg e];exact Paired.snoc r ⟨rfl,ry⟩
theorem KV.length{kvs:List (κ×V)}{vs:List (κ×Value)}(r:KV kvs vs):kvs.length=vs.length:=Paired.length r
end
theorem qF{P:Program}{w:World}{k:gc}{u:Value}(r:RelV (kV k) u):(jy P w).is k u=true:=by
 cases k with
 |inl i=>obtain⟨t,e⟩:=(show ∃t,u=Value.int i t from r);subst e;exact Vj P w i t
 |inr x=>obtain⟨t,e⟩:=(show ∃t,u=Value.str x t from r);subst e;exact LF P w x t
theorem pC{P:Program}{w:World}:∀{ks:List gc} {us:List Value},Vals (ks.map kV) us->ItemsAre (jy P w) ks us
 |[],_,r=>by rw[List.map_nil] at r;cases r;exact .nil
 |k::ks,_,r=>by
  rw[bH] at r;cases r with
  |cons h t=>exact .cons (qF h) (pC t)
abbrev KT(H:Hp):List (List gc×V)->List (List gc×Addr×Value)->Prop:=Paired λp q=>p.1=q.1/\H q.2.1=some (.tup (p.1.map kV))/\RelV p.2 q.2.2
theorem KT.val{H:Hp}{kvs:List (List gc×V)}{xs:List (List gc×Addr×Value)}(r:KT H kvs xs)(k:List gc):RelO (iB kvs k) ((atKey xs k).map (·.2)):=by
 induction r with
 |nil=>exact True.intro
 |@cons p q ps qs h t ih=>
  obtain⟨h1,_,h2⟩:=h;by_cases e:p.1=k
  ·have e':q.1=k:=h1.symm.trans e;have b:atKey (q::qs) k=some q.2:=by simp[atKey,dW,e']
   rw[lC e,b];exact h2
  ·have e':¬q.1=k:=λz=>e (h1.trans z);have b:atKey (q::qs) k=atKey qs k:=by simp[atKey,dW,e']
   rw[lr e,b];exact ih
theorem KT.repl{H:Hp}{kvs:List (List gc×V)}{xs:List (List gc×Addr×Value)}(r:KT H kvs xs)(k:List gc){y:V}{u:Value}(ry:RelV y u):
  KT H (kvs.map λkv=>if kv.1=k then (kv.1,y) else kv) (xs.map (putAt k u)):=by
 induction r with
 |nil=>exact .nil
 |@cons p q ps qs h t ih=>
  rw[bH,bH];refine .cons ?_ ih;obtain⟨h1,h2,h3⟩:=h;unfold putAt;by_cases e:p.1=k
  ·rw[if_pos e,if_pos (h1.symm.trans e)];exact⟨h1,h2,ry⟩
  ·rw[if_neg e,if_neg (λz=>e (h1.trans z))];exact⟨h1,h2,h3⟩
theorem KT.put{H:Hp}{kvs:List (List gc×V)}{xs:List (List gc×Addr×Value)}(r:KT H kvs xs)(k:List gc){b:Addr}{y:V}{u:Value}(hb:H b=some (.tup (k.map kV)))(ry:RelV y u):
  KT H (jG kvs k y) (storedH xs k b u):=by
 have e:(kvs.any λkv=>decide (kv.1=k))=(atKey xs k).isSome:=by
  rw[rO,(r.val k).isSome_eq,Option.isSome_map]
 unfold jG storedH;rw[e];by_cases q:(atKey xs k).isSome=true
 ·rw[if_pos q,if_pos q];exact r.repl k ry
 ·rw[if_neg q,if_neg q];exact Paired.snoc r ⟨rfl,hb,ry⟩
theorem KT.keeps{H H':Hp}{kvs:List (List gc×V)}{xs:List (List gc×Addr×Value)}(r:KT H kvs xs)(ht:∀b ys,H b=some (.tup ys)->H' b=some (.tup ys)):KT H' kvs xs:=
 Paired.mapP r λ_ _ z=>⟨z.1,ht _ _ z.2.1,z.2.2⟩
section
variable{P:Program}{w:World}{H:Hp}{h:Heap}{a:Addr}
theorem Ew{u:HO}(ok:HOk P w H h)(e:Rd H a u):ObjOk P w H h a u:=e.ok ok
theorem so{kvs:List (gc×V)}(ok:HOk P w H h)(e:Rd H a (.dK kvs)):kvs.length<=sizeLine/\(a==sysModules)=false/\∃vs,KV kvs vs/\h.DictOf (jy P w) a vs:=
 show ObjOk P w H h a (.dK kvs) from Ew ok e
theorem Q5{kvs:List (gc×V)}(ok:HOk P w H h)(e:H a=some (.dK kvs)):kvs.length<=sizeLine/\(a==sysModules)=false/\∃vs,KV kvs vs/\h.DictOf (jy P w) a vs:=so ok (.inl e)
theorem qT{ks:List gc}(ok:HOk P w H h)(e:H a=some (.tup (ks.map kV))):(tupleKind (jy P w)).is h ks a:=by
 obtain⟨_,its,r,o,h1,h2,n,h3⟩:=(show ObjOk P w H h a (.tup (ks.map kV)) from ok a _ e);exact⟨o,its.toArray,n,h1,h2,h3,by simpa using pC r⟩
theorem rg{kvs:List (List gc×V)}(ok:HOk P w H h)(e:Rd H a (.dT kvs)):kvs.length<=sizeLine/\(a==sysModules)=false/\
  ∃xs,KT H kvs xs/\h.DictOfH (tupleKind (jy P w)) a xs:=by
 obtain⟨z,y,xs,r,o,es,ep,h1,h2,h3,h4,h5⟩:=(show ObjOk P w H h a (.dT kvs) from Ew ok e);refine⟨z,y,xs,r,o,es,ep,h1,h2,h3,h4,λx hx=>?_,h5⟩;have all:∀{l:List (List gc×V)} {m:List (List gc×Addr×Value)},KT H l m->∀x∈m,(tupleKind (jy P w)).is h x.1 x.2.1:=by
  intro l m q;induction q with
  |nil=>intro x hx;exact nomatch hx
  |@cons p q ps qs hq t ih=>
   intro x hx;rcases aX.mp hx with e | hx
   ·subst e;exact qT ok (by rw[←hq.1];exact hq.2.1)
   ·exact ih x hx
 exact all r x hx
theorem HV{kvs:List (List gc×V)}(ok:HOk P w H h)(e:H a=some (.dT kvs)):kvs.length<=sizeLine/\(a==sysModules)=false/\
  ∃xs,KT H kvs xs/\h.DictOfH (tupleKind (jy P w)) a xs:=rg ok (.inl e)
end
def DGet(H:Hp)(a:Addr)(y:V)(r:Option V):Prop:=
 (∃kvs k,Rd H a (.dK kvs)/\y=kV k/\r=iB kvs k)∨∃kvs k b,Rd H a (.dT kvs)/\y=.ref b/\H b=some (.tup (k.map kV))/\r=iB kvs k
def DPut(H:Hp)(a:Addr)(y v:V)(H':Hp):Prop:=
 (∃kvs k,H a=some (.dK kvs)/\y=kV k/\kvs.length<sizeLine/\H'=upd H a (.dK (jG kvs k v)))∨
 ∃kvs k b,H a=some (.dT kvs)/\y=.ref b/\H b=some (.tup (k.map kV))/\kvs.length<sizeLine/\H'=upd H a (.dT (jG kvs k v))
theorem DGet.k{H:Hp}{a:Addr}{kvs:List (gc×V)}{k:gc}(e:H a=some (.dK kvs)):DGet H a (kV k) (iB kvs k):=.inl ⟨kvs,k,.inl e,rfl,rfl⟩
theorem DGet.t{H:Hp}{a b:Addr}{kvs:List (List gc×V)}{k:List gc}(e:H a=some (.dT kvs))(eb:H b=some (.tup (k.map kV))):DGet H a (.ref b) (iB kvs k):=.inr ⟨kvs,k,b,.inl e,rfl,eb,rfl⟩
theorem DPut.k{H:Hp}{a:Addr}{kvs:List (gc×V)}{k:gc}{v:V}(e:H a=some (.dK kvs))(hl:kvs.length<sizeLine):DPut H a (kV k) v (upd H a (.dK (jG kvs k v))):=.inl ⟨kvs,k,e,rfl,hl,rfl⟩
theorem DPut.t{H:Hp}{a b:Addr}{kvs:List (List gc×V)}{k:List gc}{v:V}(e:H a=some (.dT kvs))(eb:H b=some (.tup (k.map kV)))(hl:kvs.length<sizeLine):
  DPut H a (.ref b) v (upd H a (.dT (jG kvs k v))):=.inr ⟨kvs,k,b,e,rfl,eb,hl,rfl⟩
section
variable{X:Cx}{pins:List (Addr×Obj)}{σ:St}{H:Hp}{s:Shared}{a:Addr}{y v:V}{u r:Value}{o:Option V}{A:Around}{E:Value->Shared->Prop}
theorem Ih{Q:Value->Shared->Prop}(hu:A.units+1<cLine)(I:Inv X pins σ H s)(g:DGet H a y (some v))(ry:RelV y u)(h:∀w' s',Inv X pins σ H s'->RelV v w'->Q w' s'):
  wpAny (model X.prog X.w) A (getItem (.ref a) u) Q E s:=by
 rcases g with ⟨kvs,k,e,ey,l⟩ | ⟨kvs,k,b,e,ey,eb,l⟩
 ·subst ey;obtain⟨z,hd,vs,rel,dd⟩:=so I.hok e;obtain⟨w',hw,rw'⟩:=RelO.some_of (v:=v) (o:=valueAt vs k) (by rw[l];exact rel.val k);exact wpAny_getItem_of (qF ry) dd.mapOf hw (h w' _ (I.tok _) rw')
 ·subst ey;cases (show u=Value.ref b from ry);obtain⟨z,hd,xs,rel,dd⟩:=rg I.hok e;obtain⟨w',hw,rw'⟩:=RelO.some_of (v:=v) (o:=(atKey xs k).map (·.2)) (by rw[l];exact rel.val k);obtain⟨p,hp,hp2⟩:=Option.map_eq_some_iff.mp hw;refine wpAny_getItem_heap (tupleKind_room_in1 hu) (qT I.hok eb) dd hp ?_;rw[hp2];exact h w' _ (I.tok _) rw'
theorem OL{Q:Value->Shared->Prop}(hu:A.units+1<cLine)(I:Inv X pins σ H s)(g:DGet H a y o)(ry:RelV y u)(h:∀s',Inv X pins σ H s'->Q (.bool (!o.isSome)) s'):
  wpAny (model X.prog X.w) A (compareOp .NotIn u (.ref a)) Q E s:=by
 rcases g with ⟨kvs,k,e,ey,l⟩ | ⟨kvs,k,b,e,ey,eb,l⟩
 ·subst ey;obtain⟨z,hd,vs,rel,dd⟩:=so I.hok e;refine wpAny_notIn_of (qF ry) hd dd.mapOf ?_;rw[←(rel.val k).isSome_eq,←l];exact h _ (I.tok _)
 ·subst ey;cases (show u=Value.ref b from ry);obtain⟨z,hd,xs,rel,dd⟩:=rg I.hok e;refine wpAny_notIn_heap (tupleKind_room_in1 hu) (qT I.hok eb) hd dd ?_;have q:=(rel.val k).isSome_eq;rw[Option.isSome_map] at q;rw[←q,←l];exact h _ (I.tok _)
theorem DX{h':Heap}{t':Nat}{ob:HO}(I:Inv X pins σ H s)(mu:qu (H a))(hs:Heap.SameBut a s.heap h')(he:∃q,h'.get? a=some q)(new:ObjOk X.prog X.w (upd H a ob) h' a ob):
  Inv X pins σ (upd H a ob) {s with heap:=h',toks:=t'}:=
 I.write (x:=a) (e:=a) mu (.inl rfl) (λb q hb z=>(hs.2 b hb).trans z) he new
theorem HB{P:Program}{w:World}{H':Hp}{h':Heap}{kvs:List (gc×V)}{vs:List (gc×Value)}(z:kvs.length<=sizeLine)(hd:(a==sysModules)=false)(rel:KV kvs vs)(dd:h'.DictOf (jy P w) a vs):
  ObjOk P w H' h' a (.dK kvs):=⟨z,hd,vs,rel,dd⟩
theorem So{H':Hp}{Q:Unit->Shared->Prop}(hu:A.units+1<cLine)(I:Inv X pins σ H s)(g:DPut H a y v H')(ry:RelV y u)(rv:RelV v r)(h:∀s',Inv X pins σ H' s'->Q () s'):
  wpAny (model X.prog X.w) A (setItem (.ref a) u r) Q E s:=by
 rcases g with ⟨kvs,k,e,ey,l,eH⟩ | ⟨kvs,k,b,e,ey,eb,l,eH⟩
 ·subst ey eH;obtain⟨z,hd,vs,rel,dd⟩:=Q5 I.hok e;have hz:vs.length<=sizeLine:=by rw[←rel.length];exact z
  have hl:(jG kvs k v).length<=sizeLine:=by have:=wV kvs k v;omega
  refine wpAny_setItem_pairs (hsz:=hz) (qF ry) dd λh' dd' hs=>h _ ?_;have he:∃q,h'.get? a=some q:=let ⟨q,_,_,hq,_⟩:=dd';⟨q,hq⟩;exact DX I (by rw[e];exact True.intro) hs he (HB hl hd (rel.put k rv) dd')
 ·subst ey eH;cases (show u=Value.ref b from ry);obtain⟨z,hd,xs,rel,dd⟩:=HV I.hok e;have hz:xs.length<=sizeLine:=by rw[←Paired.length rel];exact z
  have hl:(jG kvs k v).length<=sizeLine:=by have:=wV kvs k v;omega
  refine wpAny_setItem_heap (hsz:=hz) (tupleKind_room_in1 hu) (qT I.hok eb) dd λh' dd' hs=>h _ ?_;obtain⟨q,es,ep,hq,h2,h3,h4,_,h5⟩:=dd';refine DX I (by rw[e];exact True.intro) hs ⟨q,hq⟩ ⟨hl,hd,_,(rel.put k eb rv).keeps λc ys ec=>?_,q,es,ep,hq,h2,h3,h4,h5⟩;rw[fH (Qp ec e (λz=>nomatch z))];exact ec
variable{kvs:List (gc×V)}{k:gc}
end
def sD(i:Expr):Prop:=∀ov iv,subscripted i false ov iv=operate [ov,iv] (getItem ov iv)
theorem Gr{prog:Program}{w:World}{A:Around}{E:Value->Shared->Prop}{s:Shared}{env:Env}{value slice:Expr}{pos:Pos}{T id:String}{Q:Value->Shared->Prop}
  (hl:typeLookup (.type T) "__getitem__"=pure (some (.builtin id))) (hs:sD slice)
  (h:wpAny (model prog w) A (eval value env) (λo s₁=>wpAny (model prog w) A (eval slice env) (λi s₂=>s₂.TypeIs o T/\wpAny (model prog w) A (getItem o i) Q E s₂) E s₁) E s):
  wpAny (model prog w) A (eval (.Subscript value slice pos) env) Q E s:=by
 refine Subscript_ (eP h (λo s₁ h₁=>eP h₁ (λi s₂ h₂=>?_) λ_ _ x=>x) λ_ _ x=>x);obtain⟨hT,h₂⟩:=h₂;unfold subscriptTail;refine eO ?_;rw[getitemInPython_of_ne hT.not_modules];refine eO (wpAny_specialOf hT hl ?_);have fZ:wpAny (model prog w) A (subscripted slice false o i) (λr s₃=>wpAny (model prog w) A (letTemporaryGo value o r >>=λ_=>pure r) Q E s₃) E s₂:=by
  rw[hs o i];exact wpAny_operating (eP h₂ (λr s₃ h₃=>eO (wpAny_letTemporaryGo (fE h₃))) λ_ _ x=>x)
 first
  |exact fE (eO fZ)
  |exact eO (fE (eO fZ))
  |exact eO fZ
theorem NJ{X:Cx}{pins:List (Addr×Obj)}{σ:St}{H:Hp}{s:Shared}{a:Addr}{y:V}{o:Option V}(I:Inv X pins σ H s)(g:DGet H a y o):s.TypeIs (.ref a) "dict":=by
 rcases g with ⟨kvs,k,e,_,_⟩ | ⟨kvs,k,b,e,_,_,_⟩
 ·obtain⟨_,_,vs,_,dd⟩:=so I.hok e;exact dd.typeIs
 ·obtain⟨_,_,xs,_,dd⟩:=rg I.hok e;exact dd.typeIs
def ES(td ty:TE):TE:=λσ H Q=>td σ H λx H1=>ty σ H1 λy H2=>∃a v,x=.ref a/\DGet H2 a y (some v)/\Q v H2
def Fk(ty td:TE):TE:=λσ H Q=>ty σ H λy H1=>td σ H1 λx H2=>∃a o,x=.ref a/\DGet H2 a y o/\Q (.bl (!o.isSome)) H2
def EZ(td ty tv:TE):TS:=λD σ H=>tv σ H λv H1=>td σ H1 λx H2=>ty σ H2 λy H3=>∃a H4,x=.ref a/\DPut H3 a y v H4/\D.nx σ H4
section
variable{X:Cx}{o i e value:Expr}{pos pos' tpos:Pos}{td ty tv:TE}
theorem Sb(hu:X.A.units+1<cLine)(ho:PE X o td)(hi:PE X i ty)(hs:sD i):PE X (.Subscript o i pos) (ES td ty):=by
 intro pins s σ H Q I h;refine Gr PySem.F.slot_dict_getitem.lookup hs (fU (ho pins s σ H _ I h) λu s1 ⟨x,H1,I1,rx,q1⟩=>fU (hi pins s1 σ H1 _ I1 q1) λiv s2 ⟨y,H2,I2,ry,a,v,ex,g,q2⟩=>?_);subst ex;obtain rfl:u=Value.ref a:=rx;exact⟨NJ I2 g,Ih hu I2 g ry λw' s3 I3 rw'=>⟨v,H2,I3,rw',q2⟩⟩
theorem Js(hu:X.A.units+1<cLine)(hi:PE X i ty)(ho:PE X o td):PC X .NotIn i o (Fk ty td):=by
 intro pins s σ H Q I h;refine fU (hi pins s σ H _ I h) λiv s1 ⟨y,H1,I1,ry,q1⟩=>fU (ho pins s1 σ H1 _ I1 q1) λu s2 ⟨x,H2,I2,rx,a,ov,ex,g,q2⟩=>?_;subst ex;obtain rfl:u=Value.ref a:=rx;exact OL hu I2 g ry λs3 I3=>⟨.bl (!ov.isSome),H2,I3,rfl,q2⟩
theorem QH(hu:X.A.units+1<cLine)(ho:PE X o td)(hi:PE X i ty)(hv:PE X value tv)(hs:swapsWith value (some (.Subscript o i pos')) pos.line X.env=pure false):
  PS X (.Assign [.Subscript o i pos'] value pos) (EZ td ty tv):=by
 intro pins s σ H D I h;refine wpAny_Assign_Subscript (fU (hv pins s σ H _ I h) λr s1 ⟨v,H1,I1,rv,q1⟩=>fU (ho pins s1 σ H1 _ I1 q1) λu s2 ⟨x,H2,I2,rx,q2⟩=>fU (hi pins s2 σ H2 _ I2 q2) λiv s3 ⟨y,H3,I3,ry,a,H4,ex,g,q3⟩=>?_) hs;subst ex;obtain rfl:u=Value.ref a:=rx;exact So hu I3 g ry rv λs4 I4=>⟨σ,H4,I4,q3⟩
end
structure M1(X:Cx)(o:Expr)(m:Str)(apos:Pos)(e:Expr)(cpos:Pos):Prop where
 base:attributeBase o m X.env (eval o X.env)=eval o X.env
 few:((backTo cpos (starEach [e] X.env)).all (λx=> !x.1)&&(backToKw cpos (keywordEach [] X.env)).all (λx=>x.1.isSome)
  &&decide (([e]:List Expr).length+([]:List Keyword).length+(if ([]:List Keyword).isEmpty then 0 else 1)<30))=true
 line:(apos.endLine==cpos.line)=true
 trees:backTo cpos (starEach [e] X.env)=[(false,eval e X.env)]
section
variable{X:Cx}{pins:List (Addr×Obj)}{σ:St}{H:Hp}{s:Shared}{a:Addr}{y d:V}{u r:Value}{o:Option V}{A:Around}{E:Value->Shared->Prop}
end
section
variable{X:Cx}{o e f:Expr}{apos cpos:Pos}{td ty tx:TE}
variable{pins:List (Addr×Obj)}{σ:St}{H:Hp}{s:Shared}{a:Addr}{kvs:List (gc×V)}{A:Around}{E:Value->Shared->Prop}
variable{y:V}{u:Value}
end
section
variable{X:Cx}{k:Nat}{o i kx vx:Expr}{td ty tk tv:TE}{pos:Pos}{keys:List (Option Expr)}{values:List Expr}{trs:List (TE×TE)}
theorem ur{A:Around}(hr:Room k A):A.units+1<cLine:=by have:=hr.un;omega
theorem Na(hr:Room k X.A)(ho:E X o td)(hi:E X i ty)(hs:sD i:=by intro _ _;rfl):E X (.Subscript o i pos) (ES td ty):=⟨Sb (ur hr) ho.h hi.h hs⟩
theorem yG:gE X (binaryOp .Mult) B7:=⟨Yh⟩
end
def Rise(xs:Array Nat):Prop:=xs.toList.Pairwise (·<·)
theorem Rise.lt{xs:Array Nat}(h:Rise xs){i k x y:Nat}(hi:xs[i]? =some x)(hk:xs[k]? =some y)(l:i<k):x<y:=by
 rw[←cI] at hi hk;obtain⟨h1,e1⟩:=cC.mp hi;obtain⟨h2,e2⟩:=cC.mp hk;have:=List.pairwise_iff_getElem.mp h i k h1 h2 l;rw[e1,e2] at this;exact this
def D1(xs:Array Nat)(j r:Nat):Prop:=r<=xs.size/\(∀i x,i<r->xs[i]? =some x->x<j)/\∀i x,r<=i->xs[i]? =some x->j<=x
theorem AA{xs:Array Nat}{j:Nat}(hr:Rise xs):∀fuel lo hi:Nat,lo<=hi->hi<=xs.size->hi-lo<=fuel->(∀i x,i<lo->xs[i]? =some x->x<j)->(∀i x,hi<=i->xs[i]? =some x->j<=x)->D1 xs j (SetTable.below.go xs j fuel lo hi)
 |0,lo,hi,h1,h2,h3,a,b=>by
  have e:lo=hi:=⋯;subst e;exact⟨h2,a,b⟩
 |f+1,lo,hi,h1,h2,h3,a,b=>by
  unfold SetTable.below.go;by_cases c:lo<hi
  ·rw[if_pos c];have hm:(lo+hi) / 2<xs.size:=⋯;have em:xs[(lo+hi) / 2]? =some xs[(lo+hi) / 2]:=cX hm;have eg:xs.getD ((lo+hi) / 2) j=xs[(lo+hi) / 2]:=by rw[Array.getD_eq_getD_getElem?,em];rfl
   dsimp only;rw[eg];by_cases d:xs[(lo+hi) / 2]<j
   ·rw[if_pos d];refine AA hr f _ _ ⋯ h2 ⋯ (λi x hl hx=>?_) b;by_cases q:i=(lo+hi) / 2
    ·subst q;rw[em] at hx;cases hx;exact d
    ·exact Nat.lt_trans (hr.lt hx em ⋯) d
   ·rw[if_neg d];refine AA hr f _ _ ⋯ ⋯ ⋯ a λi x hl hx=>?_;by_cases q:i=(lo+hi) / 2
    ·subst q;rw[em] at hx;cases hx;omega
    ·have:=hr.lt em hx ⋯;omega
  ·rw[if_neg c];have e:lo=hi:=⋯;subst e;exact⟨h2,a,b⟩
theorem xK{xs:Array Nat}(hr:Rise xs)(j:Nat):D1 xs j (SetTable.below xs j):=
 AA hr _ _ _ (bM _) (aQ _) (aQ _) (λ_ _ h=>absurd h (dB _)) λi x h hx=>by
  obtain⟨z,_⟩:=Array.getElem?_eq_some_iff.mp hx;omega
theorem Vb{xs:Array Nat}{j:Nat}(hr:Rise xs)(h:(xs[SetTable.below xs j]? ==some j)=false):∀x∈xs.toList,x≠j:=λx hx e=>by
 obtain⟨i,hi,ei⟩:=List.mem_iff_getElem.mp hx;have e1:xs[i]? =some x:=by rw[←cI,bW hi,ei]
 subst e;obtain⟨c1,c2,c3⟩:=xK hr x;have h1:¬i<SetTable.below xs x:=λz=>cR _ (c2 i x z e1);by_cases q:i=SetTable.below xs x
 ·rw[←q,e1] at h;simp at h
 ·have hs:SetTable.below xs x<xs.size:=by
   obtain⟨z,_⟩:=Array.getElem?_eq_some_iff.mp e1;omega
  have e2:xs[SetTable.below xs x]? =some xs[SetTable.below xs x]:=cX hs;have:=c3 _ _ (aQ _) e2;have:=hr.lt e2 e1 ⋯;omega
theorem Vd{α:Type}(xs:Array α)(p:Nat)(x:α):(SetTable.insertAt xs p x).toList=xs.toList.take p++x::xs.toList.drop p:=by
 unfold SetTable.insertAt;simp[List.extract_eq_drop_take];exact d9 (by rw[dH,bS];exact aQ _)
theorem Sv{xs:Array Nat}{j:Nat}(hr:Rise xs)(hn:∀x∈xs.toList,x≠j):Rise (SetTable.insertAt xs (SetTable.below xs j) j):=by
 obtain⟨c1,c2,c3⟩:=xK hr j;unfold Rise;rw[Vd,List.pairwise_append,dJ];have hlow:∀a∈xs.toList.take (SetTable.below xs j),a<j:=λa ha=>by
  obtain⟨i,hi,e⟩:=List.mem_iff_getElem.mp ha;rw[List.getElem_take] at e;rw[dE] at hi;have h2:i<xs.toList.length:=⋯;exact c2 i a ⋯ (by rw[←cI,bW h2,e])
 have hhigh:∀b∈xs.toList.drop (SetTable.below xs j),j<b:=λb hb=>by
  have hb':=List.mem_of_mem_drop hb;obtain⟨i,hi,e⟩:=List.mem_iff_getElem.mp hb;rw[List.getElem_drop] at e;rw[dH] at hi;have h2:SetTable.below xs j+i<xs.toList.length:=⋯;have:=c3 (SetTable.below xs j+i) b ⋯ (by rw[←cI,bW h2,e]);have:=hn b hb';omega
 refine⟨List.Pairwise.sublist (List.take_sublist _ _) hr,⟨hhigh,List.Pairwise.sublist (List.drop_sublist _ _) hr⟩,λa ha b hb=>?_⟩;rcases aX.mp hb with rfl | hb
 ·exact hlow a ha
 ·exact Nat.lt_trans (hlow a ha) (hhigh b hb)
theorem X8(n:Nat):Rise (Array.range n):=by
 unfold Rise;rw[Array.toList_range];exact List.pairwise_lt_range
structure lK(led:Bool)(t:SetTable):Prop where
 rise:Rise t.place
 dum:t.dummies= #[]
 led:t.led=led
theorem BK(j:Nat):SetTable.has #[] j=false:=by
 unfold SetTable.has;simp
theorem Be{t:SetTable}{led:Bool}(T:lK led t){h:Int}:∀(f:Nat) (p:SetTable.Probe) (j:Nat) (d:Option Nat),p.dummy=none->SetTable.probe.go t (λ_=>h+1) h f p=some (.empty j d)->d=none/\(t.place[SetTable.below t.place j]? ==some j)=false
 |0,_,_,_,_,e=>by unfold SetTable.probe.go at e;cases e
 |f+1,p,j,d,hp,e=>by
  unfold SetTable.probe.go at e;split at e
  ·next hs=>
   cases e;refine⟨hp,?_⟩;unfold SetTable.slot at hs;dsimp only at hs;split at hs
   ·cases hs
   ·next q=>simpa using q
  ·next hs=>
   unfold SetTable.slot at hs;dsimp only at hs;split at hs
   ·cases hs
   ·rw[T.dum,BK] at hs;cases hs
  ·rw[if_neg (by simp;omega)] at e;refine Be T f _ j d ?_ e;unfold SetTable.advance;split
   ·exact hp
   ·exact hp
theorem qU{led:Bool}{t:SetTable}(T:lK led t)(n:Nat):lK led (t.standIn n):=⟨X8 n,rfl,T.led⟩
theorem P0{led:Bool}{t:SetTable}(T:lK led t)(n:Nat):lK led (t.orStandIn n):=by
 unfold SetTable.orStandIn;split
 ·exact T
 ·exact qU T n
theorem Xf{led:Bool}{t:SetTable}(T:lK led t)(es:Array (Int×Value))(h:Int)(x:Value):lK led (layNew t es h x).2.1:=by
 unfold layNew;split
 ·next slot wd hf=>
  dsimp only;refine P0 ?_ _;unfold SetTable.freeSlot at hf;split at hf
  ·next j d hp=>
   obtain⟨rfl,hn⟩:=Be T _ _ j d rfl hp;cases hf;refine⟨Sv T.rise (Vb T.rise hn),?_,T.led⟩;show (if SetTable.has t.dummies j=true then _ else t.dummies)=_;rw[T.dum,BK];rfl
  ·cases hf
 ·exact qU T _
theorem Te{led:Bool}{t:SetTable}(T:lK led t)(es:Array (Int×Value))(n:Nat):lK led (relayAll t es n).2.1:=by
 unfold relayAll;split
 ·next t' order hl=>
  dsimp only;split
  ·unfold SetTable.relaid SetTable.laid at hl;cases ho:SetTable.layClean (SetTable.sizeAbove n-1) (es.map (·.1)) with
   |none=>rw[ho] at hl;cases hl
   |some owner=>
    rw[ho] at hl;cases hl;refine⟨?_,rfl,T.led⟩;unfold Rise;dsimp only;have key:∀(l:List Nat),l.Pairwise (·<·)->((l.filterMap λj=>(owner.getD j none).map (j,·)).map (·.1)).Pairwise (·<·):=λl hl=>by
     have e:(l.filterMap λj=>(owner.getD j none).map (j,·)).map (·.1)=l.filter λj=>(owner.getD j none).isSome:=by
      induction l with
      |nil=>rfl
      |cons a l ih=>
       have ih:=ih (dJ.mp hl).2;cases q:owner.getD a none with
       |none=>rw[List.filterMap_cons_none (by rw[q];rfl),List.filter_cons_of_neg (by rw[q];simp),ih]
       |some b=>rw[List.filterMap_cons_some (by rw[q];rfl),List.filter_cons_of_pos (by rw[q];rfl),bH,ih]
     rw[e];exact List.Pairwise.sublist List.filter_sublist hl
    exact key _ List.pairwise_lt_range
  ·exact qU T _
 ·exact qU T _
noncomputable def nh:Value->Int
 |.int z _=>z
 |_=>0
noncomputable def ij(es:Array (Int×Value)):List Int:=es.toList.map λe=>nh e.2
noncomputable def pZ(w:World):Bool:= !(w.params.followText "set-order")
structure gq(prog:Program)(w:World)(es:Array (Int×Value))(t:SetTable):Prop where
 el:ElemsOf (intKind prog w) es.toList
 nd:(ij es).Nodup
 sz:es.size<scanBound
 fit:t.fits es.size=true
 tab:lK (pZ w) t
noncomputable abbrev ir(es:Array (Int×Value))(ep:Nat)(t:SetTable):Obj:={cls:=.type "set",dict:=none,data:=.set es ep t,slots:= #[]}
section
variable{prog:Program}{w:World}{A:Around}{E:Value->Shared->Prop}{s:Shared}{a:Addr}{es:Array (Int×Value)}{ep:Nat}{t:SetTable}{z:Int}{tk:Tok}
theorem Ff{k:Int}{v:Value}(h:(intKind prog w).is k v=true):∃t,v=.int k t:=Value.isInt_shape h
theorem GU{e:Int×Value}(h:ElemsOf (intKind prog w) es.toList)(he:e∈es.toList):∃t,e.2=.int (nh e.2) t:=by
 obtain⟨⟨k,hk,_⟩,_⟩:=h e he;obtain⟨t,e2⟩:=Ff hk;exact⟨t,by rw[e2];rfl⟩
theorem Cg{es es':Array (Int×Value)}(p:es'.toList.Perm es.toList):(ij es').Perm (ij es):=p.map _
theorem EU(hS:s.heap.get? a=some (ir es ep t)){es':Array (Int×Value)}{t':SetTable}:(s.heap.update a (Obj.putSet es' t')).get? a=some (ir es' (ep+1) t'):=
 cV (Obj.putSet es' t') hS rfl
theorem YE{Q:Bool->Shared->Prop}(hS:s.heap.get? a=some (ir es ep t))(X:gq prog w es t)(room:es.size+1<scanBound)
  (k:∀h' es' ep' t' b,Heap.SameBut a s.heap h'->h'.get? a=some (ir es' ep' t')->gq prog w es' t'->(∀x,x∈ij es'↔x∈ij es∨x=z)->es'.size<=es.size+1->Q b {s with heap:=h'}):
  wpAny (model prog w) A (setAddHashed a (.int z tk) ((intKind prog w).hash z)) Q E s:=by
 have key:(intKind prog w).is z (.int z tk)=true:=intKind_is _ _ _ _;unfold setAddHashed setAddHashedIn;refine eU (eO (eQ hS rfl X.fit ?_));dsimp only;rw[byScan_of (knd:=intKind prog w) (x:=.int z tk) rfl X.sz X.el,if_pos rfl];unfold setAddByScan;refine eO (eO (wpAny_rule (eO (wpAny_setScan_of key hS rfl X.fit X.el ?_))));cases hr:List.findIdx? (λe=>(intKind prog w).is z e.2) es.toList with
 |some j=>
  dsimp only;obtain⟨hj,pj,_⟩:=List.findIdx?_eq_some_iff_getElem.mp hr;have hz:z∈ij es:=bD.mpr ⟨es.toList[j],List.getElem_mem hj,by obtain⟨t2,e2⟩:=Ff pj;rw[e2];rfl⟩;refine fE (fE ?_);exact k s.heap es ep t _ (Heap.SameBut.refl a s.heap) hS X (λx=>⟨.inl,λh=>h.elim id λe=>e▸hz⟩) (Nat.le_succ _)
 |none=>
  dsimp only;have hz:z∉ij es:=λhm=>by
   obtain⟨e,he,ez⟩:=bD.mp hm;obtain⟨t2,e2⟩:=GU X.el he;have:=List.findIdx?_eq_none_iff.mp hr e he;rw[e2,ez,intKind_is] at this;cases this
  have hperm:=layNew_perm t es ((intKind prog w).hash z) (.int z tk);have hfits:=layNew_fits t es ((intKind prog w).hash z) (.int z tk);have htab:=Xf X.tab es ((intKind prog w).hash z) (.int z tk);generalize layNew t es ((intKind prog w).hash z) (.int z tk)=L at hperm hfits htab ⊢;obtain⟨es1,t1,wd,gave⟩:=L;dsimp only at hperm hfits htab ⊢;rw[Array.toList_push] at hperm;have el1:ElemsOf (intKind prog w) es1.toList:=(X.el.push key rfl).perm hperm
  have zp:(ij es1).Perm (ij es++[z]):=by
   have:=hperm.map λe:Int×Value=>nh e.2;rw[bB] at this;exact this
  have nd1:(ij es1).Nodup:=zp.nodup_iff.mpr (List.nodup_append.mpr ⟨X.nd,by simp,λx hx y hy e=>by
   rw[bJ] at hy;exact hz (hy▸e▸hx)⟩)
  have mem1:∀x,x∈ij es1↔x∈ij es∨x=z:=λx=>by rw[zp.mem_iff,bP,bJ]
  have sz1:es1.size=es.size+1:=by rw[←bS,hperm.length_eq,aY,bS];rfl
  have X1:∀pl:Bool,gq prog w es1 {t1 with plain:=pl}:=λpl=>⟨el1,nd1,by rw[sz1];exact room,hfits,⟨htab.rise,htab.dum,htab.led⟩⟩;have tail:∀(t2:SetTable),gq prog w es1 t2->∀(g:Bool->Sem Unit),(∀(b:Bool) (s₁:Shared) (Q':Unit->Shared->Prop),Q' () s₁->wpAny (model prog w) A (g b) Q' E s₁)->∀R:Option Bool->Shared->Prop,
    (∀h' es' ep' t' ,Heap.SameBut a s.heap h'->h'.get? a=some (ir es' ep' t')->gq prog w es' t'->(∀x,x∈ij es'↔x∈ij es∨x=z)->es'.size<=es.size+1->R (some true) {s with heap:=h'})->
    wpAny (model prog w) A (do
     storeSet a es1 t2
     if (!wd&&t2.tooFull)=true then do
       g (relayAll t2 es1 (SetTable.grown es1.size)).2.2
       storeSet a (relayAll t2 es1 (SetTable.grown es1.size)).1 (relayAll t2 es1 (SetTable.grown es1.size)).2.1
       pure (some true)
      else pure (some true)) R E s:=λt2 X2 g hg R hR=>by
   refine eO (wpAny_storeSet_of hS rfl ?_ (fits_of_scanBound X2.sz));have e1:=EU hS (es':=es1) (t':=t2);have b1:=Heap.SameBut.update s.heap a (Obj.putSet es1 t2);split
   ·have hp:=relayAll_perm t2 es1 (SetTable.grown es1.size);have hf:=relayAll_fits t2 es1 (SetTable.grown es1.size);have ht:=Te X2.tab es1 (SetTable.grown es1.size);generalize relayAll t2 es1 (SetTable.grown es1.size)=R2 at hp hf ht ⊢;obtain⟨es2,t3,gave2⟩:=R2;dsimp only at hp hf ht ⊢;have sz2:es2.size=es1.size:=by rw[←bS,hp.length_eq,bS]
    have X3:gq prog w es2 t3:=⟨X2.el.perm hp,(Cg hp).nodup_iff.mpr X2.nd,by rw[sz2];exact X2.sz,hf,ht⟩;refine eO (hg _ _ _ (eO (wpAny_storeSet_of e1 rfl ?_ (fits_of_scanBound X3.sz))));exact fE (hR _ es2 _ t3 (b1.trans (Heap.SameBut.update _ a _)) (EU (s:={s with heap:=s.heap.update a (Obj.putSet es1 t2)}) e1) X3 (λx=>by rw[(Cg hp).mem_iff];exact mem1 x) (by rw[sz2,sz1];exact aQ _))
   ·exact fE (hR _ es1 _ t2 b1 e1 X2 mem1 (Nat.le_of_eq sz1))
  have fZ:∀h' es' ep' t' ,Heap.SameBut a s.heap h'->h'.get? a=some (ir es' ep' t')->gq prog w es' t'->(∀x,x∈ij es'↔x∈ij es∨x=z)->es'.size<=es.size+1->Q true {s with heap:=h'}:=λh' es' ep' t'=>k h' es' ep' t' true;have gw:∀(b:Bool) (s₁:Shared) (Q':Unit->Shared->Prop),Q' () s₁->wpAny (model prog w) A (match b with | true=>rule "set.scan.the-table-gave-way" | false=>pure ()) Q' E s₁:=λb s₁ Q' hq=>by
   cases b
   ·exact fE hq
   ·exact wpAny_rule hq
  refine eO (gw gave _ _ ?_);have X1':gq prog w es1 t1:=X1 t1.plain;split
  ·refine eO ?_;rw[hashByValue_scannable 8 (show (Value.int z tk).scannable=true from rfl)];refine fE ?_;exact tail t1 X1' _ gw _ λh' es' ep' t' b e x m l=>fE (fZ h' es' ep' t' b e x m l)
  ·refine eO (fE ?_);exact tail t1 X1' _ gw _ λh' es' ep' t' b e x m l=>fE (fZ h' es' ep' t' b e x m l)
end
section
variable{prog:Program}{w:World}{A:Around}{R:Result->Shared->Prop}{I:Addr}{fp wr:List Addr}{G:Array GenState->Array GenState->Prop}{n:Nat}{P:Nat->Value->Prop}{St:Nat->Shared->Prop}
theorem EF{args:Args}{s:Shared}(h:wpAny (model prog w) A.in1 (Builtin.«set.update.loop» args) (λx s'=>match x with | .done q=>R (.ok q) s' | .again c=>c.quiet=true/\codeAny (model prog w) A c R s') (λx s'=>R (.error x) s') s):codeAny (model prog w) A (.builtin "set.update.loop" args) R s:=
 codeAny_builtin F.entry_set_update_loop (by rw[Around.under_plainId F.plain_set_update_loop args];exact h)
theorem QD(W:WalksS prog w A.in1 I fp wr G n P St){S:Addr}(out:S∉fp){val:Nat->Int}(hval:∀i v,P i v->∃t,v=.int (val i) t)(hb:n+1<scanBound):
  ∀(k i:Nat) (s:Shared) (es:Array (Int×Value)) (ep:Nat) (t:SetTable),n-i=k->i<=n->St i s->s.heap.get? S=some (ir es ep t)->gq prog w es t->(∀x,x∈ij es↔∃j,j<i/\val j=x)->es.size<=i->
   (∀s' es' ep' t',Moved (S::wr) G s s'->s'.heap.get? S=some (ir es' ep' t')->gq prog w es' t'->(∀x,x∈ij es'↔∃j,j<n/\val j=x)->R (.ok (.ret .none)) s')->
   codeAny (model prog w) A (.builtin "set.update.loop" {pos:=[.ref S,.ref I]}) R s:=by
 have nw:S∉wr:=λz=>out (W.sub _ z);have sub:∀b∈wr,b∈S::wr:=λb hb=>bG _ hb;intro k;induction k with
 |zero=>
  intro i s es ep t hk hi st hS X hm hz hR;obtain rfl:i=n:=⋯;refine EF ?_;unfold Builtin.«set.update.loop»;refine eO (W.done s _ _ st λs' mv=>?_);exact fE (hR s' es ep t (mv.mono sub) (mv.heap S _ nw hS) X hm)
 |succ k ih=>
  intro i s es ep t hk hi st hS X hm hz hR;have lt:i<n:=⋯;refine EF ?_;unfold Builtin.«set.update.loop»;refine eO (W.item i s _ _ lt st λv s1 hP st1 mv=>?_);obtain⟨tk,rfl⟩:=hval i v hP;have S1:=mv.heap S _ nw hS;unfold setAdd;refine eO (eU (eU (eO ((intKind prog w).pyHash (k:=val i) (intKind_is _ _ _ _) (YE (s:={s1 with toks:=s1.toks+1}) S1 X ⋯ λh' es' ep' t' b sb S2 X2 m2 z2=>?_)))));refine fE ⟨plainId_quiet F.plain_set_update_loop _,ih (i+1) _ es' ep' t' ⋯ lt (W.frame _ s1 _ _ st1 (Nat.le_succ _) λc hc o e=>?_) S2 X2 (λx=>?_) ⋯ λs2 es2 ep2 t2 mv2 S3 X3 m3=>?_⟩
  ·rw[sb.2 c λz=>out (z▸hc)];exact e
  ·rw[m2,hm];constructor
   ·rintro (⟨j,hj,e⟩ | rfl)
    ·exact⟨j,⋯,e⟩
    ·exact⟨i,⋯,rfl⟩
   ·rintro⟨j,hj,e⟩;by_cases c:j=i
    ·subst c;exact .inr e.symm
    ·exact .inl ⟨j,⋯,e⟩
  ·refine hR s2 es2 ep2 t2 (Moved.trans W.gtrans ((mv.mono sub).then_heap (Nat.le_succ _) λc o hc e=>?_) mv2) S3 X3 m3;rw[sb.2 c λz=>hc (z▸bF)];exact e
end
section
variable{prog:Program}{w:World}{A:Around}{E:Value->Shared->Prop}{s:Shared}
noncomputable abbrev lV(w:World):Obj:=ir #[] 0 (.fresh 0 0 (pZ w))
theorem Yx:gq prog w #[] (.fresh 0 0 (pZ w)):=⟨λ_ h=>by simp at h,by simp[ij],by decide,rfl,⟨by unfold Rise;simp[SetTable.fresh],rfl,rfl⟩⟩
theorem aC6(a:Value){Q₁:Value->Shared->Prop}(h:Q₁ (.ref s.heap.objs.size) {s with heap:=s.heap.push (lV w)}):codeAny (model prog w) A (.call (.builtin "set.__new__") ⟨[.type "set",a],[]⟩) (wants Q₁ E) s:=by
 have own:=sub_set_self;refine codeAny_of_tree (eO (m:=checkBuiltinCall "set.__new__" {pos:=[.type "set",a]}) (wpAny_of_eq (F.newCall_set_1 a) (fE ⟨plainId_quiet F.plain_set_new _,codeAny_builtin F.entry_set_new ?_⟩)));rw[Around.under_plainId F.plain_set_new {pos:=[.type "set",a]}];simp only[Builtin.«set.__new__»,Builtin.Frozenset.newClass];obtain⟨h0,g0,d0,t0,o0⟩:=s
 wp_walk
 refine wpAny_askSetting (fE ?_);dsimp only;simp only[newObj];exact eO (wpAny_alloc (fE (fE h)))
set_option maxHeartbeats 3200000 in
theorem MF{l:Addr}{items:Array Value}{ns:List Int}{Q:Value->Shared->Prop}(hh:A.handled=none)(hl:s.heap.IsList l items)(hi:IntsAre items.toList ns)(hb:items.size+1<scanBound)
  (k:∀(h':Heap) (tk:Nat) (es:Array (Int×Value)) (ep:Nat) (t:SetTable),h'.get? s.heap.objs.size=some (ir es ep t)->gq prog w es t->(∀x,x∈ij es↔x∈ns)->(∀b o,s.heap.get? b=some o->h'.get? b=some o)->Q (.ref s.heap.objs.size) {s with heap:=h',toks:=tk}):
  wpAny (model prog w) A (call (.type "set") [.ref l]) Q E s:=by
 obtain⟨⟨c0,tl0,m0⟩,m1,m2,m3,m4,m5⟩:=And.intro F.called_set.mro (And.intro F.called_set.made (And.intro F.called_set.sub (And.intro F.called_set.notType (And.intro F.called_set.canCreate (F.typeCall_set_1 (.ref l))))));refine wpAny_call (codeAny_of_tree (show wpAny _ _ (callAny (.type "set") _) _ _ _ from fE ⟨Code.quiet_builtin _ (by decide +kernel),codeAny_builtin F.entry_type_call ?_⟩));rw[Around.under_plain (weight_type_call_type "set" [.ref l] []) (by rfl)]
 repeat any_goals (first | assumption | wp_step)
 refine eV (aC6 (.ref l) (E:=E) (Q₁:=λobj s₁=>obj=.ref s.heap.objs.size/\s₁={s with heap:=s.heap.push (lV w)}) ⟨rfl,rfl⟩) λr s₁ hr=>?_;cases r with
 |error e=>exact hr
 |ok fl=>
  cases fl with
  |ret obj=>
   obtain⟨rfl,rfl⟩:=hr;have hS:(s.heap.push (lV w)).get? s.heap.objs.size=some (lV w):=a9 _ rfl;have hT:Shared.TypeIs {s with heap:=s.heap.push (lV w)} (.ref s.heap.objs.size) "set":=⟨_,hS,rfl⟩;obtain⟨i1,i2⟩:=And.intro F.called_set.init.lookup (F.called_set.init.bind (.ref s.heap.objs.size))
   repeat any_goals (first | assumption | wp_step)
   refine eV (codeAny_call_builtin (R:=wants (λr s₂=>r=.none/\∃h' tk es ep t,s₂={s with heap:=h',toks:=tk}/\h'.get? s.heap.objs.size=some (ir es ep t)/\gq prog w es t/\(∀x,x∈ij es↔x∈ns)/\(∀b o,s.heap.get? b=some o->h'.get? b=some o)) E) F.called_set.init.plain F.entry_set_init (check_set_init_1 hT ?_)) λr₂ s₂ hr₂=>?_
   ·obtain⟨⟨oc,od,odt,osl⟩,hol,hcl,nl,hdl⟩:=hl;cases hcl;cases hdl;have hol':=aU (lV w) hol;have s1:=F.sub_list_set;have s2:=F.sub_list_frozenset;have ne:(Value.type "list"==Value.type "dict")=false:=by decide
    have hl1:(s.heap.push (lV w)).IsList l items:=⟨_,hol',rfl,nl,rfl⟩;simp only[Builtin.«set.__init__»,noKeywords,Builtin.Frozenset.updateFrom];generalize hPI:pyIter=PI
    wp_walk
    subst hPI;refine wpAny_pyIter_list hl1 (eO (wpAny_runValue ?_));have ll:l<s.heap.objs.size:=aV hol;have h3:A.in1.in1.in1.handled=none:=by simp[hh]
    have nI:l≠(s.heap.push (lV w)).objs.size:=by rw[c9];exact aW (dA ll)
    have out:s.heap.objs.size∉[(s.heap.push (lV w)).objs.size,l]:=by
     rw[c9];simp only[aX,cF,or_false,not_or];exact⟨aW (dD _),Nat.ne_of_gt ll⟩
    have val:∀(i:Nat) (v:Value),items[i]? =some v->∃t,v=.int ((λi=>ns.getD i 0) i) t:=λi v hv=>IntsAre.int_at hi i v (by rw[cI];exact hv);have ln:items.size=ns.length:=by rw[←bS];exact IntsAre.length hi
    refine QD ((Walks.list h3 _ l nI items).toS) out val hb (items.size-0) 0 _ #[] 0 (.fresh 0 0 (pZ w)) ⋯ (bM _) ⟨⟨_,a9 _ rfl,rfl,rfl⟩,hl1.push _⟩ (aU _ hS) Yx (λx=>⟨λz=>by simp[ij] at z,λ⟨j,hj,_⟩=>absurd hj (dB _)⟩) (aQ _) λs' es ep t mv S' X' m'=>?_;obtain⟨h',g',d',tk',os'⟩:=s';have eg:g'=s.gens:=mv.gens;have ed:d'=s.drawn:=mv.drawn;have eo:os'=s.os:=mv.os;subst eg;subst ed;subst eo;refine fE (fE ⟨rfl,h',tk',es,ep,t,rfl,S',X',λx=>?_,λb o e=>?_⟩)
    ·rw[m' x,ln];constructor
     ·rintro⟨j,hj,rfl⟩;have:ns.getD j 0=ns[j]:=by rw[eF,bW hj];rfl
      rw[this];exact List.getElem_mem hj
     ·intro hx;obtain⟨j,hj,e⟩:=List.mem_iff_getElem.mp hx;exact⟨j,hj,by rw[eF,bW hj];exact e⟩
    ·have lb:=aV e;refine mv.heap b o ?_ (aU _ (aU _ e));rw[c9];simp only[aX,cF,or_false,not_or];exact⟨aW lb,aW (dA lb)⟩
   ·cases r₂ with
    |error e=>exact hr₂
    |ok fl₂=>
     cases fl₂ with
     |ret r=>
      obtain⟨rfl,h',tk,es,ep,t,rfl,S',X',m',k'⟩:=hr₂
      repeat any_goals (first | assumption | wp_step)
      exact k h' tk es ep t S' X' m' k'
     |_=>exact hr₂.elim
  |_=>exact hr.elim
end
theorem zr{α:Type}:∀(l:List α) (i:Nat) (h:i<l.length),(l[i]::l.eraseIdx i).Perm l
 |[],i,h=>by cases h
 |x::r,0,h=>List.Perm.refl _
 |x::r,i+1,h=>(List.Perm.swap x (r[i]'(by simpa using h)) _).trans (List.Perm.cons x (zr r i (by simpa using h)))
theorem D7{α:Type}(next:Nat->Nat):∀(f k:Nat) (left:List α) (out:Array α),left.length=f->(pickOrder.go next f k left out).toList.Perm (out.toList++left)
 |0,k,left,out,h=>by
  rw[List.length_eq_zero_iff.mp h,cU];exact List.Perm.refl _
 |f+1,k,left,out,h=>by
  have hl:next k%left.length<left.length:=Nat.mod_lt _ ⋯;unfold pickOrder.go;rw[bW hl];dsimp only;refine (D7 next f (k+1) (left.eraseIdx (next k%left.length)) (out.push left[next k%left.length]) (by rw[List.length_eraseIdx_of_lt hl,h];rfl)).trans ?_;rw[Array.toList_push,d7];exact List.Perm.append_left _ (zr _ _ hl)
theorem XX{α:Type}(next:Nat->Nat)(xs:Array α):(pickOrder next xs).toList.Perm xs.toList:=by
 have:=D7 next xs.size 0 xs.toList #[] (bS);rw[show (#[]:Array α).toList=[] from rfl,List.nil_append] at this;exact this
section
variable{M:Model}{A:Around}{E:Value->Shared->Prop}{s:Shared}
theorem MK{src:Source}{n:Nat}{Q:Nat->Shared->Prop}(hn:n≠0)(h:∀i d,i<n->Q i {s with drawn:=d}):wpAny M A (choose src n) Q E s:=λΓ p hΓ=>⟨hn,h _ _ (Nat.mod_lt _ (Nat.pos_of_ne_zero hn))⟩
theorem GI{α:Type}:∀(n:Nat) (xs:List α) (s:Shared) (Q:List α->Shared->Prop),xs.length=n->(∀ys d,ys.Perm xs->Q ys {s with drawn:=d})->wpAny M A (drawOrder n xs) Q E s
 |0,xs,s,Q,hn,h=>by
  rw[List.length_eq_zero_iff.mp hn] at h ⊢;exact fE (h [] s.drawn (List.Perm.refl _))
 |n+1,[],s,Q,hn,h=>by cases hn
 |n+1,x::r,s,Q,hn,h=>by
  unfold drawOrder;refine eO (MK (by simp) λi d hi=>?_);rw[bW hi];refine eO (GI n _ _ _ (by rw[List.length_eraseIdx_of_lt hi,hn];rfl) λys d2 hp=>fE (h _ d2 ?_));exact (List.Perm.cons _ hp).trans (zr _ _ hi)
end
theorem Mi:entryFor table "set.__iter__"=some Builtin.«frozenset.__iter__»:=entryFor_alias (id':="frozenset.__iter__") (by decide +kernel) (by decide +kernel) (by decide +kernel) (by kernel_rfl)
theorem slot_set_itn:Slot "set_iterator" "__next__" "set_iterator.__next__":=
 .of (owner:="set_iterator") (n:="__next__") (by rw[typeLookup_type,builtinLookup_eq_fast];kernel_rfl) (by decide +kernel) (by decide +kernel) (by decide +kernel)
  (by first | exact .inl (by decide +kernel) | exact .inr (by decide +kernel)) (by rw[isSubtype_type];kernel_rfl)
theorem F8:entryFor table "set_iterator.__next__"=some Builtin.«set_iterator.__next__»:=entryFor_of_tree (by kernel_rfl)
theorem GQ(a:Value):argsOk "set_iterator.__next__" ⟨[a],[]⟩:=by unfold argsOk;kernel_rfl
noncomputable abbrev g7(first:Value)(i:Nat)(a:Addr)(n ep:Nat):Obj:={cls:=.type "set_iterator",dict:=none,data:=.fields #[first,rawInt i,.ref a,rawInt n,rawInt ep],slots:= #[]}
section
variable{prog:Program}{w:World}{A:Around}{E:Value->Shared->Prop}{s:Shared}{a I:Addr}{es:Array (Int×Value)}{ep:Nat}{t:SetTable}
noncomputable def kR(w:World)(a:Addr)(es:Array (Int×Value))(ep:Nat):List Value:=if w.params.followText "set-order" then (pickOrder (w.params.setOrder a ep) es).toList.map (·.2) else es.toList.map (·.2)
noncomputable def iK(w:World)(t:SetTable)(i:Nat):Nat:=if w.params.followText "set-order" then 0 else match i with
 |0=>0
 |i+1=>t.place.getD i 0+1
theorem Cc:iK w t 0=0:=by unfold iK;split<;>rfl
theorem Ez{i:Nat}(bt:w.params.followText "set-order"=false):iK w t (i+1)=t.place.getD i 0+1:=by unfold iK;rw[bt,if_neg (by simp)]
theorem ord_perm:(kR w a es ep).Perm (es.toList.map (·.2)):=by
 unfold kR;split
 ·exact (XX _ _).map _
 ·exact List.Perm.refl _
theorem yH:(kR w a es ep).length=es.size:=by rw[ord_perm.length_eq,aR,bS]
theorem yf{Q:Bool->Shared->Prop}(h:Q (w.params.followText "set-order") s):wpAny (model prog w) A setsByText Q E s:=by
 unfold setsByText;exact eO (wpAny_askSetting (fE h))
theorem ZG{Q:Option (Value×Nat)->Shared->Prop}{i:Nat}(hS:s.heap.get? a=some (ir es ep t))(X:gq prog w es t)(nd:w.params.followText "set-order"=true∨(!t.plain&&decide (es.size>1))=false)(hi:i<=es.size)
  (h:Q ((kR w a es ep)[i]?.map λv=>(v,iK w t (i+1))) s):wpAny (model prog w) A (setNext a (iK w t i) i ep) Q E s:=by
 unfold setNext;refine eO (eQ hS rfl X.fit ?_);dsimp only;refine eO (yf ?_);cases bt:w.params.followText "set-order" with
 |true=>
  rw[if_pos rfl,if_neg (by simp)];refine eO ?_;unfold setWalk;refine eO (eQ hS rfl X.fit ?_);dsimp only;refine eO (yf ?_);rw[bt,if_pos rfl];refine eO (wpAny_askSetting (fE (fE ?_)));have e:kR w a es ep=(pickOrder (w.params.setOrder a ep) es).toList.map (·.2):=by unfold kR;rw[bt,if_pos rfl]
  rw[e,bC,cI,Option.map_map] at h;have e2:iK w t (i+1)=iK w t i:=by unfold iK;rw[bt,if_pos rfl,if_pos rfl]
  rw[e2] at h;exact h
 |false=>
  have nd':(!t.plain&&decide (es.size>1))=false:=nd.resolve_left (by rw[bt];simp);have led:t.led=true:=by rw[X.tab.led];unfold pZ;rw[bt];rfl
  have fit:t.place.size=es.size:=by
   have:=X.fit;simp only[SetTable.fits,bE,beq_iff_eq] at this;exact this.1
  rw[if_neg (by simp)];change wpAny _ _ (if (!t.plain&&decide (es.size>1))=true then _ else _) _ _ _;rw[if_neg (by rw[nd'];simp)];refine eO ?_;change wpAny _ _ (if (!t.led&& !es.isEmpty)=true then _ else _) _ _ _;rw[if_neg (by rw[led];simp)];refine fE (fE ?_);have e:kR w a es ep=es.toList.map (·.2):=by unfold kR;rw[bt,if_neg (by simp)]
  have cut:SetTable.below t.place (iK w t i)=i:=by
   obtain⟨c1,c2,c3⟩:=xK X.tab.rise (iK w t i);have at':∀k,k<t.place.size->t.place[k]? =some (t.place.getD k 0):=λk hk=>by rw[Array.getD_eq_getD_getElem?,cX hk];rfl
   cases i with
   |zero=>
    rcases Nat.eq_zero_or_pos (SetTable.below t.place (iK w t 0)) with z | z
    ·exact z
    ·have:=c2 0 _ z (at' 0 ⋯);rw[Cc] at this;exact absurd this (dB _)
   |succ i=>
    have e0:iK w t (i+1)=t.place.getD i 0+1:=Ez bt;have hi':i<t.place.size:=⋯;have l1:¬SetTable.below t.place (iK w t (i+1))<=i:=λz=>by
     have:=c3 i _ z (at' i hi');omega
    have l2:¬i+1<SetTable.below t.place (iK w t (i+1)):=λz=>by
     have h1:i+1<t.place.size:=⋯;have:=c2 (i+1) _ z (at' (i+1) h1);have:=X.tab.rise.lt (at' i hi') (at' (i+1) h1) (dD i);omega
    omega
  rw[cut];rw[e,bC,cI,Option.map_map] at h;by_cases c:i<es.size
  ·rw[cX c,cX (show i<t.place.size by omega)];rw[cX c] at h;have e2:iK w t (i+1)=t.place[i]'⋯+1:=by
    rw[Ez bt,Array.getD_eq_getD_getElem?,cX (show i<t.place.size by omega)];rfl
   rw[e2] at h;exact h
  ·rw[eG ⋯,eG ⋯];rw[eG ⋯] at h;exact h
noncomputable abbrev Fh:Obj:={cls:=.type "tuple",data:=.seq #[]}
noncomputable abbrev ZJ(a:Addr):Obj:={cls:=.type "StopIteration",data:=.fields (#[Value.ref a,.none,.none,.none,.bool false,.none]++ownMembersOf (.type "StopIteration") [])}
theorem Ck{β:Type}{Q:β->Shared->Prop}(hh:A.handled=none)(h:E (.ref (s.heap.push Fh).objs.size) {s with heap:=(s.heap.push Fh).push (ZJ s.heap.objs.size)}):
  wpAny (model prog w) A (do raiseNew (←newExc (.type "StopIteration") []):Sem β) Q E s:=by
 refine eO ?_;simp only[newExc,newTuple];refine eO (eK (eO (m:=firstArgMember _ _) (wpAny_of_eq (a:=Value.none) (by simp only[firstArgMember];rfl) (eK ?_ (by size_fits)))) (by size_fits));unfold raiseNew;refine eO (wpAny_handled ?_);rw[hh];exact eO (fE (wpAny_throw h))
theorem nN{f:Value}{i n ep:Nat}(h:s.heap.get? I=some (g7 f i a n ep)):s.TypeIs (.ref I) "set_iterator":=⟨_,h,rfl⟩
theorem Cb{i:Nat}{Q:Option Value->Shared->Prop}(hh:A.handled=none)(ne:a≠I)(hI:s.heap.get? I=some (g7 (rawInt (iK w t i)) i a es.size ep))(hS:s.heap.get? a=some (ir es ep t))(X:gq prog w es t)
  (nd:w.params.followText "set-order"=true∨(!t.plain&&decide (es.size>1))=false) (hi:i<=es.size)
  (k:∀v h',(kR w a es ep)[i]? =some v->h'.get? I=some (g7 (rawInt (iK w t (i+1))) (i+1) a es.size ep)->(∀b o,b≠I->s.heap.get? b=some o->h'.get? b=some o)->Q (some v) {s with heap:=h'})
  (k0:(kR w a es ep)[i]? =none->∀h',(∀b o,b≠I->s.heap.get? b=some o->h'.get? b=some o)->Q none {s with heap:=h'}):wpAny (model prog w) A (pyNext (.ref I)) Q E s:=by
 unfold pyNext;refine eO (wpAny_attempt (wpAny_callSpecial?_slot (name:=Str.ofString "__next__") (nN hI) slot_set_itn (wpAny_call_entry slot_set_itn (nN hI) F8 ?_ (GQ _))));unfold Builtin.«set_iterator.__next__»;refine eO (m:=slotArgs _ _ _) (fE ?_);refine eO (wpAny_fieldsOf hI rfl ?_);simp only[rawInt];unfold setEntries;refine eO (eO (eQ hS rfl X.fit (fE ?_)));rw[if_neg (by simp)];simp only[bQ]
 refine eO (ZG hS X nd hi ?_);cases ho:(kR w a es ep)[i]? with
 |some v=>
  dsimp only[Option.map];refine eO (wpAny_setField hI rfl (show 0<5 by decide) ?_);have h1:=cV (Obj.mapFields (·.setIfInBounds 0 (Value.int (iK w t (i+1)) 0))) hI rfl;refine eO (wpAny_setField h1 rfl (show 1<5 by decide) ?_);have h2:=cV (Obj.mapFields (·.setIfInBounds 1 (Value.int ((i:Int)+1) 0))) h1 rfl;refine fE ⟨v,rfl,fE (k v _ ho ?_ λb o nb e=>?_)⟩
  ·rw[h2];show some _=some _;congr 1
  ·rw[cE _ _ (Ne.symm nb),cE _ _ (Ne.symm nb)];exact e
 |none=>
  dsimp only[Option.map];refine eO (wpAny_setField hI rfl (show 2<5 by decide) (Ck hh ?_));refine eO (wpAny_isInstance (T:="StopIteration") (b:=true) ⟨_,a9 _ rfl,rfl⟩ isSubtype_stop (fE (k0 ho _ λb o nb e=>?_)));refine aU _ (aU _ ?_);rw[cE _ _ (Ne.symm nb)];exact e
theorem FD{i:Nat}{T:Addr}{ys:List Nat}{Q:Option Value->Shared->Prop}(hh:A.handled=none)(hI:s.heap.get? I=some (g7 (.ref T) i a es.size ep))(hT:s.heap.get? T=some {cls:=.type "tuple",data:=.seq (ys.map λ(y:Nat)=>rawInt y).toArray})(hS:s.heap.get? a=some (ir es ep t))(X:gq prog w es t)
  (hy:∀y∈ys,y<es.size)
  (k:∀y v h',ys[i]? =some y->(es.toList.map (·.2))[y]? =some v->h'.get? I=some (g7 (.ref T) (i+1) a es.size ep)->(∀b o,b≠I->s.heap.get? b=some o->h'.get? b=some o)->Q (some v) {s with heap:=h'})
  (k0:ys[i]? =none->∀h',(∀b o,b≠I->s.heap.get? b=some o->h'.get? b=some o)->Q none {s with heap:=h'}):wpAny (model prog w) A (pyNext (.ref I)) Q E s:=by
 unfold pyNext;refine eO (wpAny_attempt (wpAny_callSpecial?_slot (name:=Str.ofString "__next__") (nN hI) slot_set_itn (wpAny_call_entry slot_set_itn (nN hI) F8 ?_ (GQ _))));unfold Builtin.«set_iterator.__next__»;refine eO (m:=slotArgs _ _ _) (fE (eO (wpAny_fieldsOf hI rfl ?_)));simp only[rawInt];unfold setEntries;refine eO (eO (eQ hS rfl X.fit (fE ?_)));rw[if_neg (by simp)];refine eO (wpAny_seqItems hT rfl ?_)
 have eg:((ys.map λ(y:Nat)=>rawInt y).toArray)[(i:Int).toNat]? =(ys[i]?).map λ(y:Nat)=>rawInt y:=by
  rw[bQ,List.getElem?_toArray,bC]
 dsimp only;rw[eg];cases ho:ys[i]? with
 |some y=>
  have hlt:=hy y (bU ho);have ev:(es.toList.map (·.2))[y]? =some es[y].2:=by rw[bC,cI,cX hlt];rfl
  dsimp only[Option.map,rawInt];unfold setNextDrawn;refine eO (eO (eQ hS rfl X.fit ?_));dsimp only;rw[if_neg (by simp)];simp only[bQ];rw[cX hlt];refine fE (eO (wpAny_setField hI rfl (show 1<5 by decide) ?_));have h2:=cV (Obj.mapFields (·.setIfInBounds 1 (Value.int ((i:Int)+1) 0))) hI rfl;refine fE ⟨es[y].2,rfl,fE (k y _ _ ho ev ?_ λb o nb e=>?_)⟩
  ·rw[h2];show some _=some _;congr 1
  ·rw[cE _ _ (Ne.symm nb)];exact e
 |none=>
  dsimp only[Option.map];refine eO (wpAny_setField hI rfl (show 0<5 by decide) ?_);have h1:=cV (Obj.mapFields (·.setIfInBounds 0 (Value.int 0 0))) hI rfl;refine eO (wpAny_setField h1 rfl (show 2<5 by decide) (Ck hh ?_));refine eO (wpAny_isInstance (T:="StopIteration") (b:=true) ⟨_,a9 _ rfl,rfl⟩ isSubtype_stop (fE (k0 ho _ λb o nb e=>?_)));refine aU _ (aU _ ?_);rw[cE _ _ (Ne.symm nb),cE _ _ (Ne.symm nb)]
  exact e
theorem EW:Slot "set_iterator" "__iter__" "set_iterator.__iter__":=
 .of (owner:="set_iterator") (n:="__iter__") (by rw[typeLookup_type,builtinLookup_eq_fast];kernel_rfl) (by decide +kernel) (by decide +kernel) (by decide +kernel)
  (by first | exact .inl (by decide +kernel) | exact .inr (by decide +kernel)) (by rw[isSubtype_type];kernel_rfl)
theorem MZ:entryFor table "set_iterator.__iter__"=some Builtin.«dict_keyiterator.__iter__»:=entryFor_alias (id':="dict_keyiterator.__iter__") (by decide +kernel) (by decide +kernel) (by decide +kernel) (by kernel_rfl)
theorem SB(a:Value):argsOk "set_iterator.__iter__" ⟨[a],[]⟩:=by unfold argsOk;kernel_rfl
theorem Eb{f:Value}{i n:Nat}{Q:Value->Shared->Prop}(hI:s.heap.get? I=some (g7 f i a n ep))(h:Q (.ref I) s):wpAny (model prog w) A (pyIter (.ref I)) Q E s:=by
 refine wpAny_pyIter_slot (nN hI) EW (wpAny_call_entry EW (nN hI) MZ ?_ (SB _));unfold Builtin.«dict_keyiterator.__iter__»;exact eO (m:=slotArgs _ _ _) (fE (fE ⟨(),"set_iterator",_,nN hI,slot_set_itn.lookup,h⟩))
theorem Lv(hh:A.handled=none)(ne:a≠I)(X:gq prog w es t)(nd:w.params.followText "set-order"=true∨(!t.plain&&decide (es.size>1))=false):
  Walks prog w A I [I,a] [I] es.size (λi v=>(kR w a es ep)[i]? =some v) (λi h=>i<=es.size/\h.get? I=some (g7 (rawInt (iK w t i)) i a es.size ep)/\h.get? a=some (ir es ep t)) where
 sub:=λb hb=>by simp at hb;simp[hb]
 frame:=λi h h' st k=>⟨st.1,k I (by simp) _ st.2.1,k a (by simp) _ st.2.2⟩
 item:=λi s Q E hi st k=>Cb hh ne st.2.1 st.2.2 X nd st.1 (λv h' ho hI' kp=>k v h' s.toks ho ⟨hi,hI',kp a _ ne st.2.2⟩ λb o nb e=>kp b o (λz=>nb (by simp[z])) e) λho=>by
  have:=List.getElem?_eq_none_iff.mp ho;have hl:=yH (w:=w) (a:=a) (es:=es) (ep:=ep);omega
 done:=λs Q E st k=>Cb hh ne st.2.1 st.2.2 X nd st.1 (λv h' ho=>by
  obtain⟨z,_⟩:=cC.mp ho;have hl:=yH (w:=w) (a:=a) (es:=es) (ep:=ep);omega) λ_ h' kp=>k h' s.toks λb o nb e=>kp b o (λz=>nb (by simp[z])) e
 self:=λi s Q E st k=>Eb st.2.1 k
theorem Ya{T:Addr}{ys:List Nat}(hh:A.handled=none)(ne:a≠I)(nT:T≠I)(X:gq prog w es t)(hp:ys.Perm (List.range es.size)):
  Walks prog w A I [I,a,T] [I] es.size (λi v=>∃y,ys[i]? =some y/\(es.toList.map (·.2))[y]? =some v) (λi h=>h.get? I=some (g7 (.ref T) i a es.size ep)/\h.get? a=some (ir es ep t)/\h.get? T=some {cls:=.type "tuple",data:=.seq (ys.map λ(y:Nat)=>rawInt y).toArray}) where
 sub:=λb hb=>by simp at hb;simp[hb]
 frame:=λi h h' st k=>⟨k I (by simp) _ st.1,k a (by simp) _ st.2.1,k T (by simp) _ st.2.2⟩
 item:=λi s Q E hi st k=>FD hh st.1 st.2.2 st.2.1 X (λy hy=>by simpa using hp.mem_iff.mp hy) (λy v h' h1 h2 hI' kp=>k v h' s.toks ⟨y,h1,h2⟩ ⟨hI',kp a _ ne st.2.1,kp T _ nT st.2.2⟩ λb o nb e=>kp b o (λz=>nb (by simp[z])) e) λho=>by
  have:=List.getElem?_eq_none_iff.mp ho;have hl:=hp.length_eq;rw[cJ] at hl;omega
 done:=λs Q E st k=>FD hh st.1 st.2.2 st.2.1 X (λy hy=>by simpa using hp.mem_iff.mp hy) (λy v h' ho=>by
  obtain⟨z,_⟩:=cC.mp ho;have hl:=hp.length_eq;rw[cJ] at hl;omega) λ_ h' kp=>k h' s.toks λb o nb e=>kp b o (λz=>nb (by simp[z])) e
 self:=λi s Q E st k=>Eb st.1 k
theorem OF{Q:Value->Shared->Prop}(hS:s.heap.get? a=some (ir es ep t))(X:gq prog w es t)
  (k:(w.params.followText "set-order"=true∨(!t.plain&&decide (es.size>1))=false)->Q (.ref s.heap.objs.size) {s with heap:=s.heap.push (g7 (rawInt 0) 0 a es.size ep)})
  (kD:∀(ys:List Nat) (d:Drawn),ys.Perm (List.range es.size)->Q (.ref (s.heap.objs.size+1)) {s with heap:=(s.heap.push {cls:=.type "tuple",data:=.seq (ys.map λ(y:Nat)=>rawInt y).toArray}).push (g7 (.ref s.heap.objs.size) 0 a es.size ep),drawn:=d}):
  wpAny (model prog w) A (pyIter (.ref a)) Q E s:=by
 have hT:s.TypeIs (.ref a) "set":=⟨_,hS,rfl⟩;refine wpAny_pyIter_slot hT F.slot_set_iter (wpAny_call_entry F.slot_set_iter hT Mi ?_ (F.args_set_iter_1 _));unfold Builtin.«frozenset.__iter__» Builtin.Frozenset.slot0;refine eO (eO (m:=slotArgs _ _ _) (fE (fE ?_)));unfold Builtin.Frozenset.sizeOf setEntries;refine eO (eO (eO (eQ hS rfl X.fit (fE (fE ?_)))));unfold setDrawn;refine eO (eO (eQ hS rfl X.fit ?_))
 refine eO (yf (fE ?_));have sl:=fits_of_scanBound X.sz;dsimp only;change wpAny _ _ (if (!w.params.followText "set-order"&&(!t.plain&&decide (es.size>1)))=true then _ else _) _ _ _;by_cases c:(!w.params.followText "set-order"&&(!t.plain&&decide (es.size>1)))=true
 ·rw[if_pos c];refine eO (GI es.size (List.range es.size) s _ cJ λys d hp=>?_);unfold newTuple;refine eO (eK ?_ (by show (ys.map λ(y:Nat)=>rawInt y).toArray.size<=_;rw[bI,aR,hp.length_eq,cJ];omega));refine eO (wpAny_setEpoch_of (aU _ hS) rfl X.fit ?_);unfold newFields;refine eO (eK (fE ⟨(),"set_iterator",_,⟨_,a9 _ rfl,rfl⟩,slot_set_itn.lookup,?_⟩));have:=kD ys d hp;rw[c9];exact this
 ·rw[if_neg c];refine eO (fE (eO (wpAny_setEpoch_of hS rfl X.fit ?_)));unfold newFields;refine eO (eK (fE ⟨(),"set_iterator",_,⟨_,a9 _ rfl,rfl⟩,slot_set_itn.lookup,k ?_⟩));cases q:w.params.followText "set-order" with
  |true=>exact .inl rfl
  |false=>
   refine .inr ?_;rw[q] at c;simpa using c
theorem Hk{Q:Bool->Shared->Prop}(hT:s.TypeIs (.ref a) "set")(h:Q false s):wpAny (model prog w) A (Builtin.List.listLengthHint (.ref a)) Q E s:=by
 unfold Builtin.List.listLengthHint;refine eO (wpAny_specialOf hT F.slot_set_len.lookup ?_);generalize hid:("set.__len__":String)=id0
 wp_delta
 have parts:splitId id0=some ("set","__len__"):=by subst hid;decide +kernel
 rw[parts];subst hid;refine eO (wpAny_isInstance (T:="set") (b:=true) hT (by rw[isSubtype_type];kernel_rfl) ?_);refine wpAny_ite_split (λz=>absurd z (by decide)) (λ_=>wpAny_ite_split (λ_=>eO (wpAny_typeOf hT (fE h))) λz=>absurd (by decide +kernel) z)
theorem BJ{xs:List Value}{acc:Array Value}{n:Nat}(hn:xs.length=n)(its:ItemsOf (λi v=>xs[i]? =some v) acc n):acc.toList=xs:=by
 refine List.ext_getElem? λi=>?_;rw[cI];by_cases c:i<acc.size
 ·have e:=cX c;rw[e,its.2 i _ e]
 ·rw[eG ⋯,eC (by have:=its.1;omega)]
theorem YI{R:Result->Shared->Prop}{S:Addr}(hh:A.handled=none)(hS:s.heap.get? a=some (ir es ep t))(X:gq prog w es t)(ne:S≠a)(hL:s.heap.get? S=some {cls:=.type "list",data:=.seq #[]})
  (k:∀(s':Shared) (acc:Array Value) (c:Nat),acc.toList.Perm (es.toList.map (·.2))->(∀b o,b≠S->s.heap.get? b=some o->s'.heap.get? b=some o)->s'.gens=s.gens->s'.os=s.os->s'.heap.get? S=some {cls:=.type "list",data:=.seq acc c}->R (.ok (.ret (.ref S))) s'):
  wpAny (model prog w) A.in1 (Builtin.List.listExtendWith (.ref S) (.ref a) (.ref S)) (λfZ s'=>match fZ with | .done f=>R (.ok f) s' | .again c'=>c'.quiet=true/\codeAny (model prog w) A c' R s') (λe s'=>R (.error e) s') s:=by
 have sl:=fits_of_scanBound X.sz;have la:a<s.heap.objs.size:=aV hS;have lS:S<s.heap.objs.size:=aV hL;have apart:Builtin.List.listSameRef (.ref S) (.ref a)=false:=by simp[Builtin.List.listSameRef,ne]
 unfold Builtin.List.listExtendWith;refine eO (wpAny_typeOf (T:="set") ⟨_,hS,rfl⟩ ?_);rw[if_neg (by rw[apart];decide)];refine eO (OF hS X (λnd=>?_) λys d hp=>?_)
 ·have HS:(s.heap.push (g7 (rawInt 0) 0 a es.size ep)).get? a=some (ir es ep t):=aU _ hS;have LS:(s.heap.push (g7 (rawInt 0) 0 a es.size ep)).get? S=some {cls:=.type "list",data:=.seq #[]}:=aU _ hL;have W:=Lv (A:=A.in1) (ep:=ep) (I:=s.heap.objs.size) hh (aW la) X nd;have ST:0<=es.size/\(s.heap.push (g7 (rawInt 0) 0 a es.size ep)).get? s.heap.objs.size=some (g7 (rawInt (iK w t 0)) 0 a es.size ep)/\(s.heap.push (g7 (rawInt 0) 0 a es.size ep)).get? a=some (ir es ep t):=⟨bM _,by rw[Cc];exact a9 s.heap (o:=g7 (rawInt 0) 0 a es.size ep) rfl,HS⟩
  refine eO (eU (Hk ⟨_,HS,rfl⟩ ?_));rw[if_pos (by decide)];refine eO (wpAny_rule (eO (show wpAny _ _ (updateSeq S (λl=>l.push Value.none) >>=λ_=>updateSeq S λl=>l.pop) _ _ _ from eO (wpAny_updateSeq LS rfl ?_))));have S1:=cV (Obj.mapSeq (·.push Value.none)) LS rfl;refine wpAny_updateSeq (hz:=by seq_fits) S1 rfl ?_;have S2:=cV (Obj.mapSeq (·.pop)) S1 rfl;have oth:∀b o,b≠S->(s.heap.push (g7 (rawInt 0) 0 a es.size ep)).get? b=some o->(((s.heap.push (g7 (rawInt 0) 0 a es.size ep)).update S (Obj.mapSeq (·.push Value.none))).update S (Obj.mapSeq (·.pop))).get? b=some o:=λb o nb e=>by
   rw[cE _ _ (Ne.symm nb),cE _ _ (Ne.symm nb)];exact e
  have out:S∉[s.heap.objs.size,a]:=by
   simp only[aX,cF,or_false,not_or];exact⟨aW lS,ne⟩
  refine fE ⟨plainId_quiet PySem.F.plain_extend_loop _,codeAny_extend_loopS W.toS sl S out _ es.size 0 _ #[] _ rfl (bM _) (W.frame 0 _ _ ST λb hb o e=>oth b o (λz=>out (z▸hb)) e) S2 (ItemsOf.nil _) λs' acc c mv S3 its=>?_⟩;exact k s' acc c (by rw[BJ yH its];exact ord_perm) (λb ob nb e=>mv.heap b ob (by simp[nb,aW (aV e)]) (oth b ob nb (aU _ e))) mv.gens mv.os S3
 ·have nT:s.heap.objs.size≠s.heap.objs.size+1:=aW (dD _);have HS:((s.heap.push ({cls:=.type "tuple",data:=.seq (ys.map λ(y:Nat)=>rawInt y).toArray}:Obj)).push (g7 (.ref s.heap.objs.size) 0 a es.size ep)).get? a=some (ir es ep t):=aU _ (aU _ hS);have LS:((s.heap.push ({cls:=.type "tuple",data:=.seq (ys.map λ(y:Nat)=>rawInt y).toArray}:Obj)).push (g7 (.ref s.heap.objs.size) 0 a es.size ep)).get? S=some {cls:=.type "list",data:=.seq #[]}:=aU _ (aU _ hL)
  have W:=Ya (A:=A.in1) (ep:=ep) (I:=s.heap.objs.size+1) (T:=s.heap.objs.size) hh (aW (dA la)) nT X hp;have eI:((s.heap.push ({cls:=.type "tuple",data:=.seq (ys.map λ(y:Nat)=>rawInt y).toArray}:Obj)).push (g7 (.ref s.heap.objs.size) 0 a es.size ep)).get? (s.heap.objs.size+1)=some (g7 (.ref s.heap.objs.size) 0 a es.size ep):=by
   have:=a9 (s.heap.push ({cls:=.type "tuple",data:=.seq (ys.map λ(y:Nat)=>rawInt y).toArray}:Obj)) (o:=g7 (.ref s.heap.objs.size) 0 a es.size ep) rfl;rw[c9] at this;exact this
  have ST:((s.heap.push ({cls:=.type "tuple",data:=.seq (ys.map λ(y:Nat)=>rawInt y).toArray}:Obj)).push (g7 (.ref s.heap.objs.size) 0 a es.size ep)).get? (s.heap.objs.size+1)=some (g7 (.ref s.heap.objs.size) 0 a es.size ep)/\((s.heap.push ({cls:=.type "tuple",data:=.seq (ys.map λ(y:Nat)=>rawInt y).toArray}:Obj)).push (g7 (.ref s.heap.objs.size) 0 a es.size ep)).get? a=some (ir es ep t)/\((s.heap.push ({cls:=.type "tuple",data:=.seq (ys.map λ(y:Nat)=>rawInt y).toArray}:Obj)).push (g7 (.ref s.heap.objs.size) 0 a es.size ep)).get? s.heap.objs.size=some {cls:=.type "tuple",data:=.seq (ys.map λ(y:Nat)=>rawInt y).toArray}:=⟨eI,HS,aU _ (a9 _ rfl)⟩
  refine eO (eU (Hk ⟨_,HS,rfl⟩ ?_));rw[if_pos (by decide)];refine eO (wpAny_rule (eO (show wpAny _ _ (updateSeq S (λl=>l.push Value.none) >>=λ_=>updateSeq S λl=>l.pop) _ _ _ from eO (wpAny_updateSeq LS rfl ?_))));have S1:=cV (Obj.mapSeq (·.push Value.none)) LS rfl;refine wpAny_updateSeq (hz:=by seq_fits) S1 rfl ?_;have S2:=cV (Obj.mapSeq (·.pop)) S1 rfl;have oth:∀b o,b≠S->((s.heap.push ({cls:=.type "tuple",data:=.seq (ys.map λ(y:Nat)=>rawInt y).toArray}:Obj)).push (g7 (.ref s.heap.objs.size) 0 a es.size ep)).get? b=some o->((((s.heap.push ({cls:=.type "tuple",data:=.seq (ys.map λ(y:Nat)=>rawInt y).toArray}:Obj)).push (g7 (.ref s.heap.objs.size) 0 a es.size ep)).update S (Obj.mapSeq (·.push Value.none))).update S (Obj.mapSeq (·.pop))).get? b=some o:=λb o nb e=>by
   rw[cE _ _ (Ne.symm nb),cE _ _ (Ne.symm nb)];exact e
  have out:S∉[s.heap.objs.size+1,a,s.heap.objs.size]:=by
   simp only[aX,cF,or_false,not_or];exact⟨aW (dA lS),ne,aW lS⟩
  refine fE ⟨plainId_quiet PySem.F.plain_extend_loop _,codeAny_extend_loopS W.toS sl S out _ es.size 0 _ #[] _ rfl (bM _) (W.frame 0 _ _ ST λb hb o e=>oth b o (λz=>out (z▸hb)) e) S2 (ItemsOf.nil _) λs' acc c mv S3 its=>?_⟩;have el:acc.toList=ys.map λy=>((es.toList.map (·.2))[y]?).getD .none:=by
   refine BJ (by rw[aR,hp.length_eq,cJ]) ⟨its.1,λi v hv=>?_⟩;obtain⟨y,h1,h2⟩:=its.2 i v hv;rw[bC,h1];show some (((es.toList.map (·.2))[y]?).getD .none)=_;rw[h2];rfl
  have er:(List.range es.size).map (λy=>((es.toList.map (·.2))[y]?).getD Value.none)=es.toList.map (·.2):=by
   refine List.ext_getElem? λi=>?_;rw[bC];by_cases c:i<es.size
   ·rw[List.getElem?_range c];show some (((es.toList.map (·.2))[i]?).getD .none)=(es.toList.map (·.2))[i]?;rw[bW (by rw[aR,bS];exact c)];rfl
   ·rw[eC (by rw[cJ];omega),eC (by rw[aR,bS];omega)];rfl
  refine k s' acc c (by rw[el];exact (hp.map _).trans (List.Perm.of_eq er)) (λb ob nb e=>mv.heap b ob ?_ (oth b ob nb (aU _ (aU _ e)))) mv.gens mv.os S3;simp only[aX,cF,or_false,not_or];exact⟨nb,aW (dA (aV e))⟩
theorem Sn{Q:List Value->Shared->Prop}(hh:A.handled=none)(hS:s.heap.get? a=some (ir es ep t))(X:gq prog w es t)
  (k:∀(s':Shared) (vs:List Value),vs.Perm (es.toList.map (·.2))->(∀b o,s.heap.get? b=some o->s'.heap.get? b=some o)->s.heap.objs.size<s'.heap.objs.size->s'.gens=s.gens->s'.os=s.os->Q vs s'):wpAny (model prog w) A (collect (.ref a)) Q E s:=by
 let nl:Obj:={cls:=.type "list",data:=.seq ([]:List Value).toArray}
 have S1:(s.heap.push nl).get? s.heap.objs.size=some nl:=a9 _ rfl;unfold collect;refine eO (wpAny_runValue (codeAny_builtin F.entry_proto_collect ?_));rw[Around.under_plainId F.plain_proto_collect _];refine eO (eK (fE ⟨plainId_quiet F.plain_list_iadd _,codeAny_builtin F.entry_list_iadd ?_⟩));rw[Around.under_plainId F.plain_list_iadd _];have key:=YI (A:=A) (s:={s with heap:=s.heap.push nl}) (S:=s.heap.objs.size) (R:=λq s'=>∃acc c,q=.ok (.ret (.ref s.heap.objs.size))/\acc.toList.Perm (es.toList.map (·.2))/\(∀b o,s.heap.get? b=some o->s'.heap.get? b=some o)/\s'.gens=s.gens/\s'.os=s.os/\s'.heap.get? s.heap.objs.size=some {cls:=.type "list",data:=.seq acc c})
  hh (aU _ hS) X (Nat.ne_of_gt (aV hS)) S1 λs' acc c p kp g o e=>⟨acc,c,rfl,p,λb ob q=>kp b ob (aW (aV q)) (aU _ q),g,o,e⟩
 have fZ:∀s' acc c,acc.toList.Perm (es.toList.map (·.2))->(∀b o,s.heap.get? b=some o->s'.heap.get? b=some o)->s'.gens=s.gens->s'.os=s.os->s'.heap.get? s.heap.objs.size=some {cls:=.type "list",data:=.seq acc c}->
   wpAny (model prog w) A (do let o ←load s.heap.objs.size;match o.data with | .seq xs _=>pure xs.toList | _=>unsupported "internal:collect") Q E s':=λs' acc c p kp g o e=>eO (wpAny_load e (fE (k s' acc.toList p kp (aV e) g o)))
 refine eP key (λf s' x=>?_) λe s' x=>?_
 ·cases f with
  |done f=>
   obtain⟨acc,c,e,p,kp,g,o,q⟩:=x;cases e;exact fZ s' acc c p kp g o q
  |again c1=>
   refine⟨x.1,eV x.2 λr s2 y=>?_⟩;obtain⟨acc,c,rfl,p,kp,g,o,q⟩:=y;exact fZ s2 acc c p kp g o q
 ·obtain⟨_,_,e',_⟩:=x;cases e'
theorem Jv{Q:Value->Shared->Prop}(hh:A.handled=none)(hS:s.heap.get? a=some (ir es ep t))(X:gq prog w es t)(h64:es.size<64)
  (k:∀(s':Shared) (D:Addr) (vs:List Value) (ns:List Int) (c:Nat),s.heap.objs.size<=D->s'.heap.get? D=some {cls:=.type "list",data:=.seq vs.toArray c}->IntsAre vs ns->ns.Pairwise (·<·)->(∀x,x∈ns↔x∈ij es)->(∀b o,s.heap.get? b=some o->s'.heap.get? b=some o)->s'.gens=s.gens->s'.os=s.os->Q (.ref D) s'):
  wpAny (model prog w) A (call (.builtin "sorted") [.ref a]) Q E s:=by
 refine Calls.call_function_entry kind_sorted plain_sorted entry_sorted (args_sorted1 _) ?_;unfold Builtin.«sorted»;refine eO (m:=checkCount "sorted" 1 1 _) (fE (eO (Sn (A:=A.in1) hh hS X λs1 vs hp k1 sz1 g1 o1=>?_)));have hl:vs.length=es.size:=by rw[hp.length_eq,aR,bS]
 refine eO (wpAny_newList ?_ (by rw[hl,eT];omega));have hin:IntsAre vs (vs.map nh):=by
  have all:∀v∈vs,∃t,v=.int (nh v) t:=λv hv=>by
   obtain⟨e,he,rfl⟩:=bD.mp (hp.mem_iff.mp hv);exact GU X.el he
  clear hp hl;induction vs with
  |nil=>exact .nil
  |cons v r ih=>
   obtain⟨t,e⟩:=all v (by simp);rw[bH];rw[e];exact .cons _ _ (ih λu hu=>all u (bG _ hu))
 have zp:(vs.map nh).Perm (ij es):=by
  have:=hp.map nh;rw[bY] at this;exact this
 have hoL:(s1.heap.push (seqObj "list" vs.toArray 0)).get? s1.heap.objs.size=some (seqObj "list" vs.toArray 0):=a9 _ rfl;refine eO (eU (wpAny_call_entry slot_list_sort ⟨_,hoL,rfl⟩ entry_list_sort (list_sort_tree hoL hin ⋯ λout ns' a1 a2 a3=>⟨(),?_⟩) (args_list_sort _)));obtain⟨e,he⟩:=sortedHeap_at (out:=out) hoL;refine fE ⟨(),k _ s1.heap.objs.size out.toList ns' e (Nat.le_of_lt sz1) (by rw[Array.toArray_toList];exact he) a1 ?_ (λx=>by rw[a2.mem_iff,zp.mem_iff]) (λb ob q=>?_) g1 o1⟩
 ·have nd:ns'.Nodup:=a2.nodup_iff.mpr (zp.nodup_iff.mpr X.nd);exact (List.pairwise_and_iff.mpr ⟨a3,nd⟩).imp λ⟨h1,h2⟩=>by omega
 ·have q1:=k1 b ob q;have lb:=aV q1;rw[sortedHeap_old (aW lb) (by rw[size_push'];exact dA lb)];exact aU _ q1
end
noncomputable def Af(P:Program)(w:World)(q:Addr)(ns:List Int):HO:=.ext λh=>∃es ep t,h.get? q=some (ir es ep t)/\gq P w es t/\∀x,x∈ij es↔x∈ns
theorem Inv.other{X:Cx}{pins:List (Addr×Obj)}{σ:St}{H:Hp}{s s':Shared}(I:Inv X pins σ H s)(e1:s'.heap=s.heap)(e2:s'.gens=s.gens)(e3:s'.os=s.os):Inv X pins σ H s':=by
 obtain⟨h,g,d,t,o⟩:=s;obtain⟨h',g',d',t',o'⟩:=s';cases e1;cases e2;cases e3;exact⟨I.ok,I.os,I.bare,I.base,I.loc,I.cell,I.free,I.freeC,I.pin,I.hok,I.len⟩
theorem Bm:∀{ns:List Int} {us:List Value},Vals (ns.map V.int) us->IntsAre us ns
 |[],_,r=>by cases r;exact .nil
 |n::ns,_,.cons h r=>by
  obtain⟨t,rfl⟩:=h;exact .cons n t (Bm r)
theorem rJ:∀(n:Nat) {zs:List Int},zs.Nodup->(∀x∈zs,0<=x/\x<n)->zs.length<=n
 |0,zs,_,hb=>by
  cases zs with
  |nil=>exact aQ _
  |cons x r=>
   have:=hb x (by simp);omega
 |n+1,zs,hn,hb=>by
  by_cases c:(n:Int)∈zs
  ·have h1:=rJ n (hn.erase (n:Int)) λx hx=>by
    obtain⟨h2,h3⟩:=hn.mem_erase_iff.mp hx;have:=hb x h3;omega
   rw[List.length_erase_of_mem c] at h1;omega
  ·have h1:=rJ n hn λx hx=>by
    have:=hb x hx;have:x≠n:=λe=>c (e▸hx);omega
   omega
section
variable{X:Cx}
theorem uA(hc:X.calm=true:=by rfl):iD X (.type "set") (λxs H Q=>∃(p:Addr) (ns:List Int),xs=[.ref p]/\SqL X.K H p (ns.map V.int)/\ns.length+1<4096/\∀q,H q=none->Q (.ref q) (upd H q (Af X.prog X.w q ns))):=by
 refine⟨λpins s σ H xs us Q I r h=>?_⟩;obtain⟨p,ns,rfl,hS,hl,k⟩:=h;obtain⟨u,rfl,ru⟩:=jk r;cases ru;obtain⟨its,rv,pl,hlen⟩:=I.list hS;have hi:=Bm rv;refine MF (I.ok.hd hc) pl.isList (by simpa using hi) (by have:=IntsAre.length hi;show its.toArray.size+1<4096;rw[bI];omega) λh' tk es ep t e SE m kp=>?_;refine⟨.ref s.heap.objs.size,_,I.laid (a:=s.heap.objs.size) (o:=Af X.prog X.w s.heap.objs.size ns) kp (aQ _) ⟨⟨es,ep,t,e,SE,m⟩,⟨_,e⟩,λh1 h2 ⟨es,ep,t,e,SE,m⟩ kk=>⟨es,ep,t,kk _ e,SE,m⟩⟩,rfl,k _ (I.hok.fresh (aQ _))⟩
theorem uj(hc:X.calm=true:=by rfl):iD X (.builtin "sorted") (λxs H Q=>∃(q:Addr) (ns:List Int),xs=[.ref q]/\H q=some (Af X.prog X.w q ns)/\(∀x∈ns,0<=x/\x<63)/\∀(D:Addr) (zs:List Int),H D=none->zs.Pairwise (·<·)->(∀x,x∈zs↔x∈ns)->Q (.ref D) (upd H D (.lst (zs.map V.int)))):=by
 refine⟨λpins s σ H xs us Q I r h=>?_⟩;obtain⟨q,ns,rfl,hq,hb,k⟩:=h;obtain⟨u,rfl,ru⟩:=jk r;cases ru;obtain⟨es,ep,t,e,SE,m⟩:=(I.hok q _ hq).1;have h63:=rJ 63 SE.nd λx hx=>hb x ((m x).mp hx);have hes:es.size<64:=by
  unfold ij at h63;rw[aR,bS] at h63;omega
 refine Jv (I.ok.hd hc) e SE hes λs' D vs zs c lD eD hi hp hm kp g o=>?_;have vz:=zh hi;have lz:zs.length<=63:=rJ 63 (hp.imp λh=>by omega) λx hx=>hb x ((m x).mp ((hm x).mp hx));have J:=(I.laid (a:=D) (o:=.lst (zs.map V.int)) (t':=s.toks) (h':=s'.heap) kp lD ⟨by rw[aR,eT];omega,vs,c,vz,eD⟩).other (s':=s') rfl g o;exact⟨.ref D,_,J,rfl,k D zs (I.hok.fresh lD) hp λx=>(hm x).trans (m x)⟩
variable{js:List Nat}{σ:St}{tt:TT}{te:TE}{Q:VK}{H1:Hp}
end
theorem je{a b:List Nat}{A B:Prop}(h1:a=b->A)(h2:¬a=b->B):if decide (V.str (Tx a)=V.str (Tx b))=true then A else B:=by
 rw[qL];exact gn h1 h2
theorem FW{a:List Nat}{A B:Prop}(h:A):if decide (V.str (Tx a)=V.str (Tx a))=true then A else B:=je (λ_=>h) λc=>absurd rfl c
theorem hU{a b:List Nat}{A B:Prop}(c:¬a=b)(h:B):if decide (V.str (Tx a)=V.str (Tx b))=true then A else B:=je (λe=>absurd e c) λ_=>h
end L2
namespace KM
open PySem PySem.Spec PyProof.Rows L2
inductive Mk where
 |num (m:Int) | lst (b:Int) | nea (d:Int) | wrk | wkd (m:Int) | nth (w m:Int) | one (w:Int) | nil
 deriving DecidableEq
abbrev Ko:=Option (List Mk)
def Lf(l f:Int):Prop:=(28<=l/\l<=31)/\0<=f/\f<=6
noncomputable def jv(ds:List Int):Int:=(ds.map λd=>1*2^d.toNat).sum
noncomputable def mZ:List Int->Bool
 |[]=>true
 |[_]=>true
 |x::y::r=>decide (x<y)&&mZ (y::r)
noncomputable def rd(ds:List Int):Bool:=decide (ds.length<=31)&&(mZ ds&&ds.all λd=>decide (0<=d)&&decide (d<=31))
theorem Fv:∀{ds:List Int},mZ ds=true->ds.Pairwise (·<·)
 |[],_=>.nil
 |[_],_=>.cons (λ_ h=>nomatch h) .nil
 |x::y::r,h=>by
  have h':(decide (x<y)&&mZ (y::r))=true:=h;rw[bE] at h';have ih:=Fv h'.2;refine .cons (λz hz=>?_) ih;rcases aX.mp hz with rfl | hz
  ·exact eX h'.1
  ·exact Int.lt_trans (eX h'.1) ((dJ.mp ih).1 z hz)
theorem HN{ds:List Int}(h:rd ds=true):ds.length<=31/\ds.Pairwise (·<·)/\∀d∈ds,0<=d/\d<=31:=by
 unfold rd at h;rw[bE,bE] at h;refine⟨eX h.1,Fv h.2.1,λd hd=>?_⟩;have z:=bV.mp h.2.2 d hd;rw[bE] at z;exact⟨eX z.1,eX z.2⟩
theorem CV(ds:List Int):0<=jv ds:=by
 unfold jv;induction ds with
 |nil=>exact aS 0
 |cons d ds ih=>
  have:=gS d.toNat;rw[bH,List.sum_cons];omega
theorem C9{n:Nat}:∀{ds:List Int} (a:Nat),ds.Pairwise (·<·)->(∀d∈ds,(a:Int)<=d/\d<(n:Int))->a<=n->jv ds+2^a<=2^n
 |[],a,_,_,h=>by
  have:=Nat.pow_le_pow_right (show 0<2 by decide) h;have e:((2:Int)^a)<=2^n:=by exact_mod_cast this
  show (0:Int)+2^a<=2^n;omega
 |d::ds,a,hp,hb,h=>by
  have p:=dJ.mp hp;have hd:=hb d (bF ..);have ih:=C9 (n:=n) (d.toNat+1) p.2 (λz hz=>by
   have:=p.1 z hz;have:=hb z (bG _ hz);omega) ⋯
  have hm:=Nat.pow_le_pow_right (show 0<2 by decide) (show a<=d.toNat by omega);have e:((2:Int)^a)<=2^d.toNat:=by exact_mod_cast hm
  have e2:(2:Int)^(d.toNat+1)=2^d.toNat*2:=Int.pow_succ ..;unfold jv at ih ⊢;rw[bH,List.sum_cons];omega
noncomputable def j7(m l:Int):Int:=Builtin.bitAnd m (2*2^l.toNat-2)
noncomputable def l8(b l:Int):Int:=if l<=b then 0 else 1*2^(l-b).toNat
noncomputable def mz(m:Int)(n:Nat):Bool:=decide (Builtin.bitAnd (m / 2^(1+(n:Int)).toNat) 1=1)
noncomputable def kj(m:Int):Nat->List Int
 |0=>[]
 |n+1=>kj m n++(if mz m n=true then [1+(n:Int)] else [])
noncomputable def nw(d l f:Int):Int:=if (f+d-1)%7=6 then (if 1<d then d-1 else 3) else if (f+d-1)%7=0 then (if d<l then d+1 else l-2) else d
noncomputable def lR(d l f:Int):Int:=if l<d then 0 else 1*2^(nw d l f).toNat
noncomputable def wk(f:Int)(n:Nat):Bool:=decide (1<=(f+(1+(n:Int))-1)%7)&&decide ((f+(1+(n:Int))-1)%7<=5)
noncomputable def tT(f:Int):Nat->List Int
 |0=>[]
 |n+1=>tT f n++(if wk f n=true then [1+(n:Int)] else [])
noncomputable def ab(i:Int):Int:=if i<0 then -i else i
noncomputable def Gk(d acc o:Int):Int:=if acc=0 then o else if ab (o-d)<ab (acc-d) then o else acc
noncomputable def kF(w m f:Int):Int:=1+(w-f)%7+7*(m-1)
noncomputable def jY(w m l f:Int):Int:=if l<kF w m f then 0 else 1*2^(kF w m f).toNat
noncomputable def nE(w l f:Int):Int:=l-((f+l-1)%7-w)%7
noncomputable def zo(w l f:Int):Int:=1*2^(nE w l f).toNat
noncomputable def qi(m:Int):Nat->Int
 |0=>0
 |n+1=>Builtin.bitOr (qi m n) (m*2^(7*(0+(n:Int))).toNat)
noncomputable def jX(m l f:Int):Int:=Builtin.bitAnd (qi m 6 / 2^f.toNat*2^(1:Int).toNat) (2*2^l.toNat-2)
noncomputable def YV(f w:Int)(n:Nat):Bool:=decide ((f+(1+(n:Int))-1)%7=w)
noncomputable def sC(f w:Int):Nat->List Int
 |0=>[]
 |n+1=>sC f w n++(if YV f w n=true then [1+(n:Int)] else [])
noncomputable def qE(m f:Int)(n:Nat):Bool:=decide (Builtin.bitAnd (m / 2^((f+(1+(n:Int))-1)%7).toNat) 1=1)
noncomputable def p5(m f:Int):Nat->List Int
 |0=>[]
 |n+1=>p5 m f n++(if qE m f n=true then [1+(n:Int)] else [])
noncomputable def ka:List Int:=[1,2,3,4,5,6,7,8,9,10,11,12,13,14,15,16,17,18,19,20,21,22,23,24,25,26,27,28,29,30,31]
noncomputable def hZ:List Int:=[28,29,30,31]
noncomputable def iz:List Int:=[0,1,2,3,4,5,6]
noncomputable def rf:List Int:=[1,2,3,4,5]
noncomputable def oB:List Int:=(List.range 128).map λn:Nat=>(n:Int)
theorem I9:∀l∈hZ,∀f∈iz,∀d∈ka,d<=l->(tT f l.toNat).foldl (Gk d) 0=nw d l f/\1<=nw d l f/\nw d l f<=31:=by decide +kernel
theorem Zq:∀l∈hZ,∀f∈iz,∀w∈iz,∀m∈rf,jY w m l f=jv (Ce (sC f w l.toNat) (some (m-1)) (some m))/\rd (Ce (sC f w l.toNat) (some (m-1)) (some m))=true/\0<=kF w m f/\kF w m f<=100:=by decide +kernel
theorem Iy:∀l∈hZ,∀f∈iz,∀w∈iz,jb ((sC f w l.toNat).map V.int) (-1)=some (V.int (nE w l f))/\0<=nE w l f/\nE w l f<=31:=by decide +kernel
theorem Ho:∀m∈oB,∀l∈hZ,∀f∈iz,jX m l f=jv (p5 m f l.toNat)/\rd (p5 m f l.toNat)=true:=by decide +kernel
theorem Sr:∀m∈oB,(∀n:Nat,n<7->(qi m n).natAbs<2^60)/\∀f∈iz,(qi m 6 / 2^f.toNat).natAbs<2^64:=by decide +kernel
theorem iI{l:Int}(h0:28<=l)(h1:l<=31):l∈hZ:=by
 have:l=28∨l=29∨l=30∨l=31:=⋯;rcases this with rfl | rfl | rfl | rfl<;>decide
theorem iH{f:Int}(h0:0<=f)(h1:f<=6):f∈iz:=by
 have:f=0∨f=1∨f=2∨f=3∨f=4∨f=5∨f=6:=⋯;rcases this with rfl | rfl | rfl | rfl | rfl | rfl | rfl<;>decide
theorem wR{m:Int}(h0:1<=m)(h1:m<=5):m∈rf:=by
 have:m=1∨m=2∨m=3∨m=4∨m=5:=⋯;rcases this with rfl | rfl | rfl | rfl | rfl<;>decide
theorem pI{m:Int}(h0:0<=m)(h1:m<=127):m∈oB:=by
 unfold oB;exact bD.mpr ⟨m.toNat,cT.mpr ⋯,⋯⟩
theorem kM{d:Int}(h0:1<=d)(h1:d<=31):d∈ka:=by
 have e:d=1+((d-1).toNat:Int):=⋯;have hn:(d-1).toNat<31:=⋯;rw[e];generalize (d-1).toNat=n at hn;have all:∀n:Nat,n<31->(1+(n:Int))∈ka:=by decide +kernel
 exact all n hn
theorem zE{d:Int}(h0:0<=d)(h1:d<=30):d∈0::ka:=by
 by_cases e:d=0
 ·rw[e];exact bF ..
 ·exact bG _ (kM ⋯ ⋯)
def sY(d l f:Int):Prop:=(1<=d/\d<=31)/\(28<=l/\l<=31)/\0<=f/\f<=6
theorem rE{d l f:Int}(h:sY d l f)(hd:d<=l):(tT f l.toNat).foldl (Gk d) 0=nw d l f/\1<=nw d l f/\nw d l f<=31:=I9 l (iI h.2.1.1 h.2.1.2) f (iH h.2.2.1 h.2.2.2) d (kM h.1.1 h.1.2) hd
theorem Lf.last{l f:Int}(h:Lf l f):sY l l f:=⟨⟨by have:=h.1.1;omega,h.1.2⟩,h.1,h.2⟩
theorem YD{m:Int}(h:0<=m)(n:Nat):mz m n=tb m (n+1):=by
 have e:(1+(n:Int)).toNat=n+1:=⋯;unfold mz;rw[e];by_cases c:tb m (n+1)=true
 ·rw[c];exact eY ((pk h _).mpr c)
 ·have c':tb m (n+1)=false:=by simpa using c
  rw[c'];exact fB λq=>c ((pk h _).mp q)
noncomputable def qJ(m:Int)(i:Nat):Bool:=decide (1<=i)&&tb m i
theorem EG{m:Int}(h:0<=m):∀n:Nat,jv (kj m n)=kN (qJ m) (n+1)
 |0=>by
  have e:qJ m 0=false:=rfl;rw[BX,KB,e];rfl
 |n+1=>by
  have ih:=EG h n;rw[BX,←ih];show jv (kj m n++(if mz m n=true then [1+(n:Int)] else []))=_;have e:qJ m (n+1)=mz m n:=by rw[YD h];unfold qJ;simp
  have e1:(1+(n:Int)).toNat=n+1:=⋯;rw[e];unfold jv;rw[bB,List.sum_append];by_cases c:mz m n=true
  ·rw[if_pos c,if_pos c];show _+(1*2^(1+(n:Int)).toNat+0)=_;rw[e1];omega
  ·rw[if_neg c,if_neg c];rfl
theorem xm(m:Int):∀n:Nat,(kj m n).length<=n/\(kj m n).Pairwise (·<·)/\∀d∈kj m n,0<=d/\d<=n
 |0=>⟨aQ _,.nil,λd hd=>nomatch hd⟩
 |n+1=>by
  obtain⟨h1,hp,h2⟩:=xm m n;show (kj m n++(if mz m n=true then [1+(n:Int)] else [])).length<=n+1/\(kj m n++(if mz m n=true then [1+(n:Int)] else [])).Pairwise (·<·)/\∀d∈kj m n++(if mz m n=true then [1+(n:Int)] else []),_;split
  ·refine⟨by simp;omega,List.pairwise_append.mpr ⟨hp,.cons (λ_ h=>nomatch h) .nil,λa ha b hb=>?_⟩,λd hd=>?_⟩
   ·have:b=1+(n:Int):=by simpa using hb
    have:=h2 a ha;omega
   ·rcases bP.mp hd with z | z
    ·have:=h2 d z;omega
    ·have:d=1+(n:Int):=by simpa using z
     omega
  ·rw[cU];refine⟨⋯,hp,λd hd=>?_⟩;have:=h2 d hd;omega
theorem xc{m l:Int}(h:0<=m)(hl:28<=l/\l<=31):j7 m l=jv (kj m l.toNat)/\(kj m l.toNat).length<=31/\(kj m l.toNat).Pairwise (·<·)/\∀d∈kj m l.toNat,0<=d/\d<=31:=by
 obtain⟨k1,kp,k2⟩:=xm m l.toNat;have hp:=gS l.toNat;refine⟨?_,⋯,kp,λd hd=>by have:=k2 d hd;omega⟩;rw[EG h];have e:(2*2^l.toNat-2:Int)=(2^l.toNat-1)*2^1:=⋯;have n0:(0:Int)<=2^l.toNat-1:=⋯;have n1:(0:Int)<=(2^l.toNat-1)*2^1:=⋯;unfold j7;rw[e];refine i6 (nD h n1) (qR _ _) λi=>?_;rw[kX h n1,pL n0,tE,rW];unfold qJ;by_cases c1:1<=i
 ·have:(i-1<l.toNat)↔(i<l.toNat+1):=⋯;simp only[c1,this,decide_true,cY];rw[Bool.and_comm]
 ·simp[c1]
theorem rng{l:Int}(hl:28<=l/\l<=31):(-(2^62)<=(1:Int)/\(1:Int)<2^62/\ -(2^62)<=l+1/\l+1<2^62)/\(l+1-1).toNat=l.toNat/\(l+1-1).toNat<=sizeLine:=by
 obtain⟨h0,h1⟩:=hl;refine⟨⟨by decide,by decide,⋯,⋯⟩,⋯,?_⟩;rw[eT];omega
noncomputable def mD(w m:Int):List (Str×V):=gd "many" (.int m) (gd "weekday" (.int w) [])
theorem qe:¬(("weekday":Str)="many"):=by decide +kernel
theorem Kp(w m:Int):(mD w m).lookup ("weekday":Str)=some (.int w):=by
 unfold mD;rw[gr,if_neg qe,gr,if_pos rfl]
theorem Mo(w m:Int):(mD w m).lookup ("many":Str)=some (.int m):=by
 unfold mD;rw[gr,if_pos rfl]
theorem Zw(w m:Int):(mD w m).lookup ("days":Str)=none:=by
 unfold mD;rw[gr,if_neg (by decide +kernel),gr,if_neg (by decide +kernel)];rfl
noncomputable def Mk.due:Mk->Int->Int->Int
 |.num m,l,_=>j7 m l
 |.lst b,l,_=>l8 b l
 |.nea d,l,f=>lR d l f
 |.wrk,l,f=>1*2^(nw l l f).toNat
 |.wkd m,l,f=>jX m l f
 |.nth w m,l,f=>jY w m l f
 |.one w,l,f=>zo w l f
 |.nil,_,_=>0
def Mk.ok:Mk->Prop
 |.num m=>0<=m
 |.lst b=>0<=b/\b<=30
 |.nea d=>1<=d/\d<=31
 |.wrk=>True
 |.wkd m=>0<=m/\m<=127
 |.nth w m=>(0<=w/\w<=6)/\1<=m/\m<=5
 |.one w=>0<=w/\w<=6
 |.nil=>True
noncomputable def Mk.wk:Mk->Bool
 |.wkd _ | .nth _ _ | .one _=>true
 |_=>false
noncomputable def Mk.tup:Mk->List V
 |.num m=>[.str (Tx [112,108,97,105,110]),.int m,.int 0]
 |.wkd m=>[.str (Tx [112,108,97,105,110]),.int m,.int 0]
 |.lst b=>[.str (Tx [108,97,115,116]),.int b,.int 0]
 |.nea d=>[.str (Tx [110,101,97,114]),.int d,.int 0]
 |.wrk=>[.str (Tx [119,111,114,107]),.int 0,.int 0]
 |.nth w m=>[.str (Tx [110,116,104]),.int w,.int m]
 |.one w=>[.str (Tx [108,97,115,116,111,110,101]),.int w,.int 0]
 |.nil=>[]
noncomputable def Mk.sp:Mk->Bool
 |.nil=>false
 |_=>true
theorem pY{k:Mk}{l f:Int}(hk:k.ok)(h:Lf l f):0<=k.due l f:=by
 have p1:∀n:Nat,(0:Int)<=1*2^n:=λn=>by have:=gS n;omega
 cases k with
 |num m=>show 0<=j7 m l;rw[(xc hk h.1).1];exact CV _
 |lst b=>show 0<=l8 b l;unfold l8;split;exact aS 0;exact p1 _
 |nea d=>show 0<=lR d l f;unfold lR;split;exact aS 0;exact p1 _
 |wrk=>exact p1 _
 |wkd m=>show 0<=jX m l f;rw[(Ho m (pI hk.1 hk.2) l (iI h.1.1 h.1.2) f (iH h.2.1 h.2.2)).1];exact CV _
 |nth w m=>show 0<=jY w m l f;unfold jY;split;exact aS 0;exact p1 _
 |one w=>exact p1 _
 |nil=>exact aS 0
noncomputable def i8(ks:List Mk)(l f:Int):Int:=gz (ks.map λk=>k.due l f)
theorem SG(ks:List Mk)(k:Mk)(l f:Int):i8 (ks++[k]) l f=Builtin.bitOr (i8 ks l f) (k.due l f):=by unfold i8;rw[bB];exact pX _ _
theorem MG{ks ks':List Mk}{l f:Int}(h:Lf l f)(o:∀k∈ks,k.ok)(o':∀k∈ks',k.ok)(e:∀i,(ks.any λk=>tb (k.due l f) i)=(ks'.any λk=>tb (k.due l f) i)):i8 ks l f=i8 ks' l f:=by
 have n:∀(js:List Mk),(∀k∈js,k.ok)->∀m∈js.map (λk=>k.due l f),0<=m:=λjs hj m hm=>by
  obtain⟨k,hk,rfl⟩:=bD.mp hm;exact pY (hj k hk) h
 refine i6 (kQ (n ks o)) (kQ (n ks' o')) λi=>?_;unfold i8;rw[jW (n ks o),jW (n ks' o'),List.any_map,List.any_map];exact e i
structure Cs where
 (nu la ne lw we nt lo ma:Addr)
def MkAt(c:Cs)(H:Hp)(x:Addr):Mk->Prop
 |.num m=>∃dx,H x=some (.ins c.nu dx [("mask",.int m)])
 |.lst b=>∃dx,H x=some (.ins c.la dx [("back",.int b)])
 |.nea d=>∃dx,H x=some (.ins c.ne dx [("day",.int d)])
 |.wrk=>∃dx,H x=some (.ins c.lw dx [])
 |.wkd m=>∃dx,H x=some (.ins c.we dx [("mask",.int m)])
 |.nth w m=>∃dx,H x=some (.ins c.nt dx (mD w m))
 |.one w=>∃dx,H x=some (.ins c.lo dx [("weekday",.int w)])
 |.nil=>∃dx,H x=some (.ins c.ma dx [])
theorem MkAt.keep{c:Cs}{H H':Hp}(s:Keep H H'){x:Addr}{k:Mk}(h:MkAt c H x k):MkAt c H' x k:=by
 cases k<;>(obtain⟨dx,h⟩:=h;exact⟨dx,s.ins h⟩)
def PrAt(H:Hp)(p:Addr)(k:Mk):Prop:=k.ok/\k.sp=true/\∃u,H p=some (.tup [.ref u,.bl k.wk])/\H u=some (.tup k.tup)
theorem PrAt.keep{H H':Hp}(s:Keep H H'){p:Addr}{k:Mk}(h:PrAt H p k):PrAt H' p k:=by
 obtain⟨o,e,u,h1,h2⟩:=h;exact⟨o,e,u,s.tup h1,s.tup h2⟩
abbrev Ft(R:Addr->Mk->Prop):List Addr->List Mk->Prop:=Paired R
theorem Ft.get{R:Addr->Mk->Prop}:∀{ps:List Addr} {ks:List Mk},Ft R ps ks->∀{i:Nat} {p:Addr},ps[i]? =some p->∃k,ks[i]? =some k/\R p k
 |_,_,.nil,_,_,h=>nomatch h
 |_,_,.cons r _,0,_,h=>by cases h;exact⟨(),r⟩
 |_,_,.cons _ t,i+1,_,h=>Ft.get t h
theorem Ft.keepM{c:Cs}{H H':Hp}(s:Keep H H'){ps:List Addr}{ks:List Mk}(h:Ft (MkAt c H) ps ks):Ft (MkAt c H') ps ks:=Paired.imp' (λ_ _ z=>z.keep s) h
theorem Ft.app{R:Addr->Mk->Prop}:∀{ps:List Addr} {ks:List Mk} {ps':List Addr} {ks':List Mk},Ft R ps ks->Ft R ps' ks'->Ft R (ps++ps') (ks++ks')
 |_,_,_,_,.nil,h=>h
 |_,_,_,_,.cons r t,h=>.cons r (Ft.app t h)
theorem Ft.all{H:Hp}:∀{ps:List Addr} {ks:List Mk},Ft (PrAt H) ps ks->∀k∈ks,k.ok
 |_,_,.nil,k,hk=>nomatch hk
 |_,_,.cons r t,k,hk=>by
  rcases aX.mp hk with rfl | hk
  ·exact r.1
  ·exact Ft.all t k hk
end KM
namespace L2
open PySem
theorem Ct{us:List Value}(h:us.length=1):∃a,us=[a]:=by
 cases us with
 |nil=>cases h
 |cons a r=>cases r with
  |nil=>exact⟨a,rfl⟩
  |cons b r=>cases h
theorem rX{us:List Value}{n:Nat}(h:us.length=n+1):∃a r,us=a::r/\r.length=n:=by
 cases us with
 |nil=>cases h
 |cons a r=>exact⟨a,r,rfl,Nat.succ.inj h⟩
theorem BE{us:List Value}(h:us.length=2):∃a b,us=[a,b]:=by
 obtain⟨a,r,rfl,h'⟩:=rX h;obtain⟨b,rfl⟩:=Ct h';exact⟨a,b,rfl⟩
theorem Gc{us:List Value}(h:us.length=3):∃a b c,us=[a,b,c]:=by
 obtain⟨a,r,rfl,h'⟩:=rX h;obtain⟨b,c,rfl⟩:=BE h';exact⟨a,b,c,rfl⟩
theorem Hi{us:List Value}(h:us.length=4):∃a b c d,us=[a,b,c,d]:=by
 obtain⟨a,r,rfl,h'⟩:=rX h;obtain⟨b,c,d,rfl⟩:=Gc h';exact⟨a,b,c,d,rfl⟩
theorem wu{us:List Value}(h:us.length=5):∃a b c d e,us=[a,b,c,d,e]:=by
 obtain⟨a,r,rfl,h'⟩:=rX h;obtain⟨b,c,d,e,rfl⟩:=Hi h';exact⟨a,b,c,d,e,rfl⟩
structure Eh(P:Program)(w:World)(K:FG)(mg:Str->Option Value)(base:Heap)(f:Addr)(k:Nat)(ps:List Str)(sp:Sp):Prop where
 ex:∃fd:FuncData,gD P w K mg base jj k f fd ps sp/\Binds K fd ps []/\PySem.W.keepIn K (.ref f)=true
theorem Df.at_{P:Program}{w:World}{K:FG}{mg:Str->Option Value}{base:Heap}{x:Str}{k:Nat}{ps:List Str}{sp:Sp}{f:Addr}(D:Df P w K mg base x k ps sp)(hm:mg x=some (.ref f)):Eh P w K mg base f k ps sp:=by
 obtain⟨f',fd,F,hb,hm',kp⟩:=D.ex;rw[hm] at hm';cases hm';exact⟨fd,F,hb,kp⟩
def XS(f:Addr)(sp:Sp)(tv:TE)(t:TA):TE:=λσ H Q=>tv σ H λv H1=>v=.ref f/\tq sp [] E0 t σ H1 Q
section
variable{X:Cx}{f:Addr}{k k':Nat}{ps:List Str}{sp:Sp}{y:Str}{e:Expr}{es:List Expr}{t:TA}{tv:TE}{p pos:Pos}
theorem ET(D:Eh X.prog X.w X.K X.mg X.base f k ps sp)(hr:Room k' X.A)(hv:E X (.Name y p) tv)(ha:As X (e::es) t)(hk:k<=k':=by decide)
  (he:starEach (e::es) X.env=(false,eval e X.env)::starEach es X.env:=by rfl) (hpl:(backTo pos (starEach es X.env)).any (·.1)=false:=by rfl):E X (.Call (.Name y p) (e::es) [] pos) (XS f sp tv t):=by
 obtain⟨fd,F,hb,kp⟩:=D.ex;refine⟨λpins s σ H Q I h=>?_⟩;refine fC (fU (hv.h pins s σ H _ I h) λv s1 ⟨x,H1,I1,r1,ex,q⟩=>?_);subst ex;cases r1;refine PySem.W.callWith_K (h₀:=X.base) I1.ok.mod.kin kp (fU (ha.h pos pins s1 σ H1 _ I1 q) λus s2 ⟨vs,H2,I2,r,q2⟩=>⟨I2.kIn,?_⟩) he hpl;exact yY F (hr.mono hk) hb .nil pP I2 r q2
end
section
variable{X:Cx}
def D5:V->List V->Hp->VK->Prop:=λx vs H Q=>∃l p:List Nat,x=.str (Tx l)/\vs=[.str (Tx p)]/\Q (.bl (decide (l.take p.length=p))) H
theorem aJC(l p:List Nat):(decide (0+(Tx p).length<=(Tx l).length)&&Builtin.Str.subAt (Tx l) (Tx p) 0)=decide (l.take p.length=p):=by
 rw[i9,i9];have e:(Tx l).cps.extract 0 (0+(Tx p).length)=(l.take p.length).toArray:=by
  rw[i9];show l.toArray.extract 0 (0+p.length)=_;simp
 have e2:(((l.take p.length).toArray==p.toArray:Bool))=decide (l.take p.length=p):=by
  by_cases h:l.take p.length=p
  ·rw[h];simp
  ·rw[fB h];exact beq_eq_false_iff_ne.mpr λz=>h (by simpa using congrArg Array.toList z)
 unfold Builtin.Str.subAt;rw[e];show (_&&((l.take p.length).toArray==p.toArray))=_;rw[e2];by_cases h:l.take p.length=p
 ·have:0+p.length<=l.length:=by
   have:=congrArg List.length h;rw[dE] at this;omega
  rw[eY this,cY]
 ·rw[fB h,cM]
theorem Zs:nR X "str.startswith" D5:=by
 intro pins s σ H x xs v us Q I rx rv h;obtain⟨l,p,rfl,rfl,q⟩:=h;obtain⟨u,rfl,r1⟩:=jk rv;obtain⟨t',rfl⟩:=r1;obtain⟨t,rfl⟩:=rx;refine call_gives PySem.F.slot_str_startswith (typeIs_str _ _ _) PySem.F.entry_str_startswith (PySem.F.args_str_startswith_2 _ _) (gives_str_startswith (Tx l) (Tx p) t t') ?_;rw[aJC];exact⟨.bl _,H,I,rfl,q⟩
theorem uW{o e:Expr}{to te:TE}{apos cpos:Pos}(ho:E X o to)(he:E X e te)(hbase:attributeBase o "startswith" X.env (eval o X.env)=eval o X.env:=by rfl)
  (hfew:((backTo cpos (starEach [e] X.env)).all (λx=> !x.1)&&(backToKw cpos (keywordEach [] X.env)).all (λx=>x.1.isSome)&&decide (([e]:List Expr).length+([]:List Keyword).length+(if ([]:List Keyword).isEmpty then 0 else 1)<30))=true:=by rfl)
  (hline:(apos.endLine==cpos.line)=true:=by rfl) (hs:starEach [e] X.env=(false,eval e X.env)::starEach [] X.env:=by rfl) (hplain:(backTo cpos (starEach [] X.env)).any (·.1)=false:=by rfl):
  E X (.Call (.Attribute o "startswith" apos) [e] [] cpos) (oI X.K "str" D5 to (jr te jQ)):=
 ⟨pU PySem.F.plainAttrs_str PySem.F.slot_str_startswith PySem.F.type_str_startswith Zs ho.h (mN he.h mO hs) hbase hfew hline hs hplain⟩
def ER:V->List V->Hp->VK->Prop:=λx vs H Q=>∃(l:List Nat) (c:Nat),x=.str (Tx l)/\vs=[.str (Tx [c])]/\Q (.bl (decide (l.getLast? =some c))) H
theorem Hw(l:List Nat)(c:Nat):(decide (0+(Tx [c]).length<=(Tx l).length)&&Builtin.Str.subAt (Tx l) (Tx [c]) ((Tx l).length-(Tx [c]).length))=decide (l.getLast? =some c):=by
 rw[i9,i9];rcases List.eq_nil_or_concat l with rfl | ⟨r,x,rfl⟩
 ·simp
 ·rw[List.concat_eq_append];have e:(Tx (r++[x])).cps.extract ((r++[x]).length - [c].length) ((r++[x]).length - [c].length+(Tx [c]).length)= #[x]:=by
   show (r++[x]).toArray.extract ((r++[x]).length-1) ((r++[x]).length-1+1)= #[x];rw[aY,bX,Nat.add_sub_cancel];simp
  unfold Builtin.Str.subAt;rw[e];have e2:decide (0+[c].length<=(r++[x]).length)=true:=by simp
  rw[e2,cY,List.getLast?_append,List.getLast?_singleton];show (#[x]== #[c])=decide (some x=some c);by_cases h:x=c
  ·subst h;simp
  ·have h2:¬some x=some c:=λz=>h (aZ z);rw[fB h2];exact beq_eq_false_iff_ne.mpr λz=>h (by simpa using z)
theorem Yy:nR X "str.endswith" ER:=by
 intro pins s σ H x xs v us Q I rx rv h;obtain⟨l,c,rfl,rfl,q⟩:=h;obtain⟨u,rfl,r1⟩:=jk rv;obtain⟨t',rfl⟩:=r1;obtain⟨t,rfl⟩:=rx;refine call_gives PySem.F.slot_str_endswith (typeIs_str _ _ _) PySem.F.entry_str_endswith (PySem.F.args_str_endswith_2 _ _) (gives_str_endswith (Tx l) (Tx [c]) t t') ?_;rw[Hw];exact⟨.bl _,H,I,rfl,q⟩
theorem Da{o e:Expr}{to te:TE}{apos cpos:Pos}(ho:E X o to)(he:E X e te)(hbase:attributeBase o "endswith" X.env (eval o X.env)=eval o X.env:=by rfl)
  (hfew:((backTo cpos (starEach [e] X.env)).all (λx=> !x.1)&&(backToKw cpos (keywordEach [] X.env)).all (λx=>x.1.isSome)&&decide (([e]:List Expr).length+([]:List Keyword).length+(if ([]:List Keyword).isEmpty then 0 else 1)<30))=true:=by rfl)
  (hline:(apos.endLine==cpos.line)=true:=by rfl) (hs:starEach [e] X.env=(false,eval e X.env)::starEach [] X.env:=by rfl) (hplain:(backTo cpos (starEach [] X.env)).any (·.1)=false:=by rfl):
  E X (.Call (.Attribute o "endswith" apos) [e] [] cpos) (oI X.K "str" ER to (jr te jQ)):=
 ⟨pU PySem.F.plainAttrs_str PySem.F.slot_str_endswith PySem.F.type_str_endswith Yy ho.h (mN he.h mO hs) hbase hfew hline hs hplain⟩
end
end L2
namespace KM
open PySem PySem.Spec PyProof.Rows L2
noncomputable def j9(t:List Nat):Option Mk:=
 if t=[76] then some (.lst 0) else if t=[76,87] then some .wrk
 else if t.take ([76,45]:List Nat).length=[76,45] then (gI 1 30 (jz t (some 2) none)).map Mk.lst
 else if t.getLast? =some 87 then (gI 1 31 (jz t none (some (-1)))).map Mk.nea else none
noncomputable def lj(t:List Nat):Option Int:=(gI 0 7 t).map λn=>if n=7 then 0 else n
noncomputable def EC:Option Int->Option Int->Option Mk
 |some w,some m=>some (.nth w m)
 |_,_=>none
noncomputable def mx(t:List Nat):Option Mk:=
 if t.getLast? =some 76 then (lj (jz t none (some (-1)))).map Mk.one
 else match fO 35 t with
  |[a,b]=>EC (lj a) (gI 1 5 b)
  |_=>none
noncomputable def jT(wk:Bool)(t:List Nat):Option Mk:=if wk=true then mx t else j9 t
def BU(c:Cs)(H:Hp)(v:V):Option Mk->Prop
 |none=>v=.non
 |some k=>∃x,v=.ref x/\MkAt c H x k
theorem n8(c:Nat):∀(l:List Nat),∀w∈fO c l,w.length<=l.length
 |[],w,hw=>by simp[fO] at hw;simp[hw]
 |x::r,w,hw=>by
  have ih:=n8 c r;unfold fO at hw;split at hw
  ·rcases aX.mp hw with z | z
   ·subst z;simp
   ·have:=ih w z;simp;omega
  ·split at hw
   ·rename_i h t e;rcases aX.mp hw with z | z
    ·subst z;have:=ih h (by rw[e];simp);simp;omega
    ·have:=ih w (by rw[e];simp[z]);simp;omega
   ·have:w=[x]:=by simpa using hw
    subst this;simp
noncomputable def ic(lo hi:Int)(ws:List (List Nat)):List Int:=ws.filterMap (gG lo hi)
noncomputable def iG(wk:Bool)(lo hi:Int)(ws:List (List Nat)):List Mk:=ws.filterMap λw=>if (gG lo hi w).isSome=true then none else jT wk w
theorem RM{lo hi:Int}{ws:List (List Nat)}{w:List Nat}{m:Int}(h:gG lo hi w=some m):ic lo hi (ws++[w])=ic lo hi ws++[m]:=by
 unfold ic;rw[eE];simp[h]
theorem Gy{lo hi:Int}{ws:List (List Nat)}{w:List Nat}(h:gG lo hi w=none):ic lo hi (ws++[w])=ic lo hi ws:=by
 unfold ic;rw[eE];simp[h]
theorem OR{wk:Bool}{lo hi:Int}{ws:List (List Nat)}{w:List Nat}{m:Int}(h:gG lo hi w=some m):iG wk lo hi (ws++[w])=iG wk lo hi ws:=by
 unfold iG;rw[eE];simp[h]
theorem qW{wk:Bool}{lo hi:Int}{ws:List (List Nat)}{w:List Nat}{k:Mk}(h:gG lo hi w=none)(hk:jT wk w=some k):iG wk lo hi (ws++[w])=iG wk lo hi ws++[k]:=by
 unfold iG;rw[eE];simp[h,hk]
theorem GP(wk:Bool)(lo hi:Int)(ws:List (List Nat))(i:Nat):(iG wk lo hi (ws.take i)).length<=(iG wk lo hi ws).length:=((List.take_sublist i ws).filterMap _).length_le
structure gY(wk:Bool)(lo hi:Int)(l:List Nat):Prop where
 len:l.length<=300
 few:(fO 44 l).length<=40
 all:∀w∈fO 44 l,(gG lo hi w).isSome=true∨(jT wk w).isSome=true
 most:(iG wk lo hi (fO 44 l)).length<=20
theorem Cy{xs:List V}(h:xs.length<=40):kr xs none (some 40)=xs:=by
 unfold kr;have e1:HT.sIx xs.length 0 none=0:=rfl;have e2:xs.length<=HT.sIx xs.length xs.length (some 40):=by
  show xs.length<=HT.sIx xs.length xs.length (some 40);unfold HT.sIx;simp;omega
 rw[e1,List.drop_zero,Nat.sub_zero];exact d9 e2
def wm(H:Hp)(r:V):Option (Int×Int)->Prop
 |none=>r=.non
 |some (a,b)=>∃p,r=.ref p/\H p=some (.tup [.int a,.int b])
theorem QI(es:List (Option Int)):(es.map oV).all kY=true:=by
 rw[List.all_map];refine bV.mpr λx _=>?_;cases x<;>rfl
noncomputable def ik(m:Int):Int:=Builtin.bitAnd (Builtin.bitOr m (m / 2^(7:Int).toNat)) 127
noncomputable def lL(wk:Bool)(m:Int):List Mk:=if m=0 then [] else if wk=true then [.wkd (ik m)] else [.num m]
noncomputable def nQ(wk:Bool)(lo hi:Int)(l:List Nat):List Mk:=lL wk (gz (ic lo hi (fO 44 l)))++iG wk lo hi (fO 44 l)
def Cl(t:List Nat):Prop:=(44∉t/\32∉t)/\t≠[]/\t.length<=8
instance (t:List Nat):Decidable (Cl t):=by unfold Cl;exact inferInstance
def kP(lo hi:Int)(t:List Nat)(ns:List Int):Prop:=gG lo hi t=some (fu ns)/\Cl t/\(∀n∈ns,lo<=n/\n<=hi)/\ns≠[]/\ns.length<=64
theorem oW{c:Nat}{a b:List Nat}{d:Nat}(h1:c∉a)(h2:c∉b)(h3:c≠d):c∉a++d::b:=by
 simp only[bP,aX,not_or];exact⟨h1,h3,h2⟩
theorem sO{a b:List Nat}{d:Nat}(ha:(44∉a/\32∉a)/\a≠[]/\a.length<=5)(hb:(44∉b/\32∉b)/\b.length<=2)(h1:44≠d)(h2:32≠d):Cl (a++d::b):=by
 refine⟨⟨oW ha.1.1 hb.1.1 h1,oW ha.1.2 hb.1.2 h2⟩,by simp,?_⟩;have:=ha.2.2;have:=hb.2;rw[aY,bZ];omega
theorem lU{n:Nat}(h:n<100):(44∉num n/\32∉num n)/\num n≠[]/\(num n).length<=2:=⟨⟨kg h (by decide),kg h (by decide)⟩,PL n,(oK n h).2.2.2⟩
theorem nY{a b s lo hi:Int}(h0:0<=a)(h1:b<=63)(hab:a<=b)(hs:0<s)(hl:lo<=a)(hb:b<=hi):(∀n∈iJ a b s,lo<=n/\n<=hi)/\iJ a b s≠[]/\(iJ a b s).length<=64:=by
 refine⟨λn hn=>?_,λe=>?_,?_⟩
 ·have:=(ww hs).mp hn;omega
 ·have:a∈iJ a b s:=(ww hs).mpr ⟨aS _,hab,by rw[Int.sub_self];rfl⟩;rw[e] at this;cases this
 ·rw[l6,aR,cJ,q9 hs,if_pos hab];have:=Int.ediv_le_self (a:=b-a) s ⋯;omega
theorem Qd(a:Int):iJ a a 1=[a]:=by
 rw[l6,q9 (by decide),if_pos (aS a),Int.sub_self];show [a+((0:Nat):Int)*1]=[a];simp
theorem i1{lo hi a:Int}(h0:0<=lo)(h1:lo<=a)(h2:a<=hi)(h3:hi<=63):kP lo hi (num a.toNat) [a]:=by
 have ha:a.toNat<100:=⋯;have e:=Cw (lo:=lo) (hi:=hi) ha ⋯ ⋯;rw[bK ⋯] at e;have c:=lU ha;have r:=nY (a:=a) (b:=a) (s:=1) (lo:=lo) (hi:=hi) ⋯ ⋯ ⋯ (by decide) h1 h2;have e2:=uK (kg ha (by decide)) e;unfold kT at e2;rw[Qd] at e2 r;exact⟨e2,⟨c.1,c.2.1,by have:=c.2.2;omega⟩,r⟩
theorem i2{lo hi a b:Int}(h0:0<=lo)(h1:lo<=a)(h2:a<=b)(h4:b<=hi)(h3:hi<=63):kP lo hi (num a.toNat++45::num b.toNat) (iJ a b 1):=by
 have ha:a.toNat<100:=⋯;have hb:b.toNat<100:=⋯;have e:=CD (lo:=lo) (hi:=hi) ha hb ⋯ ⋯ ⋯;rw[bK ⋯,bK ⋯] at e;have ca:=lU ha;have cb:=lU hb;exact⟨uK (oW (kg ha (by decide)) (kg hb (by decide)) (by decide)) e,sO ⟨ca.1,ca.2.1,by have:=ca.2.2;omega⟩ ⟨cb.1,cb.2.2⟩ (by decide) (by decide),nY ⋯ ⋯ h2 (by decide) h1 h4⟩
theorem i0{lo hi:Int}(h0:0<=lo)(h1:lo<=hi)(h3:hi<=63):kP lo hi [42] (iJ lo hi 1):=
 ⟨uK (by decide) EY,by decide,nY h0 h3 h1 (by decide) (aS _) (aS _)⟩
theorem i3{lo hi s:Int}(h0:0<=lo)(h1:lo<=hi)(h3:hi<=63)(hs:1<=s/\s<=99):kP lo hi ([42]++47::num s.toNat) (iJ lo hi s):=by
 have hs':s.toNat<100:=⋯;have e:=yQ (show 47∉[42] by decide) (EY (lo:=lo) (hi:=hi)) hs' ⋯;rw[if_neg (by decide),bK ⋯] at e;have cs:=lU hs';exact⟨e,sO (by decide) ⟨cs.1,cs.2.2⟩ (by decide) (by decide),nY h0 h3 h1 ⋯ (aS _) (aS _)⟩
theorem i4{lo hi a s:Int}(h0:0<=lo)(h1:lo<=a)(h2:a<=hi)(h3:hi<=63)(hs:1<=s/\s<=99):kP lo hi (num a.toNat++47::num s.toNat) (iJ a hi s):=by
 have ha:a.toNat<100:=⋯;have hs':s.toNat<100:=⋯;have e1:=Cw (lo:=lo) (hi:=hi) ha ⋯ ⋯;have e:=yQ (kg ha (by decide)) e1 hs' ⋯;rw[if_pos (oK _ ha).1,bK ⋯,bK ⋯] at e;have ca:=lU ha;have cs:=lU hs';exact⟨e,sO ⟨ca.1,ca.2.1,by have:=ca.2.2;omega⟩ ⟨cs.1,cs.2.2⟩ (by decide) (by decide),nY ⋯ h3 h2 ⋯ h1 (aS _)⟩
theorem i5{lo hi a b s:Int}(h0:0<=lo)(h1:lo<=a)(h2:a<=b)(h4:b<=hi)(h3:hi<=63)(hs:1<=s/\s<=99):kP lo hi ((num a.toNat++45::num b.toNat)++47::num s.toNat) (iJ a b s):=by
 have ha:a.toNat<100:=⋯;have hb:b.toNat<100:=⋯;have hs':s.toNat<100:=⋯;have e1:=CD (lo:=lo) (hi:=hi) ha hb ⋯ ⋯ ⋯;have e:=yQ (oW (kg ha (by decide)) (kg hb (by decide)) (by decide)) e1 hs' ⋯;rw[if_neg (by rw[W8 (c:=45) (by simp) (by decide)];exact a8),bK ⋯,bK ⋯,bK ⋯] at e;have ca:=lU ha;have cb:=lU hb;have cs:=lU hs';refine⟨e,sO ⟨⟨oW ca.1.1 cb.1.1 (by decide),oW ca.1.2 cb.1.2 (by decide)⟩,by simp,?_⟩ ⟨cs.1,cs.2.2⟩ (by decide) (by decide),nY ⋯ ⋯ h2 ⋯ h1 h4⟩
 have:=ca.2.2;have:=cb.2.2;rw[aY,bZ];omega
theorem JV:∀{zs:List Int},zs.Pairwise (·<·)->(∀z∈zs,0<=z)->∀i,0<=jv zs/\tb (jv zs) i=zs.any λz=>decide (z.toNat=i):=by
 intro zs hp hn i;have key:∀(n:Nat) (ys:List Int),ys.length=n->ys.Pairwise (·<·)->(∀z∈ys,0<=z)->jv ys=fu ys:=by
  intro n;induction n with
  |zero=>intro ys h _ _;rw[List.length_eq_zero_iff.mp h];rfl
  |succ n ih=>
   intro ys hl hp hn;rcases List.eq_nil_or_concat ys with rfl | ⟨r,z,rfl⟩
   ·cases hl
   rw[List.concat_eq_append] at hl hp hn ⊢;have hpa:=List.pairwise_append.mp hp;have er:=ih r (by rw[aY,bX] at hl;omega) hpa.1 λx hx=>hn x (dY _ hx);have hz:=hn z (cD _ (bJ.mpr rfl));have hb:tb (fu r) z.toNat=false:=by
    rw[jE,dC];intro x hx;have h1:=hpa.2.2 x hx z (bJ.mpr rfl);have h2:=hn x (dY _ hx);have:¬x.toNat=z.toNat:=⋯;simpa using this
   have e1:jv (r++[z])=jv r+1*2^z.toNat:=by unfold jv;rw[bB,List.sum_append];show _+(1*2^z.toNat+0)=_;omega
   have hnn:=jK r;have hp2:=bN (gS z.toNat);rw[e1,er,Bt];refine i6 ⋯ (mM hnn ⋯) λj=>?_;have e3:(1*2^z.toNat:Int)=2^z.toNat:=⋯;have hz0:Builtin.bitAnd (fu r) (2^z.toNat)=0:=by
    refine i6 (nD hnn hp2) (aS 0) λk=>?_;rw[kX hnn hp2,sj,gQ];by_cases c:z.toNat=k
    ·subst c;rw[hb];rfl
    ·simp[c]
   have ea:fu r+2^z.toNat=Builtin.bitOr (fu r) (2^z.toNat):=by rw[bitOr_and,hz0];omega
   rw[e3,ea]
 rw[key _ zs rfl hp hn];exact⟨jK _,jE _ _⟩
theorem mr{m:Int}(h:0<=m)(i:Nat):0<=ik m/\tb (ik m) i=((tb m i||tb m (7+i))&&decide (i<7)):=by
 have h1:(0:Int)<=m / 2^(7:Int).toNat:=Int.ediv_nonneg h (by decide);unfold ik;refine⟨nD (mM h h1) (by decide),?_⟩;rw[kX (mM h h1) (by decide),pD h h1,pJ h];have e:tb 127 i=decide (i<7):=tE 7 i;rw[e];rfl
theorem FA{ms:List Int}(h:∀m∈ms,0<=m):gz ms=0↔∀m∈ms,m=0:=by
 constructor
 ·intro e m hm;refine i6 (h m hm) (aS 0) λi=>?_;have z:=jW h i;rw[e,gQ] at z;have:=dC.mp z.symm m hm;rw[gQ];simpa using this
 ·intro e;refine i6 (kQ h) (aS 0) λi=>?_;rw[jW h,gQ,dC];intro m hm;rw[e m hm,gQ];exact a8
theorem Ey{ms:List Int}(h:∀m∈ms,0<=m):ik (gz ms)=gz (ms.map ik):=by
 have h':∀m∈ms.map ik,0<=m:=λm hm=>by
  obtain⟨z,hz,rfl⟩:=bD.mp hm;exact (mr (h z hz) 0).1
 refine i6 (mr (kQ h) 0).1 (kQ h') λi=>?_;rw[(mr (kQ h) i).2,jW h,jW h,jW h',List.any_map,c8];simp only[bE,cW,cN,fA,Function.comp];constructor
 ·rintro⟨⟨m,hm,e⟩ | ⟨m,hm,e⟩,hi⟩
  ·exact⟨m,hm,by rw[(mr (h m hm) i).2,e,eY hi];rfl⟩
  ·exact⟨m,hm,by rw[(mr (h m hm) i).2,e,eY hi,Bool.or_true];rfl⟩
 ·rintro⟨m,hm,e⟩;rw[(mr (h m hm) i).2,bE,cW,fA] at e;rcases e with ⟨e | e,hi⟩
  ·exact⟨.inl ⟨m,hm,e⟩,hi⟩
  ·exact⟨.inr ⟨m,hm,e⟩,hi⟩
theorem Ea{m:Int}(h0:0<m)(h1:m<=255):ik m≠0/\0<=ik m/\ik m<=127:=by
 have all:∀n:Nat,n<256->0<n->ik (n:Int)≠0/\0<=ik (n:Int)/\ik (n:Int)<=127:=by decide +kernel
 have e:m=((m.toNat:Nat):Int):=⋯;rw[e];exact all m.toNat ⋯ ⋯
def lF(b:Bool)(t:List Nat):Mk->Prop
 |.num m=>b=false/\gG 1 31 t=some m/\0<m
 |.wkd m=>b=true/\∃M,gG 0 7 t=some M/\(0<M/\M<=255)/\m=ik M
 |.nil=>False
 |k=>gG (if b=true then 0 else 1) (if b=true then 7 else 31) t=none/\jT b t=some k
theorem GR:lF false [76] (.lst 0)/\Cl [76]:=by
 refine⟨⟨?_,?_⟩,by decide⟩<;>decide +kernel
theorem DK:lF false [76,87] .wrk/\Cl [76,87]:=by
 refine⟨⟨?_,?_⟩,by decide⟩<;>decide +kernel
theorem Xb:∀n:Nat,n<31->1<=n->(gG 1 31 ([76,45]++num n)=none/\jT false ([76,45]++num n)=some (.lst n))/\Cl ([76,45]++num n):=by decide +kernel
theorem aH4:∀n:Nat,n<32->1<=n->(gG 1 31 (num n++[87])=none/\jT false (num n++[87])=some (.nea n))/\Cl (num n++[87]):=by decide +kernel
theorem WD:∀n:Nat,n<8->(gG 0 7 (num n++[76])=none/\jT true (num n++[76])=some (.one ((n:Int)%7)))/\Cl (num n++[76]):=by decide +kernel
theorem Bu:∀n:Nat,n<8->∀m:Nat,m<6->1<=m->(gG 0 7 (num n++[35]++num m)=none/\jT true (num n++[35]++num m)=some (.nth ((n:Int)%7) m))/\Cl (num n++[35]++num m):=by decide +kernel
theorem xM{ns:List Int}(h:ns≠[])(hn:∀n∈ns,0<=n):0<fu ns:=by
 have h0:=jK ns;rcases Int.lt_or_eq_of_le h0 with h1 | h1
 ·exact h1
 ·cases ns with
  |nil=>exact absurd rfl h
  |cons n r=>
   have z:=jE (n::r) n.toNat;rw[←h1,gQ,bR] at z;simp at z
theorem vJ{ns:List Int}{n:Nat}(hn:∀z∈ns,0<=z/\z<(n:Int)):fu ns<2^n:=by
 have e:fu ns=kN (tb (fu ns)) n:=by
  refine i6 (jK _) (qR _ _) λi=>?_;rw[rW];by_cases c:i<n
  ·rw[eY c,cY]
  ·rw[fB c,cZ,jE,dC];intro z hz;have:=hn z hz;have:¬z.toNat=i:=⋯;simpa using this
 rw[e];exact xG _ _
end KM
namespace L2
open PySem PySem.Spec PyProof.Rows PySem.SeqAt
section
variable{X:Cx}
structure IsC(K:FG)(C:Addr):Prop where
 ha:PySem.W.findIn K (.ref C) "__class__"=some (some (.builtin "object.__class__"))
 hn:PySem.W.specialIn K (.builtin "object.__class__") "__get__"=some (some (.builtin "getset_descriptor.__get__"))
 htk:PySem.W.takesIn K (.builtin "object.__class__")=some true
 hm:PySem.W.mroIn K C (.type "object")=some true
theorem IsC.ty{K:FG}{C a dx:Addr}{H:Hp}{fs:List (Str×V)}(i:IsC K C)(c:Cls K C)(h:H a=some (.ins C dx fs)):jL K H (.ref a) (.ref C):=.ins h c i.ha i.hn i.htk i.hm
end
end L2
namespace KM
open PySem PySem.Spec PyProof.Rows L2
def TpAt(b:Bool)(H:Hp)(u:Addr)(k:Mk):Prop:=H u=some (.tup k.tup)/\k.sp=true/\k.wk=b/\k.ok
theorem TpAt.keep{b:Bool}{H H':Hp}(s:Keep H H'){u:Addr}{k:Mk}(h:TpAt b H u k):TpAt b H' u k:=⟨s.tup h.1,h.2⟩
theorem Ft.keepT{b:Bool}{H H':Hp}(s:Keep H H'){ps:List Addr}{ks:List Mk}(h:Ft (TpAt b H) ps ks):Ft (TpAt b H') ps ks:=Paired.imp' (λ_ _ z=>z.keep s) h
noncomputable def Mk.pl:Mk->Option Int
 |.num m=>some m
 |.wkd m=>some m
 |_=>none
noncomputable def kz(ks:List Mk):List Int:=ks.filterMap Mk.pl
noncomputable def ng(ks:List Mk):List Mk:=ks.filter λk=>k.pl.isNone
noncomputable def qj(b:Bool)(M:Int):List Mk:=if M=0 then [] else if b=true then [.wkd M] else [.num M]
noncomputable def mI(b:Bool)(ks:List Mk):List Mk:=qj b (gz (kz ks))++ng ks
theorem BL{b:Bool}{ks:List Mk}(h:∀k∈ks,k.sp=true/\k.wk=b/\k.ok):∀m∈kz ks,0<=m/\(b=true->m<=127):=by
 intro m hm;obtain⟨k,hk,e⟩:=List.mem_filterMap.mp hm;have:=h k hk;cases k with
 |num z=>cases e;exact⟨this.2.2,λhb=>by rw[←this.2.1] at hb;cases hb⟩
 |wkd z=>cases e;exact⟨this.2.2.1,λ_=>this.2.2.2⟩
 |lst z=>cases e
 |nea z=>cases e
 |wrk=>cases e
 |nth z y=>cases e
 |one z=>cases e
 |nil=>cases e
theorem zk{ms:List Int}{n:Nat}(h:∀m∈ms,0<=m/\m<2^n):gz ms<2^n:=by
 have h0:∀m∈ms,0<=m:=λm hm=>(h m hm).1;have e:gz ms=kN (tb (gz ms)) n:=by
  refine i6 (kQ h0) (qR _ _) λi=>?_;rw[rW];by_cases c:i<n
  ·rw[eY c,cY]
  ·rw[fB c,cZ,jW h0,dC];intro m hm;rw[lJ (h m hm).2 ⋯];exact a8
 rw[e];exact xG _ _
theorem QJ{b:Bool}{ks:List Mk}(h:∀k∈ks,k.sp=true/\k.wk=b/\k.ok):∀k∈qj b (gz (kz ks)),k.sp=true/\k.wk=b/\k.ok:=by
 have hp:=BL h;have h0:0<=gz (kz ks):=kQ λm hm=>(hp m hm).1;intro k hk;unfold qj at hk;split at hk
 ·cases hk
 ·split at hk
  ·rename_i hb;rw[bJ.mp hk,hb];have e:(2:Int)^7=128:=by decide
   have:=zk (n:=7) (ms:=kz ks) λm hm=>⟨(hp m hm).1,by have:=(hp m hm).2 hb;omega⟩;exact⟨rfl,rfl,h0,⋯⟩
  ·rename_i hb;rw[bJ.mp hk];exact⟨rfl,by cases b with | true=>exact absurd rfl hb | false=>rfl,h0⟩
abbrev Ws(b:Bool):List (List Nat)->List Mk->Prop:=Paired λw k=>Cl w/\lF b w k
noncomputable def iW(b:Bool):Int:=if b=true then 0 else 1
noncomputable def iV(b:Bool):Int:=if b=true then 7 else 31
theorem GA(k:Mk)(ks:List Mk):kz (k::ks)=(match k.pl with | some m=>m::kz ks | none=>kz ks)/\ng (k::ks)=(match k.pl with | some _=>ng ks | none=>k::ng ks):=by
 unfold kz ng;rw[dN,List.filter_cons];cases k.pl<;>exact⟨rfl,rfl⟩
theorem PD(b:Bool)(lo hi:Int)(w:List Nat)(ws:List (List Nat)):ic lo hi (w::ws)=(match gG lo hi w with | some m=>m::ic lo hi ws | none=>ic lo hi ws)/\iG b lo hi (w::ws)=(match gG lo hi w with | some _=>iG b lo hi ws | none=>match jT b w with | some k=>k::iG b lo hi ws | none=>iG b lo hi ws):=by
 unfold ic iG;rw[dN,dN];cases gG lo hi w with
 |some m=>exact⟨rfl,rfl⟩
 |none=>exact⟨rfl,by cases jT b w<;>rfl⟩
def qb(b:Bool)(ws:List (List Nat))(ks:List Mk):Prop:=iG b (iW b) (iV b) ws=ng ks/\kz ks=(ic (iW b) (iV b) ws).map (λm=>if b=true then ik m else m)/\(∀m∈ic (iW b) (iV b) ws,0<m/\(b=true->m<=255))/\∀w∈ws,(gG (iW b) (iV b) w).isSome=true∨(jT b w).isSome=true
theorem zd(b:Bool):∀{ws:List (List Nat)} {ks:List Mk},Ws b ws ks->qb b ws ks
 |_,_,.nil=>⟨rfl,rfl,λm hm=>(nomatch hm),λw hw=>(nomatch hw)⟩
 |w::ws,k::ks,.cons r t=>by
  obtain⟨i1,i2,i3,i4⟩:=zd b t;have c1:=GA k ks;have c2:=PD b (iW b) (iV b) w ws;have plain:∀(m M:Int),k.pl=some m->gG (iW b) (iV b) w=some M->(m=if b=true then ik M else M)->(0<M/\(b=true->M<=255))->qb b (w::ws) (k::ks):=λm M e1 e2 e3 e4=>by
   unfold qb;rw[e1] at c1;rw[e2] at c2;rw[c1.1,c1.2,c2.1,c2.2];refine⟨i1,by rw[bH,←e3,←i2],λz hz=>?_,λv hv=>?_⟩
   ·rcases aX.mp hz with rfl | hz
    ·exact e4
    ·exact i3 z hz
   ·rcases aX.mp hv with rfl | hv
    ·exact .inl (by rw[e2];rfl)
    ·exact i4 v hv
  have mark:k.pl=none->gG (iW b) (iV b) w=none->jT b w=some k->qb b (w::ws) (k::ks):=λe1 e2 e3=>by
   unfold qb;rw[e1] at c1;rw[e2,e3] at c2;rw[c1.1,c1.2,c2.1,c2.2];refine⟨by rw[i1],i2,i3,λv hv=>?_⟩;rcases aX.mp hv with rfl | hv
   ·exact .inr (by rw[e3];rfl)
   ·exact i4 v hv
  cases k with
  |num m=>
   obtain⟨_,hb,hr,h0⟩:=r;subst hb;exact plain m m rfl hr rfl ⟨h0,λz=>nomatch z⟩
  |wkd m=>
   obtain⟨_,hb,M,hr,h0,hm⟩:=r;subst hb;exact plain m M rfl hr hm ⟨h0.1,λ_=>h0.2⟩
  |lst z=>exact mark rfl r.2.1 r.2.2
  |nea z=>exact mark rfl r.2.1 r.2.2
  |wrk=>exact mark rfl r.2.1 r.2.2
  |nth z y=>exact mark rfl r.2.1 r.2.2
  |one z=>exact mark rfl r.2.1 r.2.2
  |nil=>exact r.2.elim
theorem MJ{b:Bool}{ws:List (List Nat)}{ks:List Mk}{l:List Nat}(h:Ws b ws ks)(hl:fO 44 l=ws):nQ b (iW b) (iV b) l=mI b ks:=by
 obtain⟨i1,i2,i3,_⟩:=zd b h;have hz:∀m∈ic (iW b) (iV b) ws,0<=m:=λm hm=>bN (i3 m hm).1;unfold nQ mI;rw[hl,i1,i2];congr 1;cases b with
 |false=>
  have e:(ic (iW false) (iV false) ws).map (λm=>if false=true then ik m else m)=ic (iW false) (iV false) ws:=List.map_id'' (λ_=>rfl) _;rw[e];rfl
 |true=>
  have e:gz ((ic (iW true) (iV true) ws).map (λm=>if true=true then ik m else m))=ik (gz (ic (iW true) (iV true) ws)):=(Ey hz).symm;rw[e];unfold lL qj;by_cases c:gz (ic (iW true) (iV true) ws)=0
  ·rw[if_pos c,c];rfl
  ·have c2:¬ik (gz (ic (iW true) (iV true) ws))=0:=λz=>c (by
    rw[Ey hz] at z;have h0:∀m∈(ic (iW true) (iV true) ws).map ik,0<=m:=λm hm=>by
     obtain⟨y,hy,rfl⟩:=bD.mp hm;exact (mr (hz y hy) 0).1
    rw[FA hz];intro m hm;have:=(FA h0).mp z (ik m) (bD.mpr ⟨m,hm,rfl⟩);exact absurd this (Ea (i3 m hm).1 ((i3 m hm).2 rfl)).1)
   rw[if_neg c,if_neg c2];rfl
theorem none_of{H H':Hp}(s:Same H H'){p:Addr}(h:H' p=none):H p=none:=by
 cases e:H p with
 |none=>rfl
 |some o=>rw[s _ _ e] at h;cases h
theorem pz:∀(ws:List (List Nat)),(∀w∈ws,w.length<=8)->(gK 44 ws).length<=9*ws.length
 |[],_=>bM _
 |[w],h=>by
  have:=h w (bF ..);show w.length<=9;omega
 |w::v::ws,h=>by
  have ih:=pz (v::ws) λz hz=>h z (bG _ hz);have:=h w (bF ..);show (w++44::gK 44 (v::ws)).length<=_;rw[aY,bZ,bZ];omega
theorem Ws.cl{b:Bool}:∀{ws:List (List Nat)} {ks:List Mk},Ws b ws ks->∀w∈ws,Cl w
 |_,_,.nil,w,hw=>nomatch hw
 |_,_,.cons r t,w,hw=>by
  rcases aX.mp hw with rfl | hw
  ·exact r.1
  ·exact Ws.cl t w hw
theorem Hl{b:Bool}{ws:List (List Nat)}{ks:List Mk}(h:Ws b ws ks)(hne:ws≠[])(hn:ws.length<=20):fO 44 (gK 44 ws)=ws/\gY b (iW b) (iV b) (gK 44 ws):=by
 have hs:=qh 44 ws hne λw hw=>(h.cl w hw).1.1;have hl:=pz ws λw hw=>(h.cl w hw).2.2;refine⟨hs,⋯,by rw[hs];omega,?_,?_⟩
 ·rw[hs];exact (zd b h).2.2.2
 ·rw[hs];exact bL (List.length_filterMap_le ..) hn
def PrT(H:Hp)(ts:List Addr)(nW:List (Nat×Nat)):Prop:=Paired (λ(t:Addr) (pr:Nat×Nat)=>H t=some (.tup [.int pr.1,.int pr.2])) ts nW
theorem PrT.keep{H H':Hp}{ts:List Addr}{nW:List (Nat×Nat)}(h:PrT H ts nW)(k:Keep H H'):PrT H' ts nW:=Paired.mapP h λ_ _ z=>k.tup z
theorem Paired.at{α β:Type}{F:α->β->Prop}:∀{l:List α} {r:List β} {i:Nat} {a:α},Paired F l r->l[i]? =some a->∃b,r[i]? =some b/\F a b
 |_,_,_,_,.nil,e=>by simp at e
 |_,_,0,_,.cons h _,e=>by
  have:=aZ e;subst this;exact⟨(),h⟩
 |_,_,i+1,_,.cons _ t,e=>Paired.at (i:=i) t e
noncomputable def rt(x:Nat×Nat):List Nat:=if x.1=x.2 then num x.1 else num x.1++45::num x.2
theorem TU{x:Int}(h0:0<=x){n:Nat}(h:∀i,tb x i=true->i<n):x<2^n:=by
 have e:kN (tb x) n=x:=i6 (qR _ _) h0 λi=>by
  rw[rW];cases c:tb x i
  ·simp
  ·simp[h i c]
 rw[←e];exact xG _ _
noncomputable def Dd(b:Bool)(m l f:Int):Int:=if b=true then jX m l f else j7 m l
theorem FL{m f:Int}(h:0<=m)(n:Nat):qE m f n=tb m ((f+(1+(n:Int))-1)%7).toNat:=by
 unfold qE;by_cases c:tb m ((f+(1+(n:Int))-1)%7).toNat=true
 ·rw[c];exact eY ((pk h _).mpr c)
 ·have c':tb m ((f+(1+(n:Int))-1)%7).toNat=false:=by simpa using c
  rw[c'];exact fB λq=>c ((pk h _).mp q)
theorem wkN_mem{m f z:Int}:∀{n:Nat},z∈p5 m f n↔∃j,j<n/\qE m f j=true/\z=1+(j:Int)
 |0=>⟨λh=>(nomatch h),λ⟨j,h,_⟩=>absurd h (dB j)⟩
 |n+1=>by
  show z∈p5 m f n++(if qE m f n=true then [1+(n:Int)] else [])↔_;rw[bP,wkN_mem];constructor
  ·rintro (⟨j,h1,h2,h3⟩ | h)
   ·exact⟨j,dA h1,h2,h3⟩
   ·split at h
    ·rename_i c;exact⟨n,dD n,c,bJ.mp h⟩
    ·cases h
  ·rintro⟨j,h1,h2,h3⟩;by_cases c:j=n
   ·subst c;rw[if_pos h2];exact .inr (bJ.mpr h3)
   ·exact .inl ⟨j,⋯,h2,h3⟩
theorem si{m l f:Int}(h0:0<=m)(h1:m<=127)(h:Lf l f)(i:Nat):tb (jX m l f) i=(decide (1<=i)&&(decide ((i:Int)<=l)&&tb m ((f+(i:Int)-1)%7).toNat)):=by
 have hw:=Ho m (pI h0 h1) l (iI h.1.1 h.1.2) f (iH h.2.1 h.2.2);obtain⟨_,hp,hn⟩:=HN hw.2;rw[hw.1,(JV hp (λz hz=>(hn z hz).1) i).2,c8,cN];simp only[bE,fA];have hl:=h.1.1;constructor
 ·rintro⟨z,hz,e⟩;obtain⟨j,j1,j2,j3⟩:=wkN_mem.mp hz;rw[FL h0] at j2;have:i=1+j:=⋯;subst this;exact⟨⋯,⋯,j2⟩
 ·rintro⟨i1,i2,i3⟩;refine⟨(i:Int),wkN_mem.mpr ⟨i-1,⋯,?_,⋯⟩,⋯⟩;rw[FL h0,show (1+((i-1:Nat):Int))=(i:Int) by omega];exact i3
theorem Gf{m l:Int}(h0:0<=m)(hl:28<=l/\l<=31)(i:Nat):tb (j7 m l) i=(tb m i&&tb (2*2^l.toNat-2) i):=by
 have hp:=gS l.toNat;exact kX h0 ⋯ i
theorem xw{α:Type}(l:List α)(p:α->Bool)(c:Bool):(l.any λx=>c&&p x)=(c&&l.any p):=by
 induction l with
 |nil=>rw[List.any_nil,List.any_nil,cM]
 |cons x r ih=>rw[bR,bR,ih,Bool.and_or_distrib_left]
theorem sQ{α:Type}{p q:α->Bool}:∀{l:List α},(∀x∈l,p x=q x)->l.any p=l.any q
 |[],_=>rfl
 |x::r,h=>by rw[bR,bR,h x (bF ..),sQ λy hy=>h y (bG _ hy)]
theorem GD{b:Bool}{ms:List Int}{l f:Int}(hm:∀m∈ms,0<=m/\(b=true->m<=127))(h:Lf l f)(i:Nat):tb (Dd b (gz ms) l f) i=ms.any λm=>tb (Dd b m l f) i:=by
 have h0:∀m∈ms,0<=m:=λm hz=>(hm m hz).1;cases b with
 |false=>
  show tb (j7 (gz ms) l) i=ms.any λm=>tb (j7 m l) i;rw[Gf (kQ h0) h.1,jW h0,Bool.and_comm,←xw];exact sQ λm hz=>by rw[Gf (h0 m hz) h.1,Bool.and_comm]
 |true=>
  have e:(2:Int)^7=128:=by decide
  have hM:gz ms<=127:=by
   have:=zk (n:=7) (ms:=ms) λm hz=>⟨h0 m hz,by have:=(hm m hz).2 rfl;omega⟩;omega
  show tb (jX (gz ms) l f) i=ms.any λm=>tb (jX m l f) i;rw[si (kQ h0) hM h,jW h0,←xw,←xw];exact sQ λm hz=>by rw[si (h0 m hz) ((hm m hz).2 rfl) h]
theorem Xx{b:Bool}{k:Mk}{m:Int}(hp:k.pl=some m)(hw:k.wk=b)(l f:Int):k.due l f=Dd b m l f:=by
 cases k with
 |num z=>cases hp;cases hw;rfl
 |wkd z=>cases hp;cases hw;rfl
 |lst z=>cases hp
 |nea z=>cases hp
 |wrk=>cases hp
 |nth z y=>cases hp
 |one z=>cases hp
 |nil=>cases hp
theorem FN{b:Bool}(l f:Int)(i:Nat):∀{ks:List Mk},(∀k∈ks,k.wk=b)->(ks.any λk=>tb (k.due l f) i)=((kz ks).any (λm=>tb (Dd b m l f) i)||(ng ks).any λk=>tb (k.due l f) i)
 |[],_=>rfl
 |k::ks,h=>by
  have ih:=FN l f i (ks:=ks) λz hz=>h z (bG _ hz);have c:=GA k ks;have hk:=h k (bF ..);rw[bR,ih];cases e:k.pl with
  |some m=>
   rw[e] at c;rw[c.1,c.2,bR,Xx e hk,Bool.or_assoc]
  |none=>
   rw[e] at c;rw[c.1,c.2,bR];cases tb (k.due l f) i<;>cases (kz ks).any _<;>rfl
theorem zP{b:Bool}{ks:List Mk}(h:∀k∈ks,k.sp=true/\k.wk=b/\k.ok):∀k∈mI b ks,k.sp=true/\k.wk=b/\k.ok:=λk hk=>by
 rcases bP.mp hk with z | z
 ·exact QJ h k z
 ·exact h k ((List.mem_filter.mp z).1)
theorem Oz{b:Bool}{ks:List Mk}{l f:Int}(h:∀k∈ks,k.sp=true/\k.wk=b/\k.ok)(hlf:Lf l f):i8 (mI b ks) l f=i8 ks l f:=by
 refine MG hlf (λk hk=>(zP h k hk).2.2) (λk hk=>(h k hk).2.2) λi=>?_;have hp:=BL h;rw[FN l f i λk hk=>(h k hk).2.1,←GD hp hlf i];unfold mI;rw[List.any_append];congr 1;unfold qj;by_cases c:gz (kz ks)=0
 ·rw[if_pos c,c];have:=GD (b:=b) (ms:=[]) (λm hm=>nomatch hm) hlf i;rw[show gz []=0 from rfl] at this;rw[this];rfl
 ·rw[if_neg c];cases b with
  |true=>show (tb (jX _ l f) i||false)=_;rw[Bool.or_false];rfl
  |false=>show (tb (j7 _ l) i||false)=_;rw[Bool.or_false];rfl
end KM
namespace L2
open PySem PySem.Spec PyProof.Rows
section
variable{X:Cx}{f:Addr}{k k':Nat}{ps:List Str}{sp:Sp}{x y e:Expr}{es:List Expr}{t:TA}{tv:TE}{p pos:Pos}
variable{C:Addr}{m:Str}{o:Expr}{ta:TE}{apos:Pos}
end
section
variable{X:Cx}{body:List Stmt}{tb:TS}{h:ExceptHandler}{hs:List ExceptHandler}{pos:Pos}
theorem J1(hb:Ss X.nox body tb):S X (.Try body (h::hs) [] [] pos) tb:=by
 refine⟨λpins s σ H D I hw=>?_⟩;refine wpAny_Try_except (eP (hb.h pins s σ H D (I.wish _) hw) (λf s1 q=>?_) λe s1 hx=>False.elim hx);cases f with
 |next=>exact wpAny_execs_nil q.unwish
 |ret v=>exact q.unwish
 |brk=>exact q.unwish
 |cont=>exact q.unwish
end
section
variable{js:List Nat}{σ:St}{tt:TT}{te:TE}{Q:VK}{H1:Hp}
theorem Kn{K K':FG}{a:Addr}{xs:List V}(R:Addr->Nat->List V->Hp->Prop)(hm:∀D i l H l',R D i l H->R D i l (upd H D (.lst l')))(hS:∀D i l H H',Same H H'->R D i l H->R D i l H')(hn:xs.length<=sizeLine)(h0:∀D,H1 D=none->R D 0 [] H1)(hq:SqL K H1 a xs)
  (hs:∀(i:Nat) (x:V) (l:List V) (D:Addr) (H2:Hp) (E:V->Hp->Prop) (F:Hp->Prop),xs[i]? =some x->R D i l H2->H1 D=none->Same H1 H2->H2 D=some (.lst l)->(∀y H5,Same H2 H5->R D (i+1) (l++[y]) H5->E y H5)->(∀H4,Same H2 H4->R D (i+1) l H4->F H4)->
   tt (some (.int i)::some x::iN js σ) H2 λb H4=>if b=true then te (some (.int i)::some x::iN js σ) H4 E else F H4)
  (hd:∀(D:Addr) (H2:Hp) (l:List V),R D xs.length l H2->H1 D=none->Same H1 H2->H2 D=some (.lst l)->Q (.ref D) H2):
  x6 (nr K a) 2 js (sg K' 2 (qM (i7 0) (qM (i7 1) tH))) σ tt te Q H1:=by
 intro D hD;refine⟨λi m H2=>m=xs.length-i/\i<=xs.length/\Same H1 H2/\∃l,H2 D=some (.lst l)/\l.length<=i/\R D i l H2,⟨xs.length,by simp,bM _,fj hD _,[],fh,aQ _,hm _ _ _ _ _ (h0 D hD)⟩,?_⟩;rintro i m H2 ⟨rfl,hi,s2,l,h2,hll,hR⟩;by_cases hlt:i<xs.length
 ·refine .inr ⟨⟨xs,xs[i],s2.seq hq,by simp[hlt]⟩,λv H3 y τ hτ=>?_⟩;obtain⟨T,rfl,hT,ev⟩:=y;obtain⟨x,hx,rfl⟩:=ev xs (s2.seq hq);have sT:=fj hT (.tup [.int i,x]);have s3:=s2.trans sT;have h3:=sT _ _ h2;obtain⟨t0,t1,rfl⟩:∃t0 t1,τ=[t0,t1]:=by
   match τ,hτ with
   |[a,b],_=>exact⟨a,b,rfl⟩
  have h:=hs i x l D _ (λy H5=>∃ys,H5 D=some (.lst ys)/\ys.length<sizeLine/\∃m',m'<xs.length-i/\(m'=xs.length-(i+1)/\i+1<=xs.length/\Same H1 (upd H5 D (.lst (ys++[y])))/\∃l,(upd H5 D (.lst (ys++[y]))) D=some (.lst l)/\l.length<=i+1/\R D (i+1) l (upd H5 D (.lst (ys++[y]))))) (λH4=>∃m',m'<xs.length-i/\(m'=xs.length-(i+1)/\i+1<=xs.length/\Same H1 H4/\∃l,H4 D=some (.lst l)/\l.length<=i+1/\R D (i+1) l H4)) hx (hS _ _ _ _ _ sT hR) hD s3 h3
   (λz H5 s5 r5=>by
    refine⟨l,s5 _ _ h3,d8 hll (bA hlt hn),xs.length-(i+1),⋯,rfl,hlt,λb o hb=>?_,l++[z],fh,by rw[aY,bX];omega,hm _ _ _ _ _ r5⟩;rw[fH (gU hb hD)];exact s5 _ _ (s3 _ _ hb))
   (λH4 s4 r4=>⟨xs.length-(i+1),⋯,rfl,hlt,s3.trans s4,l,s4 _ _ h3,⋯,r4⟩)
  exact⟨T,[.int i,x],rfl,SqT.of fh,rfl,.int i,[x],rfl,x,[],rfl,rfl,⟨[some (.int i),some x],rfl,rfl⟩,h⟩
 ·have e:i=xs.length:=⋯;subst e;exact .inl ⟨⟨xs,s2.seq hq,rfl⟩,hd D H2 l hR hD s2 h2⟩
end
def KD(K:FG)(a:Addr)(kvs:List (Int×V)):Prop:=
 ∃(es:Array DictEntry) (ep:Nat) (vs:List (gc×Value)),K.lookup a=some ⟨.type "dict",none,.dict es ep,#[]⟩/\KV (kvs.map λx=>((Sum.inl x.1:gc),x.2)) vs/\(vs.map (·.1)).Nodup/\∀(P:Program) (w:World),KeysOf (jy P w) es/\PySem.Pairs (jy P w) es.toList vs
def SS(K:FG)(td ty:TE):TE:=λσ H Q=>td σ H λx H1=>ty σ H1 λy H2=>∃a kvs k v,x=.ref a/\KD K a kvs/\y=.int k/\kvs.lookup k=some v/\Q v H2
theorem Bw{k:Int}{v:V}:∀{kvs:List (Int×V)} {vs:List (gc×Value)},KV (kvs.map λx=>((Sum.inl x.1:gc),x.2)) vs->kvs.lookup k=some v->∃w',valueAt vs (Sum.inl k:gc)=some w'/\RelV v w'
 |[],_,_,h=>by cases h
 |(k0,v0)::r,_,.cons (b:=(k1,w1)) h t,hl=>by
  obtain⟨e1,e2⟩:=h;have e1:(Sum.inl k0:gc)=k1:=e1;subst e1;rw[dR] at hl;unfold valueAt;by_cases c:k=k0
  ·subst c;rw[show (k==k)=true from beq_self_eq_true k] at hl;cases hl;refine⟨w1,?_,e2⟩;rw[List.find?_cons_of_pos (by simp)];rfl
  ·rw[show (k==k0)=false from beq_false_of_ne c] at hl;obtain⟨w',h1,h2⟩:=Bw t hl;refine⟨w',?_,h2⟩;rw[List.find?_cons_of_neg (by simp;exact λz=>c z.symm)];exact h1
section
variable{X:Cx}{o i:Expr}{td ty:TE}{pos:Pos}
theorem uO(ho:E X o td)(hi:E X i ty)(hs:sD i:=by intro _ _;rfl):E X (.Subscript o i pos) (SS X.K td ty):=by
 refine⟨λpins s σ H Q I h=>?_⟩;refine Gr PySem.F.slot_dict_getitem.lookup hs (fU (ho.h pins s σ H _ I h) λu s1 ⟨x,H1,I1,rx,q1⟩=>fU (hi.h pins s1 σ H1 _ I1 q1) λiv s2 ⟨y,H2,I2,ry,a,kvs,k,v,ex,hk,ey,l,q2⟩=>?_);subst ex;subst ey;obtain rfl:u=Value.ref a:=rx;obtain⟨es,ep,vs,lk,kv,nd,kp⟩:=hk;obtain⟨k1,k2⟩:=kp X.prog X.w;have dd:s2.heap.DictOf (jy X.prog X.w) a vs:=⟨_,es,ep,I2.kIn _ _ lk,⟨rfl,rfl,rfl⟩,rfl,k1,k2,nd⟩
 obtain⟨w',hw,rw'⟩:=Bw kv l;exact⟨dd.typeIs,wpAny_getItem_of (qF (k:=Sum.inl k) ry) dd.mapOf hw ⟨v,H2,I2.tok _,rw',q2⟩⟩
end
end L2
namespace KM
open PySem PySem.Spec PyProof.Rows L2
theorem xy{ks:List Mk}{l f:Int}(h:Lf l f)(o:∀k∈ks,k.ok):0<=i8 ks l f:=kQ λm hm=>by
 obtain⟨k,hk,rfl⟩:=bD.mp hm;exact pY (o k hk) h
def DV(c:Cs)(H:Hp)(v:V):Ko->Prop
 |none=>v=.non
 |some ks=>∃p qs,v=.ref p/\H p=some (.lst (qs.map V.ref))/\Ft (MkAt c H) qs ks/\∀k∈ks,k.ok
theorem DV.keep{c:Cs}{H H':Hp}(s:Same H H'){v:V}:∀{ko:Ko},DV c H v ko->DV c H' v ko
 |none,h=>h
 |some _,⟨p,qs,e,h1,h2,h3⟩=>⟨p,qs,e,s _ _ h1,h2.keepM s.keep,h3⟩
noncomputable def jc(ko:Ko)(a l f:Int):Int:=match ko with
 |none=>a
 |some ks=>Builtin.bitOr a (i8 ks l f)
noncomputable def gg(kd kw:Ko)(l f:Int):Int:=if kd.isNone=true/\kw.isNone=true then 2*2^l.toNat-2 else jc kw (jc kd 0 l f) l f
def DT(b:Bool)(t:List Nat)(ko:Ko):Prop:=(32∉t/\t≠[])/\gY b (iW b) (iV b) t/\match ko with
 |none=>t=[42]
 |some ks=>t≠[42]/\(∀k∈ks,k.sp=true/\k.wk=b/\k.ok)/\nQ b (iW b) (iV b) t=mI b ks
noncomputable def gO(b:Bool):Ko->Ko
 |none=>none
 |some ks=>some (mI b ks)
theorem FP{b:Bool}{t:List Nat}{ko:Ko}(h:DT b t ko){a l f:Int}(hl:Lf l f):jc (gO b ko) a l f=jc ko a l f:=by
 cases ko with
 |none=>rfl
 |some ks=>
  show Builtin.bitOr a (i8 (mI b ks) l f)=Builtin.bitOr a (i8 ks l f);rw[Oz h.2.2.2.1 hl]
theorem GE(b:Bool)(ko:Ko):(gO b ko).isNone=ko.isNone:=by cases ko<;>rfl
theorem Eo{t u:List Nat}{kd kw:Ko}(hd:DT false t kd)(hw:DT true u kw){l f:Int}(hl:Lf l f):gg (gO false kd) (gO true kw) l f=gg kd kw l f:=by
 unfold gg;rw[GE,GE,FP hd hl,FP hw hl]
theorem uU{c d:Nat}(hcd:c≠d):∀{ws:List (List Nat)},(∀w∈ws,c∉w)->c∉gK d ws
 |[],_=>cF
 |[w],h=>h w (bF ..)
 |w::v::ws,h=>by
  show c∉w++d::gK d (v::ws);rw[bP,aX,not_or,not_or];exact⟨h w (bF ..),hcd,uU hcd λz hz=>h z (bG _ hz)⟩
theorem CA:∀{ws:List (List Nat)},ws≠[]->(∀w∈ws,w≠[])->∀d,gK d ws≠[]
 |[],h,_,_=>absurd rfl h
 |[w],_,h,_=>h w (bF ..)
 |w::v::ws,_,h,d=>λe=>by
  have e:w++d::gK d (v::ws)=[]:=e;rw[List.append_eq_nil_iff] at e;cases e.2
theorem rq(b:Bool):DT b [42] none:=by
 refine⟨by decide,?_,rfl⟩;have c:Cl [42]/\lF b [42] (if b=true then .wkd 127 else .num 4294967294):=by
  cases b with
  |true=>exact⟨by decide,rfl,255,by decide +kernel,by decide,by decide +kernel⟩
  |false=>exact⟨by decide,rfl,by decide +kernel,by decide⟩
 exact (Hl (.cons c .nil:Ws b [[42]] _) (dX _ _) (by show 1<=20;decide)).2
structure FT(lo hi:Int)(t:List Nat)(m:Int):Prop where
 ok:C8 lo hi t
 len:t.length<=300
 is:gz (lP lo hi t)=m
 sp:32∉t
 ne:t≠[]
 nn:0<=m
theorem BN{lo hi:Int}{ws:List (List Nat)}{nss:List (List Int)}(h:Paired (kP lo hi) ws nss)(hne:ws≠[])(hn:ws.length<=20):FT lo hi (gK 44 ws) (fu nss.flatten):=by
 have all:∀{ws:List (List Nat)} {nss:List (List Int)},Paired (kP lo hi) ws nss->(∀w∈ws,Cl w/\(gG lo hi w).isSome=true)/\(ws.map λw=>(gG lo hi w).getD 0)=nss.map fu:=by
  intro ws nss h;induction h with
  |nil=>exact⟨λw hw=>(nomatch hw),rfl⟩
  |cons r t ih=>
   refine⟨λw hw=>?_,?_⟩
   ·rcases aX.mp hw with z | z
    ·subst z;exact⟨r.2.1,by rw[r.1];rfl⟩
    ·exact ih.1 w z
   ·rw[bH,bH,ih.2,r.1];rfl
 have a:=all h;have hs:=qh 44 ws hne λw hw=>(a.1 w hw).1.1.1;have hl:=pz ws λw hw=>(a.1 w hw).1.2.2;refine⟨⟨by rw[hs];omega,by rw[hs];exact λw hw=>(a.1 w hw).2⟩,⋯,?_,uU (by decide) λx hx=>(a.1 x hx).1.1.2,CA hne (λx hx=>(a.1 x hx).1.2.1) 44,jK _⟩;unfold lP;rw[hs,a.2];have nn:∀m∈nss.map fu,0<=m:=λm hm=>by
  obtain⟨z,_,rfl⟩:=bD.mp hm;exact jK _
 refine i6 (kQ nn) (jK _) λi=>?_;rw[jW nn,jE,List.any_map,List.any_flatten];exact sQ λz _=>jE z i
end KM
namespace L2
open PySem PySem.Spec PyProof.Rows
section
open PySem.W Builtin Builtin.ObjectAttr
variable{prog:Program}{w:World}{A:Around}{E:Value->Shared->Prop}{s:Shared}{K:FG}{x C:Addr}{f:Str}{v:Value}{o:Obj}{vs:Array Value}
end
def PY(e C:Addr)(d:Option Addr)(h:Heap):Prop:=∃(vs:Array Value) (sl:Array (Option Value)),h.get? e=some ⟨.ref C,d,.fields vs,sl⟩/\vs[1]? =some .none/\vs[2]? =some .none/\4<vs.size
noncomputable def xn(a C:Addr)(d:Option Addr):HO:=.ext (PY a C d)
theorem PY.ok{P:Program}{w:World}{H:Hp}{h:Heap}{a C:Addr}{d:Option Addr}(x:PY a C d h):ObjOk P w H h a (xn a C d):=by
 obtain⟨vs,sl,e,r⟩:=id x;exact⟨x,⟨_,e⟩,λh1 h2 ⟨vs,sl,e,r⟩ k=>⟨vs,sl,k _ e,r⟩⟩
section
variable{X:Cx}{pins:List (Addr×Obj)}{σ:St}{H:Hp}{s:Shared}{a C:Addr}{f:Str}
variable{o e value:Expr}{ta tv:TE}{pos pos':Pos}
end
section
open PySem.W
variable{prog:Program}{w:World}{A:Around}{E:Value->Shared->Prop}{s:Shared}{K:FG}{C fI:Addr}
variable{X:Cx}{pins:List (Addr×Obj)}{σ:St}{H:Hp}
variable{env:Env}
end
section
variable{X:Cx}{E:XK}{x:Str}{C:Addr}{e:Expr}{es:List Expr}{t:TA}{np cpos pos:Pos}{k k':Nat}{ps:List Str}{sp:Sp}
end
structure RoomQ(k:Nat)(A:Around):Prop where
 dp:A.depth+3*k+5<recursionLimit
 un:A.units+16*k+200<cLine
theorem Room.q{k:Nat}{A:Around}(r:Room k A):RoomQ k A:=⟨r.dp,r.un⟩
section
variable{P:Program}{w:World}{K:FG}{mg:Str->Option Value}{base:Heap}{N ps:List Str}{qual:Str}{scope:Scope}{f:Addr}{cd:Value}{A:Around}{outer:List Env}{s s1:Shared}{H:Hp}{us:List Value}{vs:List V}
variable{x:Str}{st:Stmt}{k:Nat}{sp:Sp}
variable{X:Cx}{k':Nat}{e:Expr}{es:List Expr}{tA:TA}{p pos:Pos}
end
section
variable{X:Cx}{f:Addr}{k k':Nat}{ps:List Str}{sp:Sp}{x y e:Expr}{es:List Expr}{tA:TA}{tv:TE}{p pos:Pos}{t u:TX}
end
section
variable{M:Model}{A:Around}{E:Value->Shared->Prop}{s:Shared}{f:Obj->Prop}{B:Heap}{env:Env}{outer:List Env}{L e:Addr}{fl:Value}{Q:Unit->Shared->Prop}
end
section
variable{P:Program}{w:World}{K:FG}{mg:Str->Option Value}{base:Heap}{N:List Str}{qual:Str}{scope:Scope}{f:Addr}{cd:Value}{A:Around}{outer:List Env}{s0:Shared}{H0:Hp}{E:XK}
variable{X:Cx}{elt iter tg:Expr}{xs:List Str}{pos:Pos}{ifs:List Expr}{cl:List (Str×Addr)}{N':List Str}{js:List Nat}{tt:TT}{g:TG}{wi:TI}
variable{scope0:Scope}{te:TX}
variable{σ:St}{Q:VK}{H1:Hp}
variable{m:Str}{st:Stmt}{ps:List Str}{k:Nat}{sp:Sp}{C:Addr}
variable{pins:List (Addr×Obj)}{H:Hp}{s:Shared}
variable{x:Str}{a:Addr}{e:Expr}{es:List Expr}{t:TA}{np cpos p2:Pos}{j k':Nat}
end
theorem RoomQ.units{k:Nat}{A:Around}(r:RoomQ k A):A.units+64<cLine:=by have:=r.un;omega
section
variable{prog:Program}{w:World}{A:Around}{E:Value->Shared->Prop}{s:Shared}
variable{X:Cx}{elt iter:Expr}{x:Str}{px pos:Pos}{ifs:List Expr}{scope:Scope}{cl:List (Str×Addr)}{N':List Str}{js:List Nat}{tt:TT}{te:TE}
variable{a1:Expr}{p rpos:Pos}{tA:TA}
variable{pins:List (Addr×Obj)}{σ:St}{H:Hp}
variable{body suite:List Stmt}{b0:Stmt}{tb:TB}{th:Addr->TS}{cx n:Str}{np hpos:Pos}{CF:Addr}
end
section
variable{X:Cx}{E:XK}{x:Str}{C:Addr}{np cpos pos:Pos}
end
end L2
namespace L2
open PySem PySem.Spec PyProof.Rows PySem.SeqAt
section
variable{X:Cx}
variable{P:Program}{w:World}{K:FG}{mg:Str->Option Value}{base:Heap}{m qual:Str}{st:Stmt}{ps N:List Str}{k:Nat}{sp:Sp}{C:Addr}
variable{x:Str}{k':Nat}{e:Expr}{es:List Expr}{t:TA}{p pos:Pos}{E:XK}
end
end L2
namespace L2
open PySem PySem.Spec PyProof.Rows PySem.SeqAt
theorem IB{X:Cx}(hc:X.calm=true:=by rfl):iD X (.builtin "max") (λxs H Q=>∃(p:Addr) (is:List Int),xs=[.ref p]/\SqL X.K H p (is.map V.int)/\0<is.length/\∀M∈is,(∀a∈is,a<=M)->Q (.int M) H):=by
 refine⟨λpins s σ H xs us Q I r h=>?_⟩;obtain⟨p,is,rfl,hq,hpos,q⟩:=h;obtain⟨u,rfl,r1⟩:=jk r;cases r1;obtain⟨its,rv,pl,_⟩:=I.list hq;have hi:=wq rv;obtain⟨ys,hy⟩:=hi.allInts.items;have ei:is=ys.toList.map (·.1):=by
  rw[←nums_intItems,←hy];exact hi.numsOf.symm
 have ln:is.length=ys.size:=by rw[ei,aR,bS]
 have best:=argBest_gt (numAt ys) (ys.size-1);refine max_intList (I.ok.hd hc) (by rw[←hy];exact pl.isList) ⋯ λv h' tk hv hk=>?_;obtain⟨t,rfl⟩:=intItems_at hv;refine⟨.int _,H,I.kept hk,⟨()⟩,q _ ?_ λa ha=>?_⟩
 ·rw[numAt_eq,←ei];exact getD_mem (by have:=best.1;omega)
 ·rw[ei] at ha;obtain⟨j,hj,rfl⟩:=mem_getD ha;rw[←ei] at hj;rw[←numAt_eq];exact best.2 j ⋯
section
variable{X:Cx}{m:Str}{C:Addr}{k:Nat}{ps:List Str}{sp:Sp}{o:Expr}{ta:TE}{pos apos:Pos}
end
theorem Px{K:FG}{H H':Hp}{v:V}{t:Value}(s:Same H H')(h:jL K H v t):jL K H' v t:=by
 cases h with
 |non=>exact .non
 |bl x=>exact .bl x
 |int i=>exact .int i
 |str x=>exact .str x
 |flt x=>exact .flt x
 |lst e=>exact .lst (s _ _ e)
 |frz e=>exact .frz (s _ _ e)
 |tup e=>exact .tup (s _ _ e)
 |dK e=>exact .dK (s _ _ e)
 |dT e=>exact .dT (s _ _ e)
 |ins e c a n k m=>exact .ins (s _ _ e) c a n k m
def IsB(K:FG)(C:Addr)(H:Hp)(v:V)(b:Bool):Prop:=∃t,jL K H v t/\PySem.W.kitOne K t (.ref C)=some b
theorem IsB.keep{K:FG}{C:Addr}{H H':Hp}{v:V}{b:Bool}(h:IsB K C H v b)(s:Same H H'):IsB K C H' v b:=by
 obtain⟨t,h1,h2⟩:=h;exact⟨t,Px s h1,h2⟩
def Gm(t u:TS):TS:=λD σ H=>∃I:St->Hp->Prop,t {D with nx:=I} σ H/\∀σ' H',I σ' H'->u D σ' H'
theorem MM{X:Cx}{st:Stmt}{rest:List Stmt}{t u:TS}(h1:S X st t)(h2:Ss X rest u):Ss X (st::rest) (Gm t u):=by
 refine⟨λpins s σ H D I h=>?_⟩;obtain⟨J,h,hJ⟩:=h;refine wpAny_execs_cons (fU (h1.h pins s σ H {D with nx:=J} I h) λf s1 q=>?_);cases f with
 |next=>
  obtain⟨σ',H',I',q⟩:=q;exact h2.h pins s1 σ' H' D I' (hJ _ _ q)
 |ret v=>exact q
 |brk=>exact q
 |cont=>exact q
theorem Digs.inv{ds ss:List Int}{a:Int}(h:Digs ds (a::ss)):∃(x:Int) (r:List Int),ds=x::r/\(0<=x/\x<a)/\Digs r ss:=by
 cases h with
 |cons h t=>exact⟨_,(),h,t⟩
theorem Digs.non{ds:List Int}(h:Digs ds []):ds=[]:=by cases h;rfl
theorem Digs.five{ds:List Int}{a b c d e:Int}(h:Digs ds [a,b,c,d,e]):∃x0 x1 x2 x3 x4:Int,ds=[x0,x1,x2,x3,x4]/\(0<=x0/\x0<a)/\(0<=x1/\x1<b)/\(0<=x2/\x2<c)/\(0<=x3/\x3<d)/\0<=x4/\x4<e:=by
 obtain⟨x0,_,rfl,h0,t⟩:=h.inv;obtain⟨x1,_,rfl,h1,t⟩:=t.inv;obtain⟨x2,_,rfl,h2,t⟩:=t.inv;obtain⟨x3,_,rfl,h3,t⟩:=t.inv;obtain⟨x4,_,rfl,h4,t⟩:=t.inv;rw[t.non];exact⟨x0,x1,x2,x3,x4,rfl,h0,h1,h2,h3,h4⟩
theorem sq{X:Cx}{x y:Str}{a b:Expr}{ta:TA}{px py pt pos:Pos}{kt k2 pt2}(i j:Nat)(ha:As X [a,b] ta)(hN:X.N.Nodup)(hc:X.calm=true:=by rfl)(hi:X.N[i]? =some x:=by rfl)(hj:X.N[j]? =some y:=by rfl)(hij:i≠j:=by decide)
  (hx:X.env.scope.names.lookup x=some .local:=by rfl) (hy:X.env.scope.names.lookup y=some .local:=by rfl)
  (hw:swappedStores [.Tuple [.Name x px,.Name y py] kt pt] (.Tuple [a,b] k2 pt2) X.env=pure (some [x,y]):=by rfl)
  (hs:swapsWithSole [.Tuple [.Name x px,.Name y py] kt pt] (.Tuple [a,b] k2 pt2) pos.line X.env=pure false:=by rfl):
  S X (.Assign [.Tuple [.Name x px,.Name y py] kt pt] (.Tuple [a,b] k2 pt2) pos) (Bx i j ta):=⟨Sa hc hN hi hj hij hx hy ha.h hw hs⟩
section
variable{X:Cx}{es:List Expr}{kk:Nat}{tpos:Pos}
variable{js:List Nat}{σ:St}{tt:TT}{te:TE}{Q:VK}{H1:Hp}
end
theorem jd{X:Cx}{K:FG}{e:Expr}{f:Str}{ta:TE}{pos:Pos}(he:E X e ta)(hK:X.K=K:=by rfl)(hb:attributeBase e f X.env (eval e X.env)=eval e X.env:=by rfl):E X (.Attribute e f pos) (uX K ta f):=hK▸Pf he hb
section
variable{js:List Nat}{σ:St}{tt:TT}{te:TE}{Q:VK}{H1:Hp}
variable{prog:Program}{w:World}{A:Around}{E:Value->Shared->Prop}{s:Shared}
variable{X:Cx}{es:List Expr}{kk:Nat}{tpos:Pos}
end
theorem uE{X:Cx}(hu:X.A.units+64<cLine):gE X (compareOp .NotEq) (λx y H Q=>∃(a b:Addr) (vs:List V),x=.ref a/\y=.ref b/\SqL X.K H a vs/\SqL X.K H b []/\Q (.bl (decide (vs≠[]))) H):=by
 refine⟨λpins s σ H x y v u Q I rx ry h=>?_⟩;obtain⟨a,b,vs,rfl,rfl,ha,hb,q⟩:=h;cases rx;cases ry;obtain⟨its,rv,pl,_⟩:=I.list ha;obtain⟨its',rv',pl',_⟩:=I.list hb;cases rv';have e:=rv.length;cases vs with
 |nil=>
  cases rv;refine SeqAt.RcNeAt.lists (e:=λ_=>true) pl.isList pl'.isList rfl ⋯ (λi h1 h2=>SeqAt.EqAt.same _) _ _ _ _ ?_;exact⟨.bl false,H,I,by show Value.bool _=Value.bool false;congr 1,q⟩
 |cons v0 vs=>
  refine SeqAt.RcNeAt.lists_lengths pl.isList pl'.isList (by rw[bI,←e];rfl) ⋯ _ _ _ _ ?_;exact⟨.bl true,H,I,rfl,q⟩
end L2
namespace L2
open PySem PySem.Spec PyProof.Rows PySem.SeqAt
noncomputable abbrev qO:=Int×Int×Int
noncomputable def rT(p:qO):PyData:=.tuple [.int p.1,.int p.2.1,.int p.2.2]
noncomputable def vP(l:List qO):PyData:=.list (l.map rT)
section
variable{X:Cx}
theorem Eu:∀ns ms:List qO,PySem.Spec.sameAll (ns.map rT) (ms.map rT)=decide (ns=ms)
 |[],[]=>by simp[PySem.Spec.sameAll]
 |[],_::_=>by simp[PySem.Spec.sameAll]
 |_::_,[]=>by simp[PySem.Spec.sameAll]
 |(a,b,c)::r,(x,y,z)::q=>by
  simp only[bH,rT,PySem.Spec.sameAll,PySem.Spec.same,Eu r q];by_cases h1:a=x<;>by_cases h2:b=y<;>by_cases h3:c=z<;>simp[h1,h2,h3]
theorem kJ:∀ns ms:List (List qO),PySem.Spec.sameAll (ns.map vP) (ms.map vP)=decide (ns=ms)
 |[],[]=>by simp[PySem.Spec.sameAll]
 |[],_::_=>by simp[PySem.Spec.sameAll]
 |_::_,[]=>by simp[PySem.Spec.sameAll]
 |a::r,b::q=>by
  simp only[bH,vP,PySem.Spec.sameAll,PySem.Spec.same,Eu a b,kJ r q];by_cases h1:a=b<;>simp[h1]
end
def SameBut(S:Addr->Prop)(H H':Hp):Prop:=∀b o,H b=some o->¬S b->H' b=some o
theorem SameBut.trans{S:Addr->Prop}{H H1 H2:Hp}(a:SameBut S H H1)(b:SameBut S H1 H2):SameBut S H H2:=λc o h n=>b c o (a c o h n) n
theorem SameBut.seq{S:Addr->Prop}{K:FG}{H H':Hp}{a:Addr}{xs:List V}(e:SameBut S H H')(n:∀o,H a=some o->¬S a)(h:SqL K H a xs):SqL K H' a xs:=by
 rcases h with (h | ⟨o,h⟩) | h
 ·exact .inl (.inl (e _ _ h (n _ h)))
 ·exact .inl (.inr ⟨o,e _ _ h (n _ h)⟩)
 ·exact .inr h
theorem fR{N P:List Str}{sc:Scope}(h1:sc.kind=.function:=by rfl)(h2:sc.isCoroutine=false:=by rfl)(h3:sc.isGenerator=false:=by rfl)(h4:N.Nodup:=by decide +kernel)(h5:N.take P.length=P:=by rfl)(h6:∀x∈P,sc.names.lookup x=some .local∨sc.names.lookup x=some .cell:=by decide +kernel)(h7:∀y∈sc.names,y.2≠ .free:=by decide +kernel):fb N P sc:=⟨h1,h2,h3,h4,h5,h6,h7⟩
theorem zL(n:Nat)(h:n<=100:=by decide):n<=sizeLine:=by rw[eT];omega
section
variable{X:Cx}
def Fy(i j:Int):Prop:=0<=j/\j<=1000000/\i.natAbs<2^1440
theorem WI:gH X (binaryOp .LShift) (rI Fy λi j=>.int (i*2^j.toNat)):=nH λi j _ _ _ _ _ hc q=>lshift_int hc.1 (by
 have hb:Builtin.Int.intBits i<=1440:=intBits_le hc.2.2;have:=hc.2.1;omega) q
theorem BO:gE X (binaryOp .LShift) (rI Fy λi j=>.int (i*2^j.toNat)):=⟨WI⟩
end
end L2
namespace L2
open PySem PySem.Spec PyProof.Rows PySem.W
noncomputable def iq(a:Addr)(o:Obj):HO:=.ext λh=>h.get? a=some o
noncomputable def lQ(c:Addr)(qual:Str):HO:=.ext λh=>h.CodeRec (.ref c) qual
noncomputable def gF(H:Hp)(a:Addr):Hp:=λb=>if b=a then none else H b
theorem km{H:Hp}{a:Addr}:gF H a a=none:=if_pos rfl
theorem ig{H:Hp}{a b:Addr}(h:b≠a):gF H a b=H b:=if_neg h
theorem sU{H:Hp}{a b:Addr}{o:HO}(h:gF H a b=some o):b≠a/\H b=some o:=by
 by_cases e:b=a
 ·rw[e,km] at h;cases h
 ·rw[ig e] at h;exact⟨e,h⟩
section
variable{P:Program}{w:World}{H:Hp}{h:Heap}{a:Addr}{o:HO}
theorem HOk.era_(x:HOk P w H h)(no:∀z,H a≠some (.own z))(nt:∀xs,H a≠some (.tup xs)):HOk P w (gF H a) h:=λb u e=>by
 obtain⟨hb,e⟩:=sU e;refine (x b u e).stay (λ_ _ _ q=>q) (λc q=>?_) λc xs q=>?_
 ·by_cases z:c=a
  ·exact absurd (z▸q) (no b)
  ·rw[ig z];exact q
 ·by_cases z:c=a
  ·exact absurd (z▸q) (nt xs)
  ·rw[ig z];exact q
theorem HOk.track(x:HOk P w H h)(hn:H a=none)(new:ObjOk P w (upd H a o) h a o):HOk P w (upd H a o) h:=λb u e=>by
 by_cases hb:b=a
 ·subst hb;rw[fh] at e;cases e;exact new
 ·rw[fH hb] at e;exact (x b u e).stay (λ_ _ _ q=>q) (λc q=>by rw[fH (gU q hn)];exact q) λc xs q=>by rw[fH (gU q hn)];exact q
theorem pT{ob:Obj}(e:h.get? a=some ob):ObjOk P w H h a (iq a ob):=⟨e,⟨ob,e⟩,λh1 h2 e1 k=>k _ e1⟩
theorem p7{ob:Obj}(x:HOk P w H h)(e:H a=some (iq a ob)):h.get? a=some ob:=(x a _ e).1
theorem P4{q:Str}(x:HOk P w H h)(e:H a=some (lQ a q)):h.CodeRec (.ref a) q:=(x a _ e).1
end
noncomputable def j6(P:Program)(w:World)(K:Frag)(mg:Str->Option Value)(base:Heap)(N:List Str)(qual:Str)(scope:Scope)(L f c':Addr)(cl:List (Str×Addr))(A:Around)(outer:List Env)(s:Shared)(H:Hp):Cx where
 prog:=P
 w:=w
 K:=K
 mg:=mg
 base:=base
 A:=A.deeper (envX qual scope L f (.ref c') cl)
 N:=N
 s₀:=s
 H₀:=H
 env:=envX qual scope L f (.ref c') cl
 outer:=outer
 stack:=envX qual scope L f (.ref c') cl::outer
 ex:=[]
 fn:=λ_=>false
 calm:=true
 pn:=[]
 xe:=λ_ _=>False
structure iA(x y:Str)(scope:Scope):Prop where
 kind:scope.kind=.function
 co:scope.isCoroutine=false
 gen:scope.isGenerator=false
 nocell:∀z∈scope.names,z.2≠ .cell
 par:scope.names.lookup x=some .local
 fre:scope.names.lookup y=some .free
 only:∀z∈scope.names,z.2=.free->z.1=y
 ne:x≠y
theorem Vi{P:Program}{w:World}{K:Frag}{mg:Str->Option Value}{base:Heap}{x y:Str}{qual:Str}{scope:Scope}{f c' a:Addr}{A:Around}{outer:List Env}{s s1:Shared}{H:Hp}{u u0:Value}{v v0:V}{o0:Obj}{h1:Heap}{tk:Tok}
  (S:iA x y scope) (hd:A.handled=none) (e0:Env0 P w K mg base A outer s H) (ha:H a=some (iq a o0)) (ho:o0.data=.cell (some u0)) (r0:RelV v0 u0) (r:RelV v u)
  (hns:h1.Ns s.heap.objs.size (λz=>[(x,u)].reverse.lookup z)) (hk:∀b o,s.heap.get? b=some o->h1.get? b=some o) (hs:s1={s with heap:=h1,toks:=tk}):
  Inv (j6 P w K mg base [x,y] qual scope s.heap.objs.size f c' [(y,a)] A outer s (gF H a)) [] [some v,some v0] (gF H a) s1:=by
 subst hs;have hao:=p7 e0.hok ha;have noA:∀b:Addr,b∉(j6 P w K mg base [x,y] qual scope s.heap.objs.size f c' [(y,a)] A outer s (gF H a)).ex:=λb z=>absurd (show b∈([]:List Addr) from z) (by simp);have one:∀z c,([(y,a)]:List (Str×Addr)).lookup z=some c->z=y/\c=a:=λz c e=>by
  have m:=PySem.mem_of_lookup e;have:=bJ.mp m;exact⟨congrArg Prod.fst this,congrArg Prod.snd this⟩
 have ly:([(y,a)]:List (Str×Addr)).lookup y=some a:=by simp
 have fr:∀b,H b=none->gF H a b=none:=λb e=>by
  by_cases z:b=a
  ·rw[z];exact km
  ·rw[ig z];exact e
 have hok':HOk P w (gF H a) s.heap:=e0.hok.era_ (λz e=>by rw[ha] at e;cases e) (λxs e=>by rw[ha] at e;cases e);have cell:h1.IsCell a (some u0):=⟨o0,hk _ _ hao,ho⟩;refine⟨⟨e0.mod,S.kind,rfl,rfl,aQ _,λz1 z2 c q1 q2=>(one z1 c q1).1.trans (one z2 c q2).1.symm,λz hz=>?_,(λz c q _=>nomatch q),λ_=>hd,Around.frames_deeper e0.frames,.inr ⟨rfl,rfl⟩,λb z=>absurd z (noA b),λb o e=>⟨(e0.bs b o e).1,fr b (e0.bs b o e).2⟩,e0.bsz,λb _ _=>noA b,λb z=>absurd z (noA b),e0.funs,λb hb=>fr b (e0.frf b hb)⟩,
  rfl,e0.bare,Un.kept hk,⟨_,hns,λi z v' q1 q2 q3=>?_⟩,λz c q=>?_,fr _ (e0.hok.fresh (aQ _)),λz c q=>?_,λp hp=>absurd (show p∈([]:List (Addr×Obj)) from hp) (by simp),hok'.kept hk,rfl⟩
 ·have hz:scope.names.lookup z=some .cell∨scope.names.lookup z=some .free:=hz;rcases hz with hz | hz
  ·exact absurd rfl (S.nocell _ (PySem.mem_of_lookup hz))
  ·have:=S.only _ (PySem.mem_of_lookup hz) rfl;exact⟨a,by show ([(y,a)]:List (Str×Addr)).lookup z=_;rw[show z=y from this];exact ly⟩
 ·match i,q1,q2 with
  |0,q1,q2=>
   cases q1;cases q2;exact⟨u,r,.inl ⟨S.par,by show ([(x,u)]:List (Str×Value)).reverse.lookup x=some u;simp⟩⟩
  |1,q1,q2=>
   cases q1;cases q2;exact⟨u0,r0,.inr ⟨.inr S.fre,a,ly,cell⟩⟩
  |i+2,q1,_=>exact nomatch q1
 ·obtain⟨_,rfl⟩:=one z c q;exact⟨_,cell⟩
 ·obtain⟨_,rfl⟩:=one z c q;exact km
theorem K2{P:Program}{w:World}{K:Frag}{mg:Str->Option Value}{base:Heap}{k:Nat}{x y:Str}{name qual:Str}{params:Arguments}{body:Expr}{scope:Scope}{pm ctv:Value}{f c' a:Addr}{A:Around}{outer:List Env}{s:Shared}{H:Hp}{args:Args}{u u0:Value}{v v0:V}{o0:Obj}{Q:VK}{E:XK}{t:TE}
  (S:iA x y scope) (hr:Room (k+1) A) (e0:Env0 P w K mg base A outer s H) (hb:BindsTo s (kla_fn name qual params body scope [(y,a)] pm (.ref c') ctv) args [(x,u)]) (r:RelV v u)
  (hf:H f=some (iq f (kla_obj name qual params body scope [(y,a)] pm c' ctv))) (hc:H c'=some (lQ c' qual)) (ha:H a=some (iq a o0)) (ho:o0.data=.cell (some u0)) (r0:RelV v0 u0)
  (hbody:L2.E (j6 P w K mg base [x,y] qual scope s.heap.objs.size f c' [(y,a)] A outer s (gF H a)) body t)
  (h:t [some v,some v0] (gF H a) λv' H'=>H' a=none->Q v' (upd H' a (iq a o0))):
  codeAny (model P w) A (.call (.ref f) args) (CR jj outer P w H s Q E) s:=by
 have lim:s.heap.NoLimit:=e0.mod.nolimit.keeps λb o e=>(e0.bs b o e).1;refine kla_callFunE (by have:=hr.dp;omega) (p7 e0.hok hf) rfl S.co S.gen rfl (P4 e0.hok hc) (hb _ _ _ _ ?_);refine wpAny_newFunctionEnv S.nocell (λz hz=>by rw[bJ.mp hz];exact S.par) (λh₁ hns hsb=>⟨lim.fresh _ hsb,?_⟩) S.kind;show codeAny _ _ (.expr body (envX qual scope s.heap.objs.size f (.ref c') [(y,a)])) _ _;have hk₁:∀b o,s.heap.get? b=some o->h₁.get? b=some o:=λb o e=>hsb.extBut b o (aW (aV e)) (aU _ e)
 refine kla_codeExpr ?_;have I:=Vi (f:=f) (c':=c') (qual:=qual) (tk:=s.toks+([(x,u)]:List (Str×Value)).length) S hr.hd e0 ha ho r0 r hns hk₁ rfl;refine eP (hbody.h [] _ _ _ _ I h) (λv' s' hq=>?_) λe s' hq=>hq.elim;obtain⟨z,H',J,rz,q⟩:=hq;have hao:=p7 e0.hok ha
 -- the cell is as it was
 have ca:s'.heap.get? a=some o0:=J.base.keep a o0 hao km (λhb=>by
  have:=e0.frf a hb;rw[ha] at this;cases this) (by simp[j6])
 refine⟨z,upd H' a (iq a o0),J.os,J.bare,⟨λb o e n hb hx=>?_,λb o e n hb hx=>?_,λb o e n hx=>?_,λb o e hx=>J.base.there b o e hx,λb xs e=>?_,λb o u e=>?_,λb ps e=>?_⟩,J.hok.track (J.base.free a o0 hao km (by simp[j6])) (pT ca),rz,q (J.base.free a o0 hao km (by simp[j6]))⟩
 all_goals have na:b≠a:=λz=>by (first | (rw[z,ha] at n;cases n) | (rw[z,ha] at e;cases e))
 ·exact J.base.keep b o e (by rw[show (j6 P w K mg base [x,y] qual scope s.heap.objs.size f c' [(y,a)] A outer s (gF H a)).H₀=gF H a from rfl,ig na];exact n) hb hx
 ·exact J.base.slot b o e (by rw[show (j6 P w K mg base [x,y] qual scope s.heap.objs.size f c' [(y,a)] A outer s (gF H a)).H₀=gF H a from rfl,ig na];exact n) hb hx
 ·rw[fH na];exact J.base.free b o e (by rw[show (j6 P w K mg base [x,y] qual scope s.heap.objs.size f c' [(y,a)] A outer s (gF H a)).H₀=gF H a from rfl,ig na];exact n) hx
 ·rw[fH na];exact J.base.tups b xs (by rw[show (j6 P w K mg base [x,y] qual scope s.heap.objs.size f c' [(y,a)] A outer s (gF H a)).H₀=gF H a from rfl,ig na];exact e)
 ·rw[fH na];exact J.base.frzs b o u (by rw[show (j6 P w K mg base [x,y] qual scope s.heap.objs.size f c' [(y,a)] A outer s (gF H a)).H₀=gF H a from rfl,ig na];exact e)
 ·obtain⟨more,z⟩:=J.base.tbls b ps (by rw[show (j6 P w K mg base [x,y] qual scope s.heap.objs.size f c' [(y,a)] A outer s (gF H a)).H₀=gF H a from rfl,ig na];exact e);exact⟨more,by rw[fH na];exact z⟩
end L2
namespace L2
open PySem PySem.Spec PyProof.Rows PySem.W
structure FnC(K:Frag)(mg:Str->Option Value)(x:Str)(st:Stmt)(ps:List Str)(c:Addr):Prop where
 ex:∃(f:Addr) (oc:Value) (od:Option Addr) (kV doc pm:Value) (an:Option Addr) (ct:Value) (osl:Array (Option Value)),
  K.lookup f=some ⟨oc,od,.func (fnOf x x (ji st) (iM st) (ft st) .none kV doc pm an (.ref c) ct),osl⟩/\codeIn K (.ref c) x=true/\keepIn K (.ref f)=true/\Binds K (fnOf x x (ji st) (iM st) (ft st) .none kV doc pm an (.ref c) ct) ps []/\mg x=some (.ref f)
section
variable{P:Program}{w:World}{K:Frag}{mg:Str->Option Value}{base:Heap}{x:Str}{st:Stmt}{ps N:List Str}{k:Nat}{sp:Sp}{c:Addr}
theorem FnC.dfs(F:FnC K mg x st ps c)(S':fb N ps (ft st))(len:∀vs H Q E,sp vs H Q E->vs.length=ps.length)
  (hbody:∀(f:Addr) (A:Around) (outer:List Env) (s:Shared) (H:Hp) (vs:List V) (Q:VK) (E:XK),Room k (A.deeper (envOfC x (ft st) s.heap.objs.size f (.ref c)))->sp vs H Q E->
   Go P w K mg base N x st f (.ref c) A outer s H vs Q E):Df P w K mg base x (k+1) ps sp:=by
 obtain⟨f,oc,od,kV,doc,pm,an,ct,osl,lk,hcd,kp,hb,hm⟩:=F.ex;refine⟨⟨f,_,uP lk hcd S' len λA outer s H vs Q E hr hsp=>?_,hb,hm,kp⟩⟩;obtain⟨t,h,q⟩:=hbody f A outer s H vs Q E hr hsp;exact⟨t,h.h.nox,q⟩
theorem NG{h:Heap}{f:Addr}{oc:Value}{od an:Option Addr}{osl:Array (Option Value)}{kV doc pm ct:Value}(X:K.In h)(G:h.Ns mainGlobals mg)
  (a:nsIn K mainGlobals x=some (some (.ref f))) (l:K.lookup f=some ⟨oc,od,.func (fnOf x x (ji st) (iM st) (ft st) .none kV doc pm an (.ref c) ct),osl⟩)
  (cd:codeIn K (.ref c) x=true) (kp:keepIn K (.ref f)=true)
  (hb:∀(kV doc pm:Value) (an:Option Addr) (cdv ct:Value) (us:List Value),us.length=ps.length->bindArgs (fnOf x x (ji st) (iM st) (ft st) .none kV doc pm an cdv ct) ⟨us,[]⟩=pure (ps.zip us)):FnC K mg x st ps c:=
 ⟨⟨f,oc,od,kV,doc,pm,an,ct,osl,l,cd,kp,(rG (st:=st) l cd kp).binds (ps:=ps) hb,mg_of X G a⟩⟩
end
structure nA(K:Frag)(mg:Str->Option Value)(c Pt bm:Addr):Prop where
 code:∀h:Heap,K.In h->CodeHd h c Pt
 blt:mg "__builtins__"=some (.ref bm)/\bm≠builtinsNs
def oQ(H:Hp)(bm:Addr):Prop:=∃ob u,H bm=some (.frz ob u)/\ob.cls=.type "module"/\ob.dict=some builtinsNs/\ob.data=.plain
noncomputable def jt(X:Cx)(y:Str):Addr:=(X.env.cells.lookup y).getD 0
noncomputable def oz(qual:Str)(params:Arguments)(body:Expr)(scope:Scope)(y:Str)(a:Addr)(pm:Value)(c':Addr)(ctv:Value):Obj:=kla_obj "<lambda>" qual params body scope [(y,a)] pm c' ctv
def CN(Pt bm:Addr)(lpos:Pos)(qual:Str)(params:Arguments)(body:Expr)(scope:Scope)(y:Str)(a:Addr)(pm:Value):TE:=λ_ H Q=>oQ H bm/\∃ps:Array Value,H Pt=some (.tbl ps)/\TriplesOk ps.toList/\
 ((codeAmong lpos ps.toList=none/\∀f c' ctv,H f=none->H c'=none->c'≠f->Q (.ref f) (upd (upd (upd H Pt (.tbl (ps++ #[rawInt lpos.line,rawInt lpos.col,.ref c']))) c' (lQ c' qual)) f (iq f (oz qual params body scope y a pm c' ctv))))∨
 (∃c0,codeAmong lpos ps.toList=some (.ref c0)/\H c0=some (lQ c0 qual)/\∀f ctv,H f=none->Q (.ref f) (upd H f (iq f (oz qual params body scope y a pm c0 ctv)))))
section
variable{X:Cx}
theorem AG{params:Arguments}{body:Expr}{scope:Scope}{lpos:Pos}{y:Str}{c Pt bm:Addr}(hh:nA X.K X.mg c Pt bm)(hcode:X.env.code=.ref c:=by rfl)(hcl:closureFor scope X.env=pure [(y,jt X y)]:=by rfl)(hdef:defaultsOf params X.env=([],[]):=by rfl):
  E X (.Lambda params body scope lpos) (CN Pt bm lpos (X.env.qual++"<lambda>") params body scope y (jt X y) ((X.mg "__name__").getD .none)):=by
 refine⟨λpins s σ H Q I h=>?_⟩;obtain⟨⟨ob,u,hbm,b4,b5,b6⟩,ps,hP,ht,h⟩:=h;have hPh:s.heap.get? Pt=some (tabObj ps):=I.hok Pt _ hP;have hg:s.heap.Ns mainGlobals X.mg:=I.mod.glob.keeps I.bk;have bn:∀b o,X.base.get? b=some o->b≠Pt:=λb o e z=>by
  have:=(I.bs b o e).2;rw[z,hP] at this;cases this
 have hgP:mainGlobals≠Pt:=by
  obtain⟨o,es,ep,e,_⟩:=I.mod.glob;exact bn _ _ e
 have hb:s.heap.BuiltinsAt X.mg Pt:=by
  obtain⟨b1,b2⟩:=hh.blt;refine⟨bm,ob,b1,b2,λz=>?_,λz=>?_,(I.hok bm _ hbm).1,b4,b5,b6⟩
  ·obtain⟨o,es,ep,e2,_⟩:=I.mod.glob;have:=(I.bs _ _ e2).2;rw[←z,hbm] at this;cases this
  ·rw[z,hP] at hbm;cases hbm
 have nl:X.env.locals≠Pt:=λz=>by
  have:=I.free;rw[z,hP] at this;cases this
 refine kla_eval hdef ?_;rcases h with ⟨hnf,h⟩ | ⟨c0,hf,hc0,h⟩
 ·refine kla_makeFunction (mg:=X.mg) hcl I.ok.glob hg hcode (hh.code _ I.kIn) hPh ht hnf hgP hb λc' ctv h' tk hx hge hlt hrec htb=>?_;have szle:s.heap.objs.size<=h'.objs.size:=Nat.le_of_lt (d8 hge hlt);have ltc:∀b o,s.heap.get? b=some o->b≠c'/\b≠h'.objs.size:=λb o e=>⟨aW (bA (aV e) hge),aW (bA (aV e) szle)⟩;have hc'n:H c'=none:=I.hok.fresh hge;have hfn:H h'.objs.size=none:=I.hok.fresh szle;have cf:c'≠h'.objs.size:=aW hlt
  have jZ:∀b o,H b=some o->b≠c'/\b≠h'.objs.size:=λb o e=>⟨gU e hc'n,gU e hfn⟩
  let fo:=oz (X.env.qual++"<lambda>") params body scope y (jt X y) ((X.mg "__name__").getD .none) c' ctv
  let H1:=upd (upd (upd H Pt (.tbl (ps++ #[rawInt lpos.line,rawInt lpos.col,.ref c']))) c' (lQ c' (X.env.qual++"<lambda>"))) h'.objs.size (iq h'.objs.size fo)
  have H1o:∀b,b≠Pt->b≠c'->b≠h'.objs.size->H1 b=H b:=λb n1 n2 n3=>by show upd (upd (upd H Pt _) c' _) h'.objs.size _ b=_;rw[fH n3,fH n2,fH n1]
  have kp:∀b o,b≠Pt->s.heap.get? b=some o->(h'.push fo).get? b=some o:=λb o n e=>aU _ (hx b o n e);have PtN:Pt≠c'/\Pt≠h'.objs.size:=jZ _ _ hP;have H1P:H1 Pt=some (.tbl (ps++ #[rawInt lpos.line,rawInt lpos.col,.ref c'])):=by show upd (upd (upd H Pt _) c' _) h'.objs.size _ Pt=_;rw[fH PtN.2,fH PtN.1,fh]
  have H1c:H1 c'=some (lQ c' (X.env.qual++"<lambda>")):=by show upd (upd (upd H Pt _) c' _) h'.objs.size _ c'=_;rw[fH cf,fh]
  have H1f:H1 h'.objs.size=some (iq h'.objs.size fo):=fh;have hok:HOk X.prog X.w H1 (h'.push fo):=λb u e=>by
   by_cases n3:b=h'.objs.size
   ·subst n3;rw[H1f] at e;cases e;exact pT (a9 _ rfl)
   by_cases n2:b=c'
   ·subst n2;rw[H1c] at e;cases e;obtain⟨c2,oc,vs,t,e2,hoc,hd,hv⟩:=hrec;cases e2;exact⟨⟨b,oc,vs,t,rfl,aU _ hoc,hd,hv⟩,⟨oc,aU _ hoc⟩,λh1 h2 ⟨c2,oc,vs,t,e2,hoc,hd,hv⟩ k=>by cases e2;exact⟨b,oc,vs,t,rfl,k _ hoc,hd,hv⟩⟩
   by_cases n1:b=Pt
   ·subst n1;rw[H1P] at e;cases e;exact aU _ htb
   rw[H1o b n1 n2 n3] at e;refine (I.hok b u e).stay (λd v z q=>kp d v (λzz=>?_) q) (λd q=>?_) λd xs q=>?_
   ·rcases z with z | z
    ·exact n1 (z.symm.trans zz)
    ·rw[zz,hP] at z;cases z
   ·have:=jZ _ _ q;rw[H1o d (λzz=>by rw[zz,hP] at q;cases q) this.1 this.2];exact q
   ·have:=jZ _ _ q;rw[H1o d (λzz=>by rw[zz,hP] at q;cases q) this.1 this.2];exact q
  refine⟨.ref h'.objs.size,H1,?_,rfl,h h'.objs.size c' ctv hfn hc'n cf⟩;refine I.step (g':=s.gens) (d':=s.drawn) (t':=tk) (ch:=[]) (λ_ z=>nomatch z) (λb o _ _ _ e n=>kp b o (λz=>by rw[z,hP] at n;cases n) e) (λb o _ _ _ e n=>⟨o.slots,kp b o (λz=>by rw[z,hP] at n;cases n) e⟩) (λb o _ e n=>?_) (λb o _ e=>?_) (λb xs e=>?_) (λb o u e=>?_) (λb qs e=>?_) (λm hm=>(hm.extBut hx nl).push _) hok I.bare
  ·rw[H1o b (λz=>by rw[z,hP] at n;cases n) (ltc b o e).1 (ltc b o e).2];exact n
  ·by_cases z:b=Pt
   ·rw[z];exact⟨_,aU _ htb⟩
   ·exact⟨o,kp b o z e⟩
  ·rw[H1o b (λz=>by rw[z,hP] at e;cases e) (jZ _ _ e).1 (jZ _ _ e).2];exact e
  ·rw[H1o b (λz=>by rw[z,hP] at e;cases e) (jZ _ _ e).1 (jZ _ _ e).2];exact e
  ·by_cases z:b=Pt
   ·rw[z,hP] at e;cases e;exact⟨_,z▸H1P⟩
   ·exact⟨#[],by rw[H1o b z (jZ _ _ e).1 (jZ _ _ e).2,e];simp⟩
 ·refine kla_makeFunctionHit (mg:=X.mg) hcl I.ok.glob hg hcode (hh.code _ I.kIn) hPh ht hf hb λctv h' tk hk hsz=>?_;have hfn:H h'.objs.size=none:=I.hok.fresh hsz
  let fo:=oz (X.env.qual++"<lambda>") params body scope y (jt X y) ((X.mg "__name__").getD .none) c0 ctv
  have kp:∀b o,s.heap.get? b=some o->(h'.push fo).get? b=some o:=λb o e=>aU _ (hk b o e);have hok:HOk X.prog X.w (upd H h'.objs.size (iq h'.objs.size fo)) (h'.push fo):=I.hok.laid kp hsz (pT (a9 _ rfl));refine⟨.ref h'.objs.size,upd H h'.objs.size (iq h'.objs.size fo),?_,rfl,h h'.objs.size ctv hfn⟩;exact I.step (g':=s.gens) (d':=s.drawn) (t':=tk) (ch:=[]) (λ_ z=>nomatch z) (λb o _ _ _ e n=>kp b o e) (λb o _ _ _ e n=>⟨o.slots,kp b o e⟩) (λb o _ e n=>by rw[fH (aW (bA (aV e) hsz))];exact n) (λb o _ e=>⟨o,kp b o e⟩) (λb xs e=>by rw[fH (gU e hfn)];exact e) (λb o u e=>by rw[fH (gU e hfn)];exact e) (λb qs e=>⟨#[],by rw[fH (gU e hfn),e];simp⟩) (λm hm=>(hm.keeps hk).push _) hok I.bare
end
end L2
namespace L2
open PySem PySem.Spec PyProof.Rows PySem.W
section
variable{X:Cx}
theorem SN{pins:List (Addr×Obj)}{σ:St}{H:Hp}{s:Shared}{Q:VK}{us:List Value}{vs:List V}{k:Nat}{f:Addr}{fd:FuncData}{ps:List Str}{sp:Sp}{i:Nat}{y:Str}{v0:V}(F:gD X.prog X.w X.K X.mg X.base jj k f fd ps sp)(hr:Room k X.A)(hb:Binds X.K fd ps [])
  (I:Inv X pins σ H s) (r:Vals vs us) (hi:X.N[i]? =some y) (hv:σ[i]? =some (some v0)) (hky:X.env.kindOf y=some .cell) (hcy:X.env.cells.lookup y=some (jt X y)) (hfn:X.fn y=true)
  (h:H (jt X y)=none->∀(o0:Obj) (u0:Value),o0.data=.cell (some u0)->RelV v0 u0->sp vs (upd H (jt X y) (iq (jt X y) o0)) (λv H'=>H' (jt X y)=some (iq (jt X y) o0)/\Q v (gF H' (jt X y))) E0):
  wpAny (model X.prog X.w) X.A (call (.ref f) us) (EP X pins σ Q) X.xe s:=by
 obtain⟨m,hn,hl⟩:=I.loc;obtain⟨u0,r0,l⟩:=hl i y v0 hi hv (.inr (.inl hky));rcases l with ⟨z,_⟩ | ⟨_,c,ec,o0,ho,hd⟩
 ·rw[hky] at z;cases z
 rw[hcy] at ec;cases ec;have ha:H (jt X y)=none:=I.freeC y _ hcy;have hge:X.s₀.heap.objs.size<=jt X y:=I.ok.cab y _ hfn hcy;have q:=h ha o0 u0 hd r0;generalize ea:jt X y=a at *;have hok:HOk X.prog X.w (upd H a (iq a o0)) s.heap:=I.hok.track ha (pT ho);have nb:∀b o,X.base.get? b=some o->b≠a:=λb o e=>aW (bA (bA (aV e) I.ok.bsz) hge);have nf:∀b∈ki X.stack,b≠a:=λb hb z=>by
  subst z;rcases aX.mp (I.stkSub b hb) with e | hb
  ·exact I.cne y _ hcy (ea▸e)
  ·obtain⟨_,o,ho',_⟩:=I.ok.funs.mem hb;exact absurd (bA (aV ho') hge) (cR _)
 have e0:Env0 X.prog X.w X.K X.mg X.base X.A X.stack s (upd H a (iq a o0)):=⟨I.ok.frames,I.ok.mod,λb o e=>⟨(I.bs b o e).1,by rw[fH (nb b o e)];exact (I.bs b o e).2⟩,bL I.ok.bsz I.sz,I.stack,λb hb=>by rw[fH (nf b hb)];exact I.stkFree b hb,hok,I.bare⟩;have hlen:(us++[]).length=ps.length:=by rw[cU,←r.length];exact F.len _ _ _ _ q
 have bt:=hb s us I.kIn hlen;rw[cU] at bt;refine wpAny_call (eV (F.run X.A X.stack s _ ⟨us,[]⟩ us vs _ E0 hr e0 bt r q) λr s' hq=>?_);cases r with
 |error e=>exact False.elim hq
 |ok fl=>
  cases fl with
  |next=>exact False.elim hq
  |brk=>exact False.elim hq
  |cont=>exact False.elim hq
  |ret u=>
   obtain⟨v,H',os,bare,un,hok',rz,hca,q⟩:=hq;have ca:=p7 hok' hca;refine I.after ⟨v,gF H' a,os,bare,⟨λb o e n hb hx=>?_,λb o e n hb hx=>?_,λb o e n hx=>?_,λb o e hx=>un.there b o e hx,λb xs e=>?_,λb o u e=>?_,λb qs e=>?_⟩,hok'.era_ (λz e=>by rw[hca] at e;cases e) (λxs e=>by rw[hca] at e;cases e),rz,q⟩
   ·by_cases z:b=a
    ·subst z;rw[ho] at e;cases e;exact ca
    ·exact un.keep b o e (by rw[fH z];exact n) hb hx
   ·exact un.slot b o e (by rw[fH (nf b hb)];exact n) hb hx
   ·by_cases z:b=a
    ·rw[z];exact km
    ·rw[ig z];exact un.free b o e (by rw[fH z];exact n) hx
   ·have z:b≠a:=gU e ha;rw[ig z];exact un.tups b xs (by rw[fH z];exact e)
   ·have z:b≠a:=gU e ha;rw[ig z];exact un.frzs b o u (by rw[fH z];exact e)
   ·have z:b≠a:=gU e ha;obtain⟨more,e'⟩:=un.tbls b qs (by rw[fH z];exact e);exact⟨more,by rw[ig z];exact e'⟩
def Dk(i:Nat)(a:Addr)(sp:Sp)(t:TA):TE:=λσ H Q=>t σ H λvs H1=>∃v0,σ[i]? =some (some v0)/\(H1 a=none->∀(o0:Obj) (u0:Value),o0.data=.cell (some u0)->RelV v0 u0->sp vs (upd H1 a (iq a o0)) (λv H'=>H' a=some (iq a o0)/\Q v (gF H' a)) E0)
theorem XI{x:Str}{k k':Nat}{ps:List Str}{sp:Sp}{e:Expr}{es:List Expr}{t:TA}{p pos:Pos}(y:Str)(i:Nat)(D:Df X.prog X.w X.K X.mg X.base x k ps sp)(hr:Room k' X.A)(ha:As X (e::es) t)(hk:k<=k':=by decide)(hi:X.N[i]? =some y:=by rfl)(hky:X.env.kindOf y=some .cell:=by rfl)(hcy:X.env.cells.lookup y=some (jt X y):=by rfl)(hfn:X.fn y=true:=by rfl)(hg:Gl X x:=by rfl)
  (hdb:(x==("__debug__":Str))=false:=by decide) (he:starEach (e::es) X.env=(false,eval e X.env)::starEach es X.env:=by rfl) (hpl:(backTo pos (starEach es X.env)).any (·.1)=false:=by rfl):
  E X (.Call (.Name x p) (e::es) [] pos) (Dk i (jt X y) sp t):=by
 obtain⟨f,fd,F,hb,hm,kp⟩:=D.ex;refine⟨λpins s σ H Q I h=>?_⟩;refine fC (pe I hg hm ?_ hdb);refine callWith_K (h₀:=X.base) I.ok.mod.kin kp (fU (ha.h pos pins s σ H _ I h) λus s1 ⟨vs,H1,I1,r,v0,hv,q⟩=>⟨I1.kIn,?_⟩) he hpl;exact SN F (hr.mono hk) hb I1 r hi hv hky hcy hfn q
def Calls(P:Program)(w:World)(K:Frag)(mg:Str->Option Value)(base:Heap)(k:Nat)(f:Addr)(vs:List V)(H:Hp)(Q:VK):Prop:=
 ∀(A:Around) (outer:List Env) (s:Shared) (us:List Value),Room k A->Env0 P w K mg base A outer s H->Vals vs us->codeAny (model P w) A (.call (.ref f) ⟨us,[]⟩) (CR jj outer P w H s Q E0) s
def FnHO(H:Hp)(f:Addr):Prop:=∃(oc:Value) (od:Option Addr) (fd:FuncData) (sl:Array (Option Value)),H f=some (iq f ⟨oc,od,.func fd,sl⟩)
def Qf(P:Program)(w:World)(K:Frag)(mg:Str->Option Value)(base:Heap)(k:Nat)(tv:TE)(t:TA):TE:=λσ H Q=>tv σ H λv H1=>∃f,v=.ref f/\FnHO H1 f/\t σ H1 λvs H2=>FnHO H2 f/\Calls P w K mg base k f vs H2 Q
theorem FnHO.at_{P:Program}{w:World}{H:Hp}{h:Heap}{f:Addr}(x:HOk P w H h)(e:FnHO H f):FnAt f h:=by
 obtain⟨oc,od,fd,sl,e⟩:=e;exact⟨oc,od,fd,sl,p7 x e⟩
theorem Zf{y:Str}{e:Expr}{es:List Expr}{t:TA}{tv:TE}{k k':Nat}{p pos:Pos}(hr:Room k' X.A)(hv:E X (.Name y p) tv)(ha:As X (e::es) t)(hk:k<=k':=by decide)
  (he:starEach (e::es) X.env=(false,eval e X.env)::starEach es X.env:=by rfl) (hpl:(backTo pos (starEach es X.env)).any (·.1)=false:=by rfl):E X (.Call (.Name y p) (e::es) [] pos) (Qf X.prog X.w X.K X.mg X.base k tv t):=by
 refine⟨λpins s σ H Q I h=>?_⟩;refine fC (fU (hv.h pins s σ H _ I h) λv s1 ⟨x,H1,I1,r1,f,ex,hf1,q⟩=>?_);subst ex;cases r1;refine callWith_F (hf1.at_ I1.hok) (fU (ha.h pos pins s1 σ H1 _ I1 q) λus s2 ⟨vs,H2,I2,r,hf2,hc⟩=>⟨hf2.at_ I2.hok,?_⟩) he hpl;refine wpAny_call (eV (hc X.A X.stack s2 us (hr.mono hk) I2.env0 r) λr s' hq=>?_);cases r with
 |error e=>exact False.elim hq
 |ok fl=>
  cases fl with
  |ret u=>exact I2.after hq
  |next=>exact False.elim hq
  |brk=>exact False.elim hq
  |cont=>exact False.elim hq
end
end L2
namespace L2
open PySem PySem.Spec PyProof.Rows PySem.W
def rB(tabs:List Addr)(bm:Addr)(H:Hp):Prop:=(∀b∈tabs,H b=some (.tbl #[]))/\(∀b,b∉tabs->H b=none∨∃o u,H b=some (.frz o u))/\oQ H bm
theorem KE{P:Program}{w:World}{K:Frag}{mg mb:Str->Option Value}{k:Nat}{fa a:Addr}{fd:FuncData}{x:Str}{sp:Sp}{s₁:Shared}{vs:List Value}{ns:List Int}{tabs:List Addr}{bm:Addr}{ob:Obj}
  (KX:K.In s₁.heap) (hns:s₁.heap.Ns mainGlobals mg) (hb:s₁.heap.Ns builtinsNs mb) (hbb:∀x:Str,x≠"__name__"->mb x=bootBuiltins x) (hlim:s₁.heap.NoLimit) (hg:s₁.gens= #[])
  (hT:∀b∈tabs,isCodeTable s₁.heap b/\s₁.heap.get? b=some (tabObj #[])) (hTK:∀b∈tabs,K.lookup b=none)
  (hB:s₁.heap.get? bm=some ob) (hBK:K.lookup bm=none) (b4:ob.cls=.type "module") (b5:ob.dict=some builtinsNs) (b6:ob.data=.plain)
  (ha:s₁.heap.get? a=some {cls:=.type "list",data:=.seq vs.toArray}) (hi:IntsAre vs ns) (hl:ns.length<=sizeLine) (hr:Room k callerA)
  (F:∀base:Heap,K.In base->base.Ns mainGlobals mg->gD P w K mg base jj k fa fd [x] sp) (hbind:∀(s:Shared) (u:Value),BindsTo s fd ⟨[u],[]⟩ [(x,u)])
  (hsp:∀H:Hp,rB tabs bm H->SqL K H a (ns.map V.int)->sp [.ref a] H (λv _=>v=.bl true) λ_ _ _=>False):
  codeAny (model P w) callerA (.call (.ref fa) ⟨[.ref a],[]⟩) (λr s'=>r=.ok (.ret (.bool true))/\OldK s₁.heap s'.heap/\s'.os=s₁.os/\AllBare s'.gens) s₁:=by
 have rv:=zh hi;have lenV:=hi.length;have aT:a∉tabs:=λh=>by
  have:=(hT a h).2;rw[ha] at this;cases this
 have bT:bm∉tabs:=λh=>by
  have:=(hT bm h).2;rw[hB] at this;cases this;cases b6
 have ba:bm≠a:=λh=>by
  rw[h,ha] at hB;cases hB;cases b6
 have core:∀H:Hp,rB tabs bm H->SqL K H a (ns.map V.int)->HOk P w H s₁.heap->(∀b,b∉tabs->H b≠none->b=a∨b=bm)->(H a≠none->K.lookup a=none)->
   codeAny (model P w) callerA (.call (.ref fa) ⟨[.ref a],[]⟩) (λr s'=>r=.ok (.ret (.bool true))/\OldK s₁.heap s'.heap/\s'.os=s₁.os/\AllBare s'.gens) s₁:=by
  intro H hO hS hok hA hK;have base_of:∀{b:Addr} {o:Obj},s₁.heap.get? b=some o->H b=none->(lX s₁.heap H).get? b=some o:=λe n=>aCX e n;have cases_:∀b,H b=none∨b∈tabs∨b=a∨b=bm:=λb=>by
   by_cases h:b∈tabs
   ·exact .inr (.inl h)
   ·cases q:H b with
    |none=>exact .inl rfl
    |some u=>exact .inr (.inr (hA b h (by rw[q];simp)))
  have noA:∀{b:Addr} {o:Obj} {es:Array DictEntry} {ep:Nat},s₁.heap.get? b=some o->o.data=.dict es ep->H b=none:=λ{b o es ep} e d=>by
   rcases cases_ b with h | h | h | h
   ·exact h
   ·rw[(hT b h).2] at e;cases e;cases d
   ·rw[h,ha] at e;cases e;have d':Data.seq vs.toArray _=Data.dict es ep:=d;cases d'
   ·rw[h,hB] at e;cases e;rw[b6] at d;cases d
  have nsK:∀{b:Addr} {m:Str->Option Value},s₁.heap.Ns b m->(lX s₁.heap H).Ns b m:=λ{b m} ⟨o,es,ep,e,d,r⟩=>⟨o,es,ep,base_of e (noA e d),d,r⟩;have hKb:K.In (lX s₁.heap H):=λb o e=>base_of (KX b o e) (by
   rcases cases_ b with h | h | h | h
   ·exact h
   ·rw[hTK b h] at e;cases e
   ·cases q:H b with
    |none=>rfl
    |some u=>
     subst h;rw[hK (by rw[q];simp)] at e;cases e
   ·rw[h,hBK] at e;cases e)
  have hM:Mod K mg (lX s₁.heap H):=⟨hKb,nsK hns,⟨mb,nsK hb,hbb⟩,let ⟨mc,h1,h2⟩:=hlim;⟨mc,nsK h1,h2⟩⟩;have e0:Env0 P w K mg (lX s₁.heap H) callerA [] s₁ H:=⟨rfl,hM,λb o e=>Qe e,Nat.le_of_eq (O4 _ _),trivial,λb hb=>absurd (show b∈([]:List Addr) from hb) (by simp),hok,.of_eq hg⟩;refine eV ((F _ hKb (nsK hns)).run callerA [] s₁ H ⟨[.ref a],[]⟩ [.ref a] [.ref a] _ _ hr e0 (hbind s₁ (.ref a)) (.cons rfl .nil) (hsp H hO hS)) λr s' h=>?_
  cases r with
  |error e=>exact False.elim h
  |ok fl=>
   cases fl with
   |next=>exact False.elim h
   |brk=>exact False.elim h
   |cont=>exact False.elim h
   |ret u=>
    obtain⟨v,H',os,bare,un,hok',r',q⟩:=h;have q':v=.bl true:=q;subst q';obtain rfl:u=Value.bool true:=r';have kept:∀b o,b∉tabs->s₁.heap.get? b=some o->s'.heap.get? b=some o:=λb o nb e=>by
     cases q:H b with
     |none=>exact un.keep b o e q (by intro z;exact absurd (show b∈([]:List Addr) from z) (by simp)) (by simp)
     |some u=>
      rcases hO.2.1 b nb with z | ⟨ob',xs,z⟩
      ·rw[q] at z;cases z
      ·have z2:=un.frzs b ob' _ z;obtain⟨e1,_⟩:=hok b _ z;obtain⟨e2,_⟩:=hok' b _ z2;rw[e] at e1;cases e1;exact e2
    have grown:∀b,b∈tabs->∃ps,s'.heap.get? b=some (tabObj ps):=λb hb=>by
     obtain⟨more,z⟩:=un.tbls b #[] (hO.1 b hb);exact⟨_,hok' b _ z⟩
    refine⟨rfl,⟨λb o e=>?_,λb o e=>?_⟩,os,bare⟩
    ·by_cases hb:b∈tabs
     ·obtain⟨ps,hp⟩:=grown b hb;rw[(hT b hb).2] at e;cases e;exact .inr (.inl ⟨(hT b hb).1,rfl,#[],ps,rfl,by rw[Array.empty_append];exact hp⟩)
     ·exact .inl (kept b o hb e)
    ·by_cases hb:b∈tabs
     ·obtain⟨ps,hp⟩:=grown b hb;exact⟨_,hp⟩
     ·exact⟨o,kept b o hb e⟩
 have tOk:∀(H:Hp) (b:Addr),b∈tabs->ObjOk P w H s₁.heap b (.tbl #[]):=λH b hb=>(hT b hb).2
 let G:Hp->Hp:=λH0 b=>if b∈tabs then some (.tbl #[]) else if b=bm then some (.frz ob (iq bm ob)) else H0 b
 have Gt:∀{H0:Hp} {b:Addr},b∈tabs->G H0 b=some (.tbl #[]):=λhb=>if_pos hb;have Gb:∀{H0:Hp},G H0 bm=some (.frz ob (iq bm ob)):=(if_neg bT).trans (if_pos rfl);have Go:∀{H0:Hp} {b:Addr},b∉tabs->b≠bm->G H0 b=H0 b:=λh1 h2=>(if_neg h1).trans (if_neg h2);have only:∀H0:Hp,(∀b,H0 b=none∨∃o u,H0 b=some (.frz o u))->rB tabs bm (G H0):=λH0 h=>⟨λb hb=>Gt hb,λb hb=>by
  by_cases e:b=bm
  ·subst e;exact .inr ⟨_,_,Gb⟩
  ·rw[Go hb e];exact h b,ob,_,Gb,b4,b5,b6⟩
 have oks:∀H0:Hp,(∀b u,b∉tabs->b≠bm->H0 b=some u->ObjOk P w (G H0) s₁.heap b u)->HOk P w (G H0) s₁.heap:=λH0 h b u z=>by
  by_cases hb:b∈tabs
  ·rw[Gt hb] at z;cases z;exact tOk _ b hb
  ·by_cases e:b=bm
   ·subst e;rw[Gb] at z;cases z;exact⟨hB,pT hB⟩
   ·rw[Go hb e] at z;exact h b u hb e z
 cases hk:K.lookup a with
 |some o=>
  have e:=KX a o hk;rw[ha] at e;cases e;refine core (G λ_=>none) (only _ λb=>.inl rfl) (.inr ⟨_,vs.toArray,_,hk,rfl,rfl,rfl,by rw[bI,lenV];exact hl,by simpa using rv⟩) (oks _ λb u _ _ z=>by cases z) (λb hb z=>?_) λz=>absurd (Go (H0:=λ_=>none) aT ba.symm) z;by_cases e:b=bm
  ·exact .inr e
  ·exact absurd (Go (H0:=λ_=>none) hb e) z
 |none=>
  refine core (G λb=>if b=a then some (.frz {cls:=.type "list",data:=.seq vs.toArray} (.lst (ns.map V.int))) else none) (only _ λb=>?_) (.inl (.inr ⟨{cls:=.type "list",data:=.seq vs.toArray},(Go (H0:=λb=>if b=a then some (.frz {cls:=.type "list",data:=.seq vs.toArray} (.lst (ns.map V.int))) else none) aT ba.symm).trans (if_pos rfl)⟩)) (oks _ λb u hb nb z=>?_) (λb hb z=>?_) λ_=>hk
  ·by_cases e:b=a
   ·exact .inr ⟨_,_,if_pos e⟩
   ·exact .inl (if_neg e)
  ·by_cases e:b=a
   ·have z:=(if_pos e).symm.trans z;cases z;subst e;exact⟨ha,by rw[aR];exact hl,vs,_,rv,ha⟩
   ·have z:=(if_neg e).symm.trans z;cases z
  ·by_cases e:b=bm
   ·exact .inr e
   ·by_cases e2:b=a
    ·exact .inl e2
    ·exact absurd ((Go (H0:=λb=>if b=a then some (.frz {cls:=.type "list",data:=.seq vs.toArray} (.lst (ns.map V.int))) else none) hb e).trans (if_neg e2)) z
theorem walk_ofT{l:OpenLaw}{n k:Nat}{q:Program}{loose:List Str}{XP:(Str->Option Value)->Heap->Prop}{YP:World->Heap->Prop}{d:DefRec}{K:Params->Frag}{sp:World->Sp}{x:Str}{tabs:World->List Addr}{bm:Addr}
  (hn:l.most=some n) (hn2:n<=sizeLine) (hdf:d.params.defaults=[]) (hr:Room k callerA)
  (hY:∀(w:World) (h:Heap),YP w h->(K w.params).In h)
  (hTb:∀(w:World) (h:Heap) (mean:ExcName->Option Value) (mg mb:Str->Option Value),(K w.params).In h->Top q (looseW q loose) mean mg mb h->∀b∈tabs w,(isCodeTable h b/\h.get? b=some (tabObj #[]))/\(K w.params).lookup b=none)
  (hBm:∀(w:World) (h:Heap) (mg:Str->Option Value),(K w.params).In h->h.Ns mainGlobals mg->mg "__builtins__"=some (.ref bm)/\(K w.params).lookup bm=none)
  (F:∀(w:World) (mg:Str->Option Value) (fa:Addr) (h:Heap),(K w.params).In h->h.Ns mainGlobals mg->mg d.name=some (.ref fa)->
   ∃fd:FuncData,(∀(s:Shared) (u:Value),BindsTo s fd ⟨[u],[]⟩ [(x,u)])/\
    ∀base:Heap,(K w.params).In base->base.Ns mainGlobals mg->gD l.prog w (K w.params) mg base jj k fa fd [x] (sp w))
  (hsp:∀(w:World) (H:Hp) (a:Addr) (ns:List Int),ns.length<=n->rB (tabs w) bm H->SqL (K w.params) H a (ns.map V.int)->sp w [.ref a] H (λv _=>v=.bl true) λ_ _ _=>False):
  WalkO q loose XP YP l.row.toRowW d [] (λf vs=>PySem.call f vs):=by
 refine Att.attach_call hn hdf λw s₀ s₁ mg mb fa o pm cd doc a vs ns G Y ho hd hcd hmg hobj hints hlen hg=>?_;have KX:=hY w _ Y;obtain⟨fd,hb,hF⟩:=F w mg fa _ KX G.T.g hmg;have hT:=hTb w _ _ _ _ KX G.T;obtain⟨bm',ob,a1,a2,a3,a4,a5,a6⟩:=G.T.bmain;obtain⟨c1,c2⟩:=hBm w _ _ KX G.T.g;rw[c1] at a1;cases a1;exact KE KX G.T.g G.T.b G.T.builtins G.T.nolimit hg (λb hb=>(hT b hb).1) (λb hb=>(hT b hb).2) a3 c2 a4 a5 a6 hobj hints (bL hlen hn2) hr hF hb λH hO hS=>hsp w H a ns hlen hO hS
theorem R6{K:Frag}{mg:Str->Option Value}{h:Heap}{c Pt bm:Addr}{od:Option Addr}{sl:Array (Option Value)}{v0 v1 v2 v3 v4 v5 v6 v8 v12 v13 v14 v15 v16 v17:Value}{fl tx:Int}{tg tt tf:Tok}{inF:Bool}{file:Str}(X:K.In h)(G:h.Ns mainGlobals mg)
  (l:K.lookup c=some ⟨.type "code",od,.fields #[v0,v1,v2,v3,v4,v5,v6,.int fl tg,v8,.bool inF,.int tx tt,.ref Pt,v12,v13,v14,v15,v16,v17,.str file tf],sl⟩) (ne:c≠Pt)
  (b1:nsIn K mainGlobals "__builtins__"=some (some (.ref bm))) (b2:bm≠builtinsNs):nA K mg c Pt bm:=
 ⟨λh' X'=>⟨_,_,file,tf,fl,tg,inF,tx,tt,X' _ _ l,rfl,rfl,rfl,rfl,rfl,rfl,rfl,rfl,ne⟩,mg_of X G b1,b2⟩
section
variable{X:Cx}{k:Nat}{o i value:Expr}{td ty tv:TE}{pos pos':Pos}
theorem tU(hr:Room k X.A)(hi:E X i ty)(ho:E X o td)(hm:behindInMarks .NotIn o=false:=by rfl):T X (.Compare i [.NotIn] [o] pos) (L2.tB (Fk ty td)):=⟨LJ (Js (ur hr) hi.h ho.h) hm⟩
theorem uI(hr:Room k X.A)(ho:E X o td)(hi:E X i ty)(hv:E X value tv)(hs:swapsWith value (some (.Subscript o i pos')) pos.line X.env=pure false:=by rfl):S X (.Assign [.Subscript o i pos'] value pos) (EZ td ty tv):=⟨QH (ur hr) ho.h hi.h hv.h hs⟩
end
end L2
namespace L2
open PySem PySem.Spec PyProof.Rows PySem.SeqAt
section
variable{X:Cx}
theorem vy{h:Heap}:∀{ws:List (List Nat)} {us:List Value},Vals (ws.map λq=>V.str (Tx q)) us->ReadsAll h us (ws.map λq=>PyData.str (Tx q)) []
 |[],_,.nil=>.nil
 |w::ws,_,.cons r t=>by
  obtain⟨k,rfl⟩:=r;have:=ReadsAll.cons (Reads.str (h:=h) (Tx w) k) (vy (h:=h) t);simpa using this
def g9(l:List Nat):Prop:=∀c∈l,c<128
theorem VR{l:List Nat}(h:g9 l):PyData.strOk (Tx l)=true:=by
 unfold PyData.strOk;show l.toArray.all (λa=>decide (a<1114112))=true;rw[List.all_toArray,bV];intro c hc;exact eY (Nat.lt_trans (h c hc) (by decide))
theorem Dn:∀ws:List (List Nat),(∀w∈ws,g9 w)->PyData.canLayAll0 (ws.map λq=>PyData.str (Tx q))=true
 |[],_=>by simp[PyData.canLayAll0]
 |w::r,h=>by
  simp only[bH,PyData.canLayAll0,PyData.canLay0,Dn r λv hv=>h v (bG _ hv),VR (h w bF)];rfl
theorem Bl:∀ws:List (List Nat),PyData.depthAll (ws.map λq=>PyData.str (Tx q))<=1
 |[]=>by simp[PyData.depthAll]
 |_::r=>by
  have:=Bl r;simp only[bH,PyData.depthAll,PyData.depth];omega
theorem CC{ws:List (List Nat)}(h:∀w∈ws,g9 w):shaped (.list (ws.map λq=>PyData.str (Tx q)))=true:=by
 have h1:=Bl ws;have h2:PyData.depth (.list (ws.map λq=>PyData.str (Tx q)))<=64:=by simp only[PyData.depth];omega
 show (PyData.canLay0 (.list (ws.map λq=>PyData.str (Tx q)))&&decide (PyData.depth (.list (ws.map λq=>PyData.str (Tx q)))<=64))=true;rw[bE];exact⟨by simp only[PyData.canLay0];exact Dn ws h,eY h2⟩
theorem Gx:∀ws vs:List (List Nat),noMixAll (ws.map λq=>PyData.str (Tx q)) (vs.map λq=>PyData.str (Tx q))=true
 |[],[]=>by simp[noMixAll]
 |[],_::_=>by simp[noMixAll]
 |_::_,[]=>by simp[noMixAll]
 |_::r,_::q=>by simp[noMixAll,noMix,Gx r q]
theorem DU:∀ws vs:List (List Nat),PySem.Spec.sameAll (ws.map λq=>PyData.str (Tx q)) (vs.map λq=>PyData.str (Tx q))=decide (ws=vs)
 |[],[]=>by simp[PySem.Spec.sameAll]
 |[],_::_=>by simp[PySem.Spec.sameAll]
 |_::_,[]=>by simp[PySem.Spec.sameAll]
 |a::r,b::q=>by
  simp only[bH,PySem.Spec.sameAll,PySem.Spec.same,DU r q];by_cases h1:a=b
  ·subst h1;simp
  ·have:¬Tx a=Tx b:=λe=>h1 (Tx_inj.mp e);simp[h1,this]
theorem B3(hu:X.A.units+64<cLine):gE X (compareOp .Eq) (λx y H Q=>∃(a b:Addr) (ws vs:List (List Nat)),x=.ref a/\y=.ref b/\SqL X.K H a (ws.map λq=>V.str (Tx q))/\SqL X.K H b (vs.map λq=>V.str (Tx q))/\(∀w∈ws,g9 w)/\(∀w∈vs,g9 w)/\Q (.bl (decide (ws=vs))) H):=by
 refine⟨λpins s σ H x y v u Q I rx ry h=>?_⟩;obtain⟨a,b,ws,vs,rfl,rfl,ha,hb,a1,a2,q⟩:=h;cases rx;cases ry;obtain⟨its,rv,pl,_⟩:=I.list ha;obtain⟨its',rv',pl',_⟩:=I.list hb;obtain⟨o,ho,hc,n,hd⟩:=pl.isList;obtain⟨o',ho',hc',n',hd'⟩:=pl'.isList;exact eq_dataH_same (da:=.list (ws.map λq=>PyData.str (Tx q))) (db:=.list (vs.map λq=>PyData.str (Tx q))) (Reads.list ho hc hd (by simpa using vy rv)) (Reads.list ho' hc' hd' (by simpa using vy rv')) (CC a1) (CC a2) hu (by simp only[noMix];exact Gx ws vs)
  (by show EP X pins σ Q (.bool (same (.list _) (.list _))) s;simp only[same];rw[DU];exact⟨.bl _,H,I,rfl,q⟩)
theorem wY(hu:X.A.units+64<cLine):gE X (compareOp .Eq) (λx y H Q=>∃(a b:Addr) (vs:List V),x=.ref a/\y=.ref b/\SqL X.K H a vs/\SqL X.K H b []/\Q (.bl (decide (vs=[]))) H):=by
 refine⟨λpins s σ H x y v u Q I rx ry h=>?_⟩;obtain⟨a,b,vs,rfl,rfl,ha,hb,q⟩:=h;cases rx;cases ry;obtain⟨its,rv,pl,_⟩:=I.list ha;obtain⟨its',rv',pl',_⟩:=I.list hb;cases rv';have e:=rv.length;cases vs with
 |nil=>
  cases rv;refine SeqAt.RcAt.lists (e:=λ_=>true) pl.isList pl'.isList rfl ⋯ (λi h1 h2=>SeqAt.EqAt.same _) _ _ _ _ ?_;exact⟨.bl true,H,I,by show Value.bool _=Value.bool true;congr 1,q⟩
 |cons v0 vs=>
  refine SeqAt.RcAt.lists_lengths pl.isList pl'.isList (by rw[bI,←e];rfl) ⋯ _ _ _ _ ?_;exact⟨.bl false,H,I,rfl,q⟩
end
end L2
namespace L2
open PySem PySem.Spec PyProof.Rows PySem.SeqAt
section
variable{js:List Nat}{σ:St}{tt:TT}{te:TE}{Q:VK}{H1:Hp}
variable{X:Cx}
end
theorem fe{X:Cx}{st:Stmt}{rest:List Stmt}{t u:TS}(h1:S X st t)(h2:Ss X rest u):Ss X (st::rest) (let r:=u;rM t r):=Mf h1 h2
theorem ke{X:Cx}{st:Stmt}{rest:List Stmt}{t u:TS}(h1:S X st t)(h2:Ss X rest u):Ss X (st::rest) (let r:=u;Gm t r):=MM h1 h2
theorem B2{J:It}{js:List Nat}{σ:St}{tt:TT}{te:TE}{Q:VK}{H1:Hp}(h:pR J js σ tt te Q H1):x6 J 1 js (i7 0) σ tt te Q H1:=by
 intro D hD;obtain⟨W,h0,hs⟩:=h D hD;refine⟨W,h0,λi m H2 w=>?_⟩;rcases hs i m H2 w with z | ⟨hg,z⟩
 ·exact .inl z
 ·refine .inr ⟨hg,λv H3 y τ hτ=>?_⟩;obtain⟨u,rfl⟩:∃u,τ=[u]:=List.length_eq_one_iff.mp hτ;exact⟨⟨[some v],rfl,rfl⟩,z v H3 y⟩
section
variable{X:Cx}{elt iter:Expr}{x y:Str}{px py pos spos:Pos}{ifs:List Expr}{scope:Scope}{N':List Str}{js:List Nat}{tt:TT}{te:TE}{wi:TI}
theorem FS{cl:List (Str×Addr)}{C:Addr}{ex:List Addr}{pins:List (Addr×Obj)}{s:Shared}{H:Hp}(hx:scope.names.lookup x=some .local)(hnd:(x::N').Nodup):Gt (iu X ([x]++N') scope cl C ex pins s H) (.Name x px) (i7 0):=by
 have hl:(relabel scope X.env).names.lookup x=some .local:=by rw[yv,hx];rfl
 exact⟨FQ hnd rfl (.inl hl) (.inr hl)⟩
theorem oG(N':List Str)(js:List Nat)(hi:Il X (.Name x px) iter wi)
  (ht:∀(cl:List (Str×Addr)) (C:Addr) (ex:List Addr) (pins:List (Addr×Obj)) (s:Shared) (H:Hp),Fs (iu X (x::N') scope cl C ex pins s H) ifs tt)
  (he:∀(cl:List (Str×Addr)) (C:Addr) (ex:List Addr) (pins:List (Addr×Obj)) (s:Shared) (H:Hp),E (iu X (x::N') scope cl C ex pins s H) elt te)
  (hcl:∃cl,jF X scope cl:=by exact A8 rfl rfl rfl rfl) (hx:scope.names.lookup x=some .local:=by rfl) (hnd:(x::N').Nodup:=by decide +kernel) (hN:js.map (λj=>X.N[j]?)=N'.map some:=by rfl)
  (hk:N'.all (λy=>(X.env.kindOf y==some .cell)||(X.env.kindOf y==some .free))=true:=by rfl) (hf:N'.all (λy=>scope.names.lookup y==some .free)=true:=by rfl) (hc:X.calm=true:=by rfl)
  (hs:∀x,foldedSetIterable iter X.env x=pure x:=by intro _;rfl):E X (.ListComp elt [⟨.Name x px,iter,ifs,0⟩] scope pos) (Dv wi js tt te):=by
 obtain⟨cl,hcl⟩:=hcl;refine⟨λpins s σ H Q I h=>?_⟩;rw[eval_ListComp];refine wpAny_comprehension_free (use:=none) rfl hs hcl.is hcl.kind hcl.names (fU (hi.h pins s σ H _ I h) λxv s₁ h₁=>fU h₁ λitv s₂ h₂=>?_);obtain⟨it,fp,tn,J,H2,rfl,I2,T,st,hfp,q⟩:=h₂;refine zO (xs:=[x]) (g:=i7 0) (RR:=λacc C=>compPost (model X.prog X.w) X.A X.xe none (EP X pins σ Q) acc C) hcl hnd hN hk hf hc (λ_ _ _ _ _=>(FS hx hnd).h) (λC ex pins s H=>(ht cl C ex pins s H).h) (λC ex pins s H=>(he cl C ex pins s H).h) I2 T st hfp (B2 q) ?_
 intro D C s' H' m I' hC0 hCL hCs hCc hCp hn hq;refine⟨m,hn,λh' sb=>⟨.ref D,H',?_,rfl,hq⟩⟩;exact I'.turned (t':=s'.toks) (λb o hb e=>(sb.2 b hb).trans e) hC0 hCL (.inr hCs) hCc hCp
theorem Bf(i:Nat)(N':List Str)(js:List Nat)(hi:Il X (.Name x px) iter wi)
  (ht:∀(cl:List (Str×Addr)) (C:Addr) (ex:List Addr) (pins:List (Addr×Obj)) (s:Shared) (H:Hp),Fs (iu X (x::N') scope cl C ex pins s H) ifs tt)
  (he:∀(cl:List (Str×Addr)) (C:Addr) (ex:List Addr) (pins:List (Addr×Obj)) (s:Shared) (H:Hp),E (iu X (x::N') scope cl C ex pins s H) elt te)
  (hXN:X.N.Nodup) (hsw:swapsWith (.ListComp elt [⟨.Name x px,iter,ifs,0⟩] scope pos) (some (.Name y py)) spos.line X.env=pure true:=by rfl)
  (hiN:X.N[i]? =some y:=by rfl) (hy:X.env.scope.names.lookup y=some .local:=by rfl)
  (hcl:∃cl,jF X scope cl:=by exact A8 rfl rfl rfl rfl) (hx:scope.names.lookup x=some .local:=by rfl) (hnd:(x::N').Nodup:=by decide +kernel) (hN:js.map (λj=>X.N[j]?)=N'.map some:=by rfl)
  (hk:N'.all (λy=>(X.env.kindOf y==some .cell)||(X.env.kindOf y==some .free))=true:=by rfl) (hf:N'.all (λy=>scope.names.lookup y==some .free)=true:=by rfl) (hc:X.calm=true:=by rfl)
  (hs:∀x,foldedSetIterable iter X.env x=pure x:=by intro _;rfl):S X (.Assign [.Name y py] (.ListComp elt [⟨.Name x px,iter,ifs,0⟩] scope pos) spos) (pA (Dv wi js tt te) (i7 i)):=by
 obtain⟨cl,hcl⟩:=hcl;refine⟨λpins s σ H D I h=>?_⟩;rw[exec_Assign_Name_used _ _ _ _ hsw];refine eO (wpAny_standAt (eO ?_));show wpAny _ X.A (do let _ ←comprehension (.ListComp elt [⟨.Name x px,iter,ifs,0⟩] scope pos) scope X.env _ (newList []) false (eval iter X.env) (some (assign (.Name y py) X.env))) _ _ s
 refine eO (eP (wpAny_comprehension_free (use:=some (assign (.Name y py) X.env)) (Q:=λ_ s'=>SP X pins D .next s') rfl hs hcl.is hcl.kind hcl.names ?_) (λ_ s' hq=>fE (fE hq)) λ_ _ z=>z);refine fU (hi.h pins s σ H _ I h) λxv s₁ h₁=>fU h₁ λitv s₂ h₂=>?_;obtain⟨it,fp,tn,J,H2,rfl,I2,T,st,hfp,q⟩:=h₂;refine zO (xs:=[x]) (g:=i7 0) (Q:=λv H'=>D.nx (σ.set i (some v)) H') (RR:=λacc C=>compPost (model X.prog X.w) X.A X.xe (some (assign (.Name y py) X.env)) (λ_ s'=>SP X pins D .next s') acc C) hcl hnd hN hk hf hc (λ_ _ _ _ _=>(FS hx hnd).h) (λC ex pins s H=>(ht cl C ex pins s H).h) (λC ex pins s H=>(he cl C ex pins s H).h) I2 T st hfp (B2 q) ?_
 intro D' C s' H' m I' hC0 hCL hCs hCc hCp hn hq;show wpAny _ _ (assign (.Name y py) X.env (.ref D')) _ _ s';refine wpAny_assign_Name (DM I' hXN hiN (.inl hy) (v:=.ref D') rfl (λs3 I3 sb3=>?_) (.inr hy));obtain⟨a3,sb3,e3⟩:=sb3;have hCa:C≠a3:=by
  rcases e3 with e3 | e3
  ·rw[e3];exact hCL
  ·exact λz=>hCc y a3 e3 z.symm
 refine⟨m,hn.sameBut sb3 hCa,λh' sb=>⟨σ.set i (some (.ref D')),H',?_,hq⟩⟩;exact I3.turned (t':=s3.toks) (λb o hb e=>(sb.2 b hb).trans e) hC0 hCL (.inr hCs) hCc hCp
variable{e e1 e2 e3:Expr}{t t1 t2 t3:TE}
theorem A1(h:E X e t)(he':starEach (e::[]) X.env=(false,eval e X.env)::starEach [] X.env:=by rfl):As X [e] (jr t jQ):=aC h aN he'
theorem A2(h1:E X e1 t1)(h2:E X e2 t2)(he1':starEach (e1::[e2]) X.env=(false,eval e1 X.env)::starEach [e2] X.env:=by rfl)(he2':starEach (e2::[]) X.env=(false,eval e2 X.env)::starEach [] X.env:=by rfl):As X [e1,e2] (jr t1 (jr t2 jQ)):=aC h1 (aC h2 aN he2') he1'
theorem A3(h1:E X e1 t1)(h2:E X e2 t2)(h3:E X e3 t3)(he1':starEach (e1::[e2,e3]) X.env=(false,eval e1 X.env)::starEach [e2,e3] X.env:=by rfl)(he2':starEach (e2::[e3]) X.env=(false,eval e2 X.env)::starEach [e3] X.env:=by rfl)(he3':starEach (e3::[]) X.env=(false,eval e3 X.env)::starEach [] X.env:=by rfl):As X [e1,e2,e3] (jr t1 (jr t2 (jr t3 jQ))):=aC h1 (aC h2 (aC h3 aN he3') he2') he1'
end
noncomputable def Y0{X x pos}:=@v_ X x pos 0
noncomputable def Y1{X x pos}:=@v_ X x pos 1
noncomputable def Y2{X x pos}:=@v_ X x pos 2
noncomputable def Y3{X x pos}:=@v_ X x pos 3
noncomputable def Y4{X x pos}:=@v_ X x pos 4
noncomputable def Y5{X x pos}:=@v_ X x pos 5
noncomputable def Y6{X x pos}:=@v_ X x pos 6
noncomputable def Y7{X x pos}:=@v_ X x pos 7
noncomputable def Y8{X x pos}:=@v_ X x pos 8
noncomputable def Y9{X x pos}:=@v_ X x pos 9
end L2
namespace L2
noncomputable def iv(σ:St)(i:Nat):Int:=match σ[i]? with
 |some (some (.int n))=>n
 |_=>0
end L2
namespace L2
open PySem PySem.Spec PyProof.Rows
abbrev Dx(P:Program)(w:World)(base:Heap){K:PySem.W.Frag}{mg:Str->Option Value}{x:Str}{st:Stmt}{ps:List Str}(_:Fn K mg x st ps)(k:Nat)(sp:Sp):Prop:=Df P w K mg base x k ps sp
abbrev Dm(P:Program)(w:World)(mg:Str->Option Value)(base:Heap){K:PySem.W.Frag}{C:Addr}{m q:Str}{st:Stmt}{ps:List Str}(_:FnM K C m q st ps)(k:Nat)(sp:Sp):Prop:=qD P w K mg base C m k ps sp
end L2
theorem L2.zP9{a:Int}(h:0<a:=by decide):0<a:=h
theorem L2.zD9{p q:Prop}(a:p:=by decide)(b:q:=by decide):p/\q:=⟨a,b⟩
namespace K52
open PySem PySem.Spec PyProof.Rows L2 KM
noncomputable def top(i:Nat):Stmt:=PySem.Challenge.pw_fivefields_k52_last_walked.main.body.getD i (.Pass ⟨0,0,0,0⟩)
noncomputable abbrev Hm:Stmt:=jf (top 83) 0
noncomputable abbrev FX:Stmt:=jf (top 84) 0
noncomputable abbrev Gp:Stmt:=jf (top 84) 1
noncomputable abbrev oC:Stmt:=jf (top 85) 0
noncomputable abbrev CJ:Stmt:=jf (top 85) 1
noncomputable abbrev B6:Stmt:=jf (top 86) 0
noncomputable abbrev Dt:Stmt:=jf (top 86) 1
noncomputable abbrev F5:Stmt:=jf (top 87) 0
noncomputable abbrev Hj:Stmt:=jf (top 88) 0
noncomputable abbrev CQ:Stmt:=jf (top 88) 1
noncomputable abbrev CP:Stmt:=jf (top 89) 0
noncomputable abbrev GH:Stmt:=jf (top 89) 1
noncomputable abbrev Dw:Stmt:=jf (top 90) 0
noncomputable abbrev GG:Stmt:=jf (top 90) 1
noncomputable abbrev DR:Stmt:=jf (top 109) 0
noncomputable abbrev F6:Stmt:=jf (top 109) 5
noncomputable abbrev GW:Stmt:=jf (top 109) 8
noncomputable abbrev Eg:Stmt:=jf (top 109) 6
noncomputable def io(y:Int):Bool:=decide (y%4=0)&&(!decide (y%100=0)||decide (y%400=0))
noncomputable def mb(y s:Int):Int:=(y+s-1) / s
noncomputable def db(y:Int):Int:=365*y+(mb y 4-mb y 100+mb y 400)
noncomputable def lasts:List Int:=[31,28,31,30,31,30,31,31,30,31,30,31]
noncomputable def iQ(y:Int):Int:=if io y=true then 1 else 0
noncomputable def fK(y m:Int):Int:=if m=2 then 28+iQ y else lasts.getD (m-1).toNat 0
theorem rl(y:Int):io y=true↔(y%4=0/\(y%100≠0∨y%400=0)):=by
 unfold io;simp
theorem Dh{y:Int}(h:y%4=0/\(y%100≠0∨y%400=0)):io y=true:=(rl y).mpr h
theorem Gs{y:Int}(h:¬(y%4=0/\(y%100≠0∨y%400=0))):io y=false:=by
 cases e:io y
 ·rfl
 ·exact absurd ((rl y).mp e) h
theorem pO(y:Int):0<=iQ y/\iQ y<=1:=by
 unfold iQ;split<;>omega
theorem mE(y:Int):db y=365*y+((y+3) / 4-(y+99) / 100+(y+399) / 400):=by
 have e1:y+4-1=y+3:=⋯;have e2:y+100-1=y+99:=⋯;have e3:y+400-1=y+399:=⋯;unfold db mb;rw[e1,e2,e3]
theorem BW(y q:Int):db (y+400*q)=db y+146097*q:=by rw[mE,mE];omega
theorem aJP(y q:Int):iQ (y+400*q)=iQ y:=by
 have e:io (y+400*q)=io y:=by
  unfold io;rw[show (y+400*q)%4=y%4 by omega,show (y+400*q)%100=y%100 by omega,show (y+400*q)%400=y%400 by omega]
 unfold iQ;rw[e]
theorem vp:∀r:Nat,r<400->db ((r:Int)+1)-db (r:Int)=365+iQ (r:Int):=by decide +kernel
theorem nj(y:Int):db (y+1)-db y=365+iQ y:=by
 have z:=vp (y%400).toNat ⋯;obtain⟨q,e⟩:∃q,y=((y%400).toNat:Int)+400*q:=⟨y / 400,⋯⟩;generalize ((y%400).toNat:Int)=r at z e;rw[e,show r+400*q+1=r+1+400*q by omega,BW,BW,aJP];omega
theorem rY{m:Int}(h1:1<=m)(h2:m<=12):jb (lasts.map V.int) (m-1)=some (V.int (lasts.getD (m-1).toNat 0)):=by
 have hk:(m-1).toNat<12:=⋯;have e:m-1=(((m-1).toNat:Nat):Int):=⋯;rw[e];refine qv ?_;rw[bQ];generalize (m-1).toNat=j at hk
 match j,hk with
 |0,_ | 1,_ | 2,_ | 3,_ | 4,_ | 5,_ | 6,_ | 7,_ | 8,_ | 9,_ | 10,_ | 11,_=>rfl
 |n+12,h=>exact absurd h ⋯
noncomputable def jU(y:Int):Nat->Int
 |0=>0
 |n+1=>jU y n+fK y ((n:Int)+1)
noncomputable def ahead(y m:Int):Int:=jU y (m-1).toNat
theorem pS{y m:Int}(h:1<=m):ahead y (m+1)=ahead y m+fK y m:=by
 have e:(m+1-1).toNat=(m-1).toNat+1:=⋯;have e2:(((m-1).toNat:Nat):Int)+1=m:=⋯;unfold ahead;rw[e];show jU y (m-1).toNat+fK y (((m-1).toNat:Int)+1)=_;rw[e2]
theorem sZ(y:Int):ahead y 13=365+iQ y:=by
 show 0+fK y 1+fK y 2+fK y 3+fK y 4+fK y 5+fK y 6+fK y 7+fK y 8+fK y 9+fK y 10+fK y 11+fK y 12=_;have e2:fK y 2=28+iQ y:=rfl;rw[e2];show 0+31+(28+iQ y)+31+30+31+30+31+31+30+31+30+31=_;omega
theorem Er{y m:Int}(h1:1<=m)(h2:m<=12):28<=fK y m:=by
 have hl:=pO y;unfold fK;split
 ·omega
 ·have hk:(m-1).toNat<12:=⋯;generalize (m-1).toNat=j at hk
  match j,hk with
  |0,_ | 1,_ | 2,_ | 3,_ | 4,_ | 5,_ | 6,_ | 7,_ | 8,_ | 9,_ | 10,_ | 11,_=>decide
  |n+12,h=>exact absurd h ⋯
theorem Bo(y:Int):∀n:Nat,((List.range n).map λi:Nat=>fK y (1+(i:Int))).sum=jU y n
 |0=>rfl
 |n+1=>by
  rw[BS,List.sum_append,Bo y n];show jU y n+(fK y (1+(n:Int))+0)=jU y n+fK y ((n:Int)+1);rw[Int.add_comm 1 (n:Int),Int.add_zero]
noncomputable def nK(k:Int):List Int:=if k / 7=12 then [2,29,k%7] else [k / 7+1,fK 1 (k / 7+1),k%7]
noncomputable def iY(k:Int):Int:=if k / 7=12 then 2 else k / 7+1
noncomputable def gZ(k:Int):Int:=if k / 7=12 then 29 else fK 1 (k / 7+1)
theorem sG(k:Int):nK k=[iY k,gZ k,k%7]:=by
 unfold nK iY gZ;split<;>rfl
theorem Zl:∀n:Nat,n<91->(1<=iY n/\iY n<=12)/\(28<=gZ n/\gZ n<=31):=by decide +kernel
theorem mJ{k:Int}(h0:0<=k)(h1:k<=90):(1<=iY k/\iY k<=12)/\Lf (gZ k) (k%7):=by
 have z:=Zl k.toNat ⋯;rw[bK h0] at z;exact⟨z.1,z.2,⋯,⋯⟩
def DVn(c:Cs)(D:Addr)(H:Hp)(v:V)(ko:Ko):Prop:=DV c H v ko/\∀p,v=.ref p->p≠D
theorem DVn.keep{c:Cs}{D:Addr}{H H':Hp}(s:Same H H'){v:V}{ko:Ko}(h:DVn c D H v ko):DVn c D H' v ko:=⟨h.1.keep s,h.2⟩
theorem DVn.upd{c:Cs}{D:Addr}{H:Hp}{l':List V}{v:V}:∀{ko:Ko},DVn c D H v ko->(∃l,H D=some (.lst l))->DVn c D (upd H D (.lst l')) v ko
 |none,h,_=>h
 |some ks,⟨⟨p,qs,e,h1,h2,h3⟩,hn⟩,⟨l,hl⟩=>⟨⟨p,qs,e,by rw[fH (hn p e)];exact h1,h2.keepM (vo hl),h3⟩,hn⟩
def RR(c:Cs)(m0 m1 m3:Int)(kd kw:Ko)(D:Addr)(i:Nat)(l:List V)(H:Hp):Prop:=match i with
 |0=>l=[]
 |1=>l=[.int m0]
 |2=>l=[.int m0,.int m1]
 |3=>∃dv,l=[.int m0,.int m1,dv]/\DVn c D H dv kd
 |4=>∃dv,l=[.int m0,.int m1,dv,.int m3]/\DVn c D H dv kd
 |_=>∃dv wv,l=[.int m0,.int m1,dv,.int m3,wv]/\DVn c D H dv kd/\DVn c D H wv kw
theorem RR.keep{c:Cs}{m0 m1 m3:Int}{kd kw:Ko}{D:Addr}{l:List V}{H H':Hp}(s:Same H H'):∀{i:Nat},RR c m0 m1 m3 kd kw D i l H->RR c m0 m1 m3 kd kw D i l H'
 |0,h=>h
 |1,h=>h
 |2,h=>h
 |3,⟨dv,e,h⟩=>⟨dv,e,h.keep s⟩
 |4,⟨dv,e,h⟩=>⟨dv,e,h.keep s⟩
 |_+5,⟨dv,wv,e,h,h'⟩=>⟨dv,wv,e,h.keep s,h'.keep s⟩
theorem RR.upd{c:Cs}{m0 m1 m3:Int}{kd kw:Ko}{D:Addr}{l l':List V}{H:Hp}(hl:∃l,H D=some (.lst l)):∀{i:Nat},RR c m0 m1 m3 kd kw D i l H->RR c m0 m1 m3 kd kw D i l (upd H D (.lst l'))
 |0,h=>h
 |1,h=>h
 |2,h=>h
 |3,⟨dv,e,h⟩=>⟨dv,e,h.upd hl⟩
 |4,⟨dv,e,h⟩=>⟨dv,e,h.upd hl⟩
 |_+5,⟨dv,wv,e,h,h'⟩=>⟨dv,wv,e,h.upd hl,h'.upd hl⟩
theorem aE4{ws:List (List Nat)}(h:∀w∈ws,w≠[]):kS (.str (Tx [])) (ws.map λq=>V.str (Tx q))=false:=by
 unfold kS;rw[List.any_map,dC];intro w hw hc;have e:Tx w=Tx []:=beq_iff_eq.mp (show (Tx w==Tx [])=true from hc);exact h w hw (by have:=congrArg (λz=>z.cps.toList) e;simpa [Tx] using this)
noncomputable def g8(m0 m1:Int)(dv:V)(m3:Int)(wv:V)(tm:Int):List (Str×V):=gd "time_mask" (.int tm) (gd "weekday_marks" wv (gd "month_mask" (.int m3) (gd "day_marks" dv (gd "hour_mask" (.int m1) (gd "minute_mask" (.int m0) [])))))
theorem CG(m0 m1:Int)(dv:V)(m3:Int)(wv:V)(tm:Int):(g8 m0 m1 dv m3 wv tm).lookup ("minute_mask":Str)=some (.int m0):=by
 unfold g8;rw[gr,if_neg (by decide +kernel),gr,if_neg (by decide +kernel),gr,if_neg (by decide +kernel),gr,if_neg (by decide +kernel),gr,if_neg (by decide +kernel),gr,if_pos rfl]
theorem C5(m0 m1:Int)(dv:V)(m3:Int)(wv:V)(tm:Int):(g8 m0 m1 dv m3 wv tm).lookup ("hour_mask":Str)=some (.int m1):=by
 unfold g8;rw[gr,if_neg (by decide +kernel),gr,if_neg (by decide +kernel),gr,if_neg (by decide +kernel),gr,if_neg (by decide +kernel),gr,if_pos rfl]
theorem NE(m0 m1:Int)(dv:V)(m3:Int)(wv:V)(tm:Int):(g8 m0 m1 dv m3 wv tm).lookup ("day_marks":Str)=some (dv):=by
 unfold g8;rw[gr,if_neg (by decide +kernel),gr,if_neg (by decide +kernel),gr,if_neg (by decide +kernel),gr,if_pos rfl]
theorem F4(m0 m1:Int)(dv:V)(m3:Int)(wv:V)(tm:Int):(g8 m0 m1 dv m3 wv tm).lookup ("month_mask":Str)=some (.int m3):=by
 unfold g8;rw[gr,if_neg (by decide +kernel),gr,if_neg (by decide +kernel),gr,if_pos rfl]
theorem Kj(m0 m1:Int)(dv:V)(m3:Int)(wv:V)(tm:Int):(g8 m0 m1 dv m3 wv tm).lookup ("weekday_marks":Str)=some (wv):=by
 unfold g8;rw[gr,if_neg (by decide +kernel),gr,if_pos rfl]
theorem anM(m0 m1:Int)(dv:V)(m3:Int)(wv:V)(tm:Int):(g8 m0 m1 dv m3 wv tm).lookup ("time_mask":Str)=some (.int tm):=by
 unfold g8;rw[gr,if_pos rfl]
theorem uu(m0 m1:Int)(dv:V)(m3:Int)(wv:V)(tm:Int):(g8 m0 m1 dv m3 wv tm).lookup ("days_in":Str)=none:=by
 unfold g8;rw[gr,if_neg (by decide +kernel),gr,if_neg (by decide +kernel),gr,if_neg (by decide +kernel),gr,if_neg (by decide +kernel),gr,if_neg (by decide +kernel),gr,if_neg (by decide +kernel)];rfl
theorem JK(m0 m1:Int)(dv:V)(m3:Int)(wv:V)(tm:Int):(g8 m0 m1 dv m3 wv tm).lookup ("shut_by":Str)=none:=by
 unfold g8;rw[gr,if_neg (by decide +kernel),gr,if_neg (by decide +kernel),gr,if_neg (by decide +kernel),gr,if_neg (by decide +kernel),gr,if_neg (by decide +kernel),gr,if_neg (by decide +kernel)];rfl
theorem Oj(m0 m1:Int)(dv:V)(m3:Int)(wv:V)(tm:Int):(g8 m0 m1 dv m3 wv tm).lookup ("on_days":Str)=none:=by
 unfold g8;rw[gr,if_neg (by decide +kernel),gr,if_neg (by decide +kernel),gr,if_neg (by decide +kernel),gr,if_neg (by decide +kernel),gr,if_neg (by decide +kernel),gr,if_neg (by decide +kernel)];rfl
def SV(b:Bool)(H:Hp)(v:V):Ko->Prop
 |none=>v=.non
 |some ks=>∃p us,v=.ref p/\H p=some (.lst (us.map V.ref))/\Ft (TpAt b H) us ks
theorem SV.keep{b:Bool}{H H':Hp}(s:Same H H'){v:V}:∀{ko:Ko},SV b H v ko->SV b H' v ko
 |none,h=>h
 |some _,⟨p,us,e,h1,h2⟩=>⟨p,us,e,s _ _ h1,h2.keepT s.keep⟩
theorem GT{a b:List Nat}(h1:42∉a)(h2:42∉b):42∉a++b:=λh=>(bP.mp h).elim h1 h2
theorem uZ{b:Bool}:∀{ws:List (List Nat)} {ks:List Mk} {t:List Nat} {k:Mk},Ws b ws ks->Cl t/\lF b t k->Ws b (ws++[t]) (ks++[k])
 |_,_,_,_,.nil,h=>.cons h .nil
 |_,_,_,_,.cons r t,h=>.cons r (uZ t h)
theorem pC{lo hi:Int}:∀{ws:List (List Nat)} {nss:List (List Int)},Paired (kP lo hi) ws nss->(∀w∈ws,Cl w)/\(∀n∈nss.flatten,lo<=n/\n<=hi)/\nss.flatten.length<=64*ws.length
 |_,_,.nil=>⟨λw hw=>(nomatch hw),λn hn=>(nomatch hn),aQ _⟩
 |w::ws,ns::nss,.cons r t=>by
  obtain⟨h1,h2,h3⟩:=pC t;refine⟨λv hv=>?_,λn hn=>?_,?_⟩
  ·rcases aX.mp hv with z | z
   ·subst z;exact r.2.1
   ·exact h1 v z
  ·rw[dI] at hn;exact (bP.mp hn).elim (r.2.2.1 n) (h2 n)
  ·rw[dI,aY,bZ];have:=r.2.2.2.2;omega
theorem L7{lo hi:Int}:∀{ws:List (List Nat)} {nss:List (List Int)},Paired (kP lo hi) ws nss->ws≠[]->nss.flatten≠[]
 |_,_,.nil,h=>absurd rfl h
 |_,_,.cons r _,_=>λe=>r.2.2.2.1 (by rw[dI,List.append_eq_nil_iff] at e;exact e.1)
theorem oR{α β:Type}{F:α->β->Prop}:∀{l:List α} {r:List β} {a:α} {b:β},Paired F l r->F a b->Paired F (l++[a]) (r++[b])
 |_,_,_,_,.nil,h=>.cons h .nil
 |_,_,_,_,.cons x t,h=>.cons x (oR t h)
theorem mS{b:Bool}{ko:Ko}{a l f:Int}(h:Lf l f)(o:∀ks,ko=some ks->∀k∈ks,k.ok)(ha:0<=a):0<=jc ko a l f:=by
 cases ko with
 |none=>exact ha
 |some ks=>exact mM ha (xy h (o ks rfl))
theorem Xu{a m:Int}{k:Nat}(ha:0<=a)(hk:a<2^k)(hm:0<=m):Builtin.bitOr a (m*2^k)=a+m*2^k:=by
 obtain⟨x,rfl⟩:=cH ha;obtain⟨y,rfl⟩:=cH hm;have e:((y:Int)*2^k)=((y*2^k:Nat):Int):=by rw[Int.natCast_mul,jJ]
 have hx:x<2^k:=by have:=jJ k;omega
 rw[e,rp,Nat.or_comm,←Nat.shiftLeft_eq,←Nat.shiftLeft_add_eq_or_of_lt hx,Nat.shiftLeft_eq];omega
noncomputable def gC(h m:Int):Int:=gz ((mG h).map λz=>m*2^(60*z).toNat)
theorem Gg{h m:Int}(hm:0<=m)(hm2:m<2^60):∀n:Nat,gz ((flt (tb h) 0 n).map λz=>m*2^(60*z).toNat)=((flt (tb h) 0 n).map λz=>m*2^(60*z).toNat).sum/\0<=((flt (tb h) 0 n).map λz=>m*2^(60*z).toNat).sum/\((flt (tb h) 0 n).map λz=>m*2^(60*z).toNat).sum<2^(60*n)
 |0=>by rw[Ar];exact⟨rfl,aS 0,(by decide:(0:Int)<2^0)⟩
 |n+1=>by
  obtain⟨h1,h2,h3⟩:=Gg hm hm2 n;have p60:(2:Int)^(60*(n+1))=2^(60*n)*2^60:=by rw[show 60*(n+1)=60*n+60 by omega,Int.pow_add]
  have p0:=gS (60*n);cases c:tb h n
  ·rw[qP c,p60];refine⟨h1,h2,Int.lt_of_lt_of_le h3 ?_⟩;have:(2:Int)^(60*n)*1<=2^(60*n)*2^60:=Int.mul_le_mul_of_nonneg_left (by decide) (bN p0);omega
  ·have ez:(60*(0+(n:Int))).toNat=60*n:=⋯;have hb:(m+1)*2^(60*n)<=2^60*2^(60*n):=Int.mul_le_mul_of_nonneg_right ⋯ (bN p0);have hn2:0<=m*2^(60*n):=Int.mul_nonneg hm (bN p0);rw[vV c,bB,List.map_singleton,pX,List.sum_append,h1,ez,Xu h2 h3 hm,p60];rw[Int.add_mul,Int.mul_comm (2^60)] at hb;refine⟨by simp,?_,?_⟩
   ·show 0<=_+(m*2^(60*n)+0);omega
   ·show _+(m*2^(60*n)+0)<_;omega
theorem B1{a b:Int}(h:a+1<=b):db (a+1)<=db b:=by rw[mE,mE];omega
theorem ZL{q z:Int}(h:0<=z):db (q*400+z)<=146097*q+366*z:=by rw[mE];omega
def il(y m k:Int):Prop:=(1<=m/\m<=12)/\1<=k/\k<=fK y m
noncomputable def gJ(y m k:Int):Int:=db y+ahead y m+k-1
theorem Fi(y:Int):∀(n d:Nat),n+d<=12->jU y n<=jU y (n+d)
 |_,0,_=>aS _
 |n,d+1,h=>by
  have h1:=Fi y n d ⋯;have h2:28<=fK y (((n+d:Nat):Int)+1):=Er ⋯ ⋯;show jU y n<=jU y (n+d)+fK y (((n+d:Nat):Int)+1);omega
theorem qV{y m n:Int}(h1:1<=m)(h2:m<=n)(h3:n<=13):ahead y m<=ahead y n:=by
 have e:(n-1).toNat=(m-1).toNat+(n-m).toNat:=⋯;unfold ahead;rw[e];exact Fi y _ _ ⋯
theorem Cj{y m k:Int}(h:il y m k):db y<=gJ y m k/\gJ y m k<db (y+1)/\gJ y m k<db y+ahead y (m+1):=by
 obtain⟨⟨h1,h2⟩,h3,h4⟩:=h;have a1:=pS (y:=y) h1;have a2:ahead y (m+1)<=ahead y 13:=qV ⋯ ⋯ ⋯;have a3:=sZ y;have a4:=nj y;have a5:ahead y 1<=ahead y m:=qV ⋯ h1 ⋯;have a6:ahead y 1=0:=rfl;unfold gJ;omega
theorem oE{y m k y' m' k':Int}(h:il y m k)(h':il y' m' k')(e:gJ y m k=gJ y' m' k'):y=y'/\m=m'/\k=k':=by
 have b:=Cj h;have b':=Cj h';have ey:y=y':=by
  rcases Int.lt_trichotomy y y' with z | z | z
  ·have:=B1 (a:=y) (b:=y') ⋯;omega
  ·exact z
  ·have:=B1 (a:=y') (b:=y) ⋯;omega
 subst ey;have em:m=m':=by
  rcases Int.lt_trichotomy m m' with z | z | z
  ·have:=qV (y:=y) (m:=m+1) (n:=m') (by have:=h.1.1;omega) ⋯ (by have:=h'.1.2;omega);have q1:=h'.2.1;have q2:gJ y m' k'=db y+ahead y m'+k'-1:=rfl;omega
  ·exact z
  ·have:=qV (y:=y) (m:=m'+1) (n:=m) (by have:=h'.1.1;omega) ⋯ (by have:=h.1.2;omega);have q1:=h.2.1;have q2:gJ y m k=db y+ahead y m+k-1:=rfl;omega
 subst em;unfold gJ at e;exact⟨rfl,rfl,⋯⟩
noncomputable def jH(y m:Int):Int:=if m=2/\io y=true then 12 else m-1
noncomputable def kindOf(y m:Int):Int:=7*jH y m+(db y+ahead y m+6)%7
theorem Bk{y m:Int}(h1:1<=m)(h2:m<=12):0<=jH y m/\jH y m<=12:=by
 unfold jH;split<;>omega
theorem qH{y m:Int}(h1:1<=m)(h2:m<=12):0<=kindOf y m/\kindOf y m<=90:=by
 have:=Bk (y:=y) h1 h2;unfold kindOf;omega
theorem BV{y m:Int}(h:¬m=2):fK y m=lasts.getD (m-1).toNat 0:=by unfold fK;rw[if_neg h]
theorem YL{y m:Int}(h1:1<=m)(h2:m<=12):nK (kindOf y m)=[m,fK y m,kindOf y m%7]:=by
 have hp:=Bk (y:=y) h1 h2;have e:kindOf y m / 7=jH y m:=by unfold kindOf;omega
 unfold nK;rw[e];by_cases c:m=2/\io y=true
 ·have ep:jH y m=12:=by unfold jH;rw[if_pos c]
  have el:fK y m=29:=by unfold fK iQ;rw[if_pos c.1,if_pos c.2];rfl
  rw[ep,if_pos rfl,el,c.1]
 ·have ep:jH y m=m-1:=by unfold jH;rw[if_neg c]
  rw[ep,if_neg ⋯];have e1:m-1+1=m:=⋯;rw[e1];have el:fK 1 m=fK y m:=by
   by_cases c2:m=2
   ·have hl:¬io y=true:=λz=>c ⟨c2,z⟩;unfold fK iQ;rw[if_pos c2,if_pos c2,if_neg hl];rfl
   ·rw[BV c2,BV c2]
  rw[el]
theorem nM{y m:Int}(h1:1<=m)(h2:m<=12):iY (kindOf y m)=m/\gZ (kindOf y m)=fK y m:=by
 have e:=YL (y:=y) h1 h2;rw[sG] at e;injection e with e1 e;injection e with e2 e;exact⟨e1,e2⟩
theorem Bd{y m:Int}(h1:1<=m)(h2:m<=12):28<=fK y m/\fK y m<=31:=by
 have e:=nM (y:=y) h1 h2;have k:=qH (y:=y) h1 h2;rw[←e.2];exact (mJ k.1 k.2).2.1
theorem C3(y r:Int):io (y+400*r)=io y:=by
 rw[c8,rl,rl];omega
theorem AK(y r m:Int):fK (y+400*r) m=fK y m:=by
 unfold fK iQ;rw[C3]
theorem zj(y r:Int):∀n,jU (y+400*r) n=jU y n
 |0=>rfl
 |n+1=>by
  show jU (y+400*r) n+fK (y+400*r) ((n:Int)+1)=jU y n+fK y ((n:Int)+1);rw[zj y r n,AK]
theorem DO(y r:Int):db (y+400*r)=db y+146097*r:=by rw[mE,mE];omega
theorem aE9{y m k d r x:Int}(h:il y m k)(e:gJ y m k=x)(ed:x+146097*r=d):il (y+400*r) m k/\gJ (y+400*r) m k=d:=by
 refine⟨⟨h.1,h.2.1,by rw[AK];exact h.2.2⟩,?_⟩;have a:ahead (y+400*r) m=ahead y m:=zj y r _;unfold gJ at e ⊢;rw[DO,a];omega
noncomputable def iy(m0 m1 m3:Int)(kd kw:Ko)(d r y m k:Int):V:=
 if tb m3 m.toNat=false then .str (Tx [109,111,110,116,104]) else if tb (gg kd kw (fK y m) ((d-k+1+6)%7)) k.toNat=false then .str (Tx [100,97,121])
 else if tb m1 (r / 60).toNat=false then .str (Tx [104,111,117,114]) else if tb m0 (r%60).toNat=false then .str (Tx [109,105,110,117,116,101]) else .non
section
variable{m0 m1 m3:Int}{kd kw:Ko}{d r y m k:Int}
theorem ny(h:tb m3 m.toNat=false):iy m0 m1 m3 kd kw d r y m k=.str (Tx [109,111,110,116,104]):=if_pos h
theorem ni(h1:tb m3 m.toNat=true)(h:tb (gg kd kw (fK y m) ((d-k+1+6)%7)) k.toNat=false):iy m0 m1 m3 kd kw d r y m k=.str (Tx [100,97,121]):=by
 unfold iy;rw[if_neg (by rw[h1];decide),if_pos h]
theorem oX(h1:tb m3 m.toNat=true)(h2:tb (gg kd kw (fK y m) ((d-k+1+6)%7)) k.toNat=true)(h:tb m1 (r / 60).toNat=false):iy m0 m1 m3 kd kw d r y m k=.str (Tx [104,111,117,114]):=by
 unfold iy;rw[if_neg (by rw[h1];decide),if_neg (by rw[h2];decide),if_pos h]
theorem oF(h1:tb m3 m.toNat=true)(h2:tb (gg kd kw (fK y m) ((d-k+1+6)%7)) k.toNat=true)(h3:tb m1 (r / 60).toNat=true)(h:tb m0 (r%60).toNat=false):iy m0 m1 m3 kd kw d r y m k=.str (Tx [109,105,110,117,116,101]):=by
 unfold iy;rw[if_neg (by rw[h1];decide),if_neg (by rw[h2];decide),if_neg (by rw[h3];decide),if_pos h]
theorem nk(h1:tb m3 m.toNat=true)(h2:tb (gg kd kw (fK y m) ((d-k+1+6)%7)) k.toNat=true)(h3:tb m1 (r / 60).toNat=true)(h:tb m0 (r%60).toNat=true):iy m0 m1 m3 kd kw d r y m k=.non:=by
 unfold iy;rw[if_neg (by rw[h1];decide),if_neg (by rw[h2];decide),if_neg (by rw[h3];decide),if_neg (by rw[h];decide)]
theorem qc(hk:il y m k)(e:gJ y m k=d):kindOf y m%7=(d-k+1+6)%7:=by
 unfold kindOf;unfold gJ at e;omega
theorem qI(hk:il y m k):Lf (fK y m) ((d-k+1+6)%7):=⟨Bd hk.1.1 hk.1.2,⋯,⋯⟩
end
theorem ix{b:Bool}(h:¬b=false):b=true:=by simpa using h
theorem sW{kd kw:Ko}{l f:Int}(h:Lf l f)(od:∀ks,kd=some ks->∀k∈ks,k.ok)(ow:∀ks,kw=some ks->∀k∈ks,k.ok):0<=gg kd kw l f:=by
 unfold gg;split
 ·have:=gS l.toNat;have:(2:Int)^l.toNat ≥ 1:=⋯;omega
 ·exact mS (b:=true) h ow (mS (b:=false) h od (aS 0))
theorem ph{c:Cs}{H:Hp}{v:V}:∀{ko:Ko},DV c H v ko->∀ks,ko=some ks->∀k∈ks,k.ok
 |some _,⟨_,_,_,_,_,h⟩,_,rfl=>h
theorem FC{zs:List Int}{i:Int}(h0:0<=i)(h1:i<zs.length):∃z,jb (zs.map V.int) i=some (V.int z):=by
 have hk:i.toNat<zs.length:=⋯;have e:i=((i.toNat:Nat):Int):=⋯;rw[e];exact⟨zs[i.toNat],qv (by rw[bC,bW hk];rfl)⟩
noncomputable def tabA:List Nat:=[0,31,59,90,120,151,181,212,243,273,304,334]
noncomputable def kb(y:Nat):Nat:=(if (y%4==0&&(y%100 !=0||y%400==0))=true then 7 else 0)+(365*y+(y+3) / 4-(y+99) / 100+(y+399) / 400+6)%7
noncomputable def md(c m:Nat):Nat:=7*(if (Nat.beq m 1&&Nat.ble 7 c)=true then 12 else m)+(c%7+tabA.getD m 0+(if (Nat.ble 2 m&&Nat.ble 7 c)=true then 1 else 0))%7
noncomputable def nG(k:Nat):Nat:=if Nat.ble 84 k=true then 1 else k / 7
noncomputable def li(k:Nat):Nat:=if Nat.ble 84 k=true then 40 else 12
noncomputable def codes:List Nat:=(List.range 440).map kb
noncomputable def kU(k b:Nat):List Nat->Nat->Bool
 |[],_=>true
 |c::r,a=>if Nat.beq (md c (nG k)) k=true then kU k b r b else (Nat.ble 2 a&&kU k b r (a-1))
theorem Vp:∀k:Nat,k<91->kU k (li k) codes (li k)=true:=by decide +kernel
theorem DE{k b c a:Nat}{r:List Nat}(h:kU k b (c::r) a=true):(md c (nG k)=k/\kU k b r b=true)∨(2<=a/\kU k b r (a-1)=true):=by
 have h:(if Nat.beq (md c (nG k)) k=true then kU k b r b else (Nat.ble 2 a&&kU k b r (a-1)))=true:=h;split at h
 ·rename_i q;exact .inl ⟨dM q,h⟩
 ·rw[bE] at h;exact .inr ⟨Nat.le_of_ble_eq_true h.1,h.2⟩
theorem xp(k b:Nat)(hb:1<=b):∀(n:Nat) (l:List Nat) (a:Nat),1<=a->a<=b->kU k b l a=true->∃a',1<=a'/\a'<=b/\kU k b (l.drop n) a'=true
 |0,_,a,h0,h1,h=>⟨a,h0,h1,h⟩
 |n+1,[],a,h0,h1,_=>⟨a,h0,h1,rfl⟩
 |n+1,c::r,a,h0,h1,h=>by
  show ∃a',1<=a'/\a'<=b/\kU k b (r.drop n) a'=true;rcases DE h with h | h
  ·exact xp k b hb n r b hb (aQ _) h.2
  ·exact xp k b hb n r (a-1) ⋯ ⋯ h.2
theorem D2(k b:Nat):∀(l:List Nat) (a:Nat),1<=a->a<=l.length->kU k b l a=true->∃j,j<a/\∃c,l[j]? =some c/\md c (nG k)=k
 |[],a,h0,h1,_=>absurd h1 (by simp;omega)
 |c::r,a,h0,h1,h=>by
  rcases DE h with h | h
  ·exact⟨0,⋯,c,rfl,h.1⟩
  ·have h1':a<=r.length+1:=h1;obtain⟨j,hj,c',e,q⟩:=D2 k b r (a-1) ⋯ ⋯ h.2;exact⟨j+1,⋯,c',e,q⟩
theorem O5{k:Nat}(hk:k<91){y:Nat}(hy:y<400):∃j,j<li k/\md (kb (y+j)) (nG k)=k:=by
 have hb:1<=li k/\li k<=40:=by unfold li;split<;>omega
 obtain⟨a,a0,a1,h⟩:=xp k (li k) hb.1 y codes (li k) hb.1 (aQ _) (Vp k hk);have hl:codes.length=440:=by unfold codes;rw[aR,cJ]
 obtain⟨j,hj,c,e,q⟩:=D2 k (li k) _ a a0 (by rw[dH,hl];omega) h;unfold codes at e;rw[List.getElem?_drop,bC,List.getElem?_range ⋯] at e;have e:kb (y+j)=c:=aZ e;exact⟨j,⋯,by rw[e];exact q⟩
theorem Jy:∀r:Nat,r<400->∀m:Nat,m<12->kindOf (r:Int) ((m:Int)+1)=(md (kb r) m:Nat):=by decide +kernel
theorem Xp:∀a:Nat,a<440->kb (a%400)=kb a:=by decide +kernel
theorem DW(y m q:Int):kindOf (y+400*q) m=kindOf y m:=by
 have a:ahead (y+400*q) m=ahead y m:=zj y q _;unfold kindOf jH;rw[C3,DO,a];generalize ahead y m=A;generalize db y=B;have e:(B+146097*q+A+6)%7=(B+A+6)%7:=⋯;rw[e]
theorem AY(y:Int)(j:Nat):∃q:Int,y+j=((y%400).toNat+j:Nat)+400*q:=⟨y / 400,⋯⟩
theorem yq(y:Int){j m:Nat}(hj:j<=40)(hm:m<12):kindOf (y+j) ((m:Int)+1)=(md (kb ((y%400).toNat+j)) m:Nat):=by
 have r0:(y%400).toNat<400:=⋯;obtain⟨q,e⟩:=AY y j;have ha:(y%400).toNat+j<440:=⋯;rw[e,DW];generalize (y%400).toNat+j=a at ha;have e2:(a:Int)=((a%400:Nat):Int)+400*((a / 400:Nat):Int):=⋯;rw[e2,DW,Jy _ (Nat.mod_lt _ (by decide)) m hm,Xp a ha]
noncomputable def kG(k:Int):Int:=if 83<k then 2 else k / 7+1
noncomputable def n9(k:Int):Int:=if 83<k then 40 else 12
theorem GK{k:Int}(h0:0<=k)(h1:k<=90):1<=kG k/\kG k<=12:=by unfold kG;split<;>omega
theorem MR:∀k:Nat,k<91->kG (k:Int)=(nG k:Nat)+1/\nG k<12/\n9 (k:Int)=(li k:Nat)/\li k<=40:=by decide +kernel
theorem Gv{k:Int}(h0:0<=k)(h1:k<=90)(y:Int):∃j:Nat,(j:Int)<n9 k/\kindOf (y+j) (kG k)=k/\True:=by
 obtain⟨n,rfl⟩:∃n:Nat,k=n:=⟨k.toNat,⋯⟩;obtain⟨m1,m2,m3,m4⟩:=MR n ⋯;obtain⟨j,hj,hit⟩:=O5 (k:=n) ⋯ (show (y%400).toNat<400 by omega);exact⟨j,⋯,by rw[m1,yq y ⋯ m2,hit],trivial⟩
noncomputable def gj(M:Int):Int:=db (M / 12)+ahead (M / 12) (M%12+1)
noncomputable def ju(M:Int):Int:=fK (M / 12) (M%12+1)
noncomputable def gP(M:Int):Int:=kindOf (M / 12) (M%12+1)
theorem jq(M:Int):gj (M+1)=gj M+ju M:=by
 unfold gj ju;by_cases c:M%12=11
 ·rw[show (M+1) / 12=M / 12+1 by omega,show (M+1)%12=0 by omega,c];have a1:=pS (y:=M / 12) (m:=12) (by decide);have a2:=sZ (M / 12);have a3:=nj (M / 12);have a4:ahead (M / 12+1) (0+1)=0:=rfl;have e:(12:Int)+1=13:=rfl;have e':(11:Int)+1=12:=rfl;rw[e] at a1;rw[a4,e'];omega
 ·rw[show (M+1) / 12=M / 12 by omega,show (M+1)%12=M%12+1 by omega,pS ⋯];omega
theorem En{k:Int}(h0:0<=k)(h1:k<=90)(y:Int):∃N:Int,12*y<=N/\N<12*y+480/\gP N=k:=by
 obtain⟨j,hj,hk,_⟩:=Gv h0 h1 y;have hm:=GK h0 h1;have hb:n9 k<=40:=by unfold n9;split<;>decide
 refine⟨12*(y+j)+kG k-1,⋯,⋯,?_⟩;unfold gP;rw[show (12*(y+(j:Int))+kG k-1) / 12=y+j by omega,show (12*(y+(j:Int))+kG k-1)%12+1=kG k by omega];exact hk
theorem RQ{k:Int}(h0:0<=k)(h1:k<=90)(M:Int):∃N:Int,M-491<=N/\N<=M-1/\gP N=k:=by
 obtain⟨N,a,b,c⟩:=En h0 h1 (M / 12-40);exact⟨N,⋯,⋯,c⟩
def mY(t:Int):Prop:=0<=t/\t<2^1440
noncomputable def lZ(g:Nat->Int):Nat->Int
 |0=>0
 |n+1=>Builtin.bitOr (lZ g n) (g n*2^(1440*n))
theorem vq{g:Nat->Int}:∀{n:Nat},(∀j,j<n->mY (g j))->0<=lZ g n
 |0,_=>aS 0
 |n+1,h=>mM (vq λj hj=>h j ⋯) (Int.mul_nonneg (h n ⋯).1 (bN (gS _)))
theorem Fd{g:Nat->Int}(i:Nat):∀{n:Nat},(∀j,j<n->mY (g j))->tb (lZ g n) i=(decide (i / 1440<n)&&tb (g (i / 1440)) (i%1440))
 |0,_=>by
  show tb 0 i=_;rw[gQ,fB (dB _),cZ]
 |n+1,h=>by
  have h0:∀j,j<n->mY (g j):=λj hj=>h j ⋯;have hn:=h n ⋯;show tb (Builtin.bitOr (lZ g n) (g n*2^(1440*n))) i=_;rw[pD (vq h0) (Int.mul_nonneg hn.1 (bN (gS _))),Fd i h0,pL hn.1];rcases Nat.lt_trichotomy (i / 1440) n with c | c | c
  ·rw[eY c,eY (show i / 1440<n+1 by omega),fB (show ¬1440*n<=i by omega),cZ,Bool.or_false]
  ·rw[fB (show ¬i / 1440<n by omega),eY (show i / 1440<n+1 by omega),eY (show 1440*n<=i by omega),c,show i-1440*n=i%1440 by omega];rfl
  ·rw[fB (show ¬i / 1440<n by omega),fB (show ¬i / 1440<n+1 by omega),lJ hn.2 (show 1440<=i-1440*n by omega),cM];rfl
structure Cal(S W:Int->Int):Prop where
 up:∀M,S M<S (M+1)
 nn:∀M,0<=W M
 bit:∀M i,tb (W M) i=true->(i:Int)<S (M+1)-S M
def Ev(S W:Int->Int)(t:Int):Prop:=∃M:Int,S M<=t/\t<S (M+1)/\tb (W M) (t-S M).toNat=true
variable{S W:Int->Int}
theorem Cal.le(h:Cal S W)(M:Int):∀n:Nat,S M<=S (M+n)
 |0=>by simp
 |n+1=>by
  have:=h.le M n;have:=h.up (M+n);rw[show M+((n+1:Nat):Int)=M+n+1 by omega];omega
theorem Cal.mono(h:Cal S W){M N:Int}(hl:M<=N):S M<=S N:=by
 have:=h.le M (N-M).toNat;rw[bK ⋯,show M+(N-M)=N by omega] at this;exact this
theorem Cal.uniq(h:Cal S W){M N t:Int}(h1:S M<=t)(h2:t<S (M+1))(h3:S N<=t)(h4:t<S (N+1)):M=N:=by
 rcases Int.lt_trichotomy M N with c | c | c
 ·have:=h.mono (show M+1<=N by omega);omega
 ·exact c
 ·have:=h.mono (show N+1<=M by omega);omega
theorem JZ(h:Cal S W){M mo c:Int}{l:Nat}(hc:S (M+1)-S M<=c)(hm:S M<=mo)(none:∀t,S (M+1)<=t->t<=mo->¬Ev S W t)(hl:tb (Builtin.bitAnd (W M) (2*2^(min (mo-S M) c).toNat-1)) l=true)(hj:∀j,l<j->tb (Builtin.bitAnd (W M) (2*2^(min (mo-S M) c).toNat-1)) j=false):
  Ev S W (S M+l)/\S M+l<=mo/\∀t,S M+l<t->t<=mo->¬Ev S W t:=by
 generalize e:min (mo-S M) c=p at hl hj;have up:=h.up M;have hp:0<=p/\p<=mo-S M/\p<=c/\(p=c∨p=mo-S M):=⋯;have e2:(2:Int)*2^p.toNat-1=2^(p.toNat+1)-1:=by rw[Int.pow_succ,Int.mul_comm]
 have bits:∀j,tb (Builtin.bitAnd (W M) (2*2^p.toNat-1)) j=(tb (W M) j&&decide (j<p.toNat+1)):=λj=>by
  rw[e2,kX (h.nn M) (by have:=gS (p.toNat+1);omega),tE]
 rw[bits,bE,fA] at hl;have hb:=h.bit M _ hl.1;refine⟨⟨M,⋯,⋯,?_⟩,⋯,?_⟩
 ·rw[show (S M+(l:Int)-S M).toNat=l by omega];exact hl.1
 ·intro t h1 h2 hE;rcases b9 t (S (M+1)) with d | d
  ·obtain⟨N,a1,a2,a3⟩:=hE;obtain rfl:=h.uniq (show S M<=t by omega) d a1 a2;have z:=hj (t-S M).toNat ⋯;rw[bits,a3,eY (show (t-S M).toNat<p.toNat+1 by omega)] at z;cases z
  ·exact none t d h2 hE
theorem XD(h:Cal S W){M mo c:Int}(hc:S (M+1)-S M<=c)(hm:S M<=mo)(none:∀t,S (M+1)<=t->t<=mo->¬Ev S W t)(hz:Builtin.bitAnd (W M) (2*2^(min (mo-S M) c).toNat-1)=0):∀t,S M<=t->t<=mo->¬Ev S W t:=by
 intro t h1 h2 hE;rcases b9 t (S (M+1)) with d | d
 ·obtain⟨N,a1,a2,a3⟩:=hE;obtain rfl:=h.uniq h1 d a1 a2;generalize e:min (mo-S M) c=p at hz;have hp:0<=p/\p<=mo-S M/\p<=c/\(p=c∨p=mo-S M):=⋯;have e2:(2:Int)*2^p.toNat-1=2^(p.toNat+1)-1:=by rw[Int.pow_succ,Int.mul_comm]
  have z:tb (Builtin.bitAnd (W M) (2*2^p.toNat-1)) (t-S M).toNat=true:=by
   rw[e2,kX (h.nn M) (by have:=gS (p.toNat+1);omega),tE,a3,eY (show (t-S M).toNat<p.toNat+1 by omega)];rfl
  rw[hz,gQ] at z;cases z
 ·exact none t d h2 hE
theorem N2{A:Int->Prop}(hA:∀M,A M->W M=0)(hk:∀M,∃N,A N/\W M=W N):∀t,¬Ev S W t:=by
 rintro t ⟨M,_,_,h⟩;obtain⟨N,a,e⟩:=hk M;rw[e,hA N a,gQ] at h;cases h
theorem RG{c d m:Int}(hc:0<=c)(hd:0<=d)(hm:0<=m)(h0:∀i,(tb c i&&tb d i)=false)(h1:∀i,(tb c i||tb d i)=tb m i):c+d=m:=by
 have ea:Builtin.bitAnd c d=0:=i6 (nD hc hd) (aS 0) λi=>by rw[kX hc hd,h0,gQ]
 have eo:Builtin.bitOr c d=m:=i6 (mM hc hd) hm λi=>by rw[pD hc hd,h1]
 rw[←eo,bitOr_and,ea];omega
theorem Gq{m:Int}(h:0<m):∃k,tb m k=true/\∀j,j<k->tb m j=false:=by
 have hex:∃i,tb m i=true:=by
  cases Classical.em (∃i,tb m i=true) with
  |inl z=>exact z
  |inr z=>
   have:m=0:=i6 ⋯ (aS 0) λi=>by
    rw[gQ];cases e:tb m i with
    |false=>rfl
    |true=>exact absurd ⟨i,e⟩ z
   omega
 obtain⟨i,hi⟩:=hex;have key:∀n i,i<=n->tb m i=true->∃k,tb m k=true/\∀j,j<k->tb m j=false:=by
  intro n;induction n with
  |zero=>
   intro i hi h;obtain rfl:i=0:=⋯;exact⟨0,h,λj hj=>absurd hj (dB _)⟩
  |succ n ih=>
   intro i hi h;cases Classical.em (∃j,j<i/\tb m j=true) with
   |inl z=>
    obtain⟨j,hj,hb⟩:=z;exact ih j ⋯ hb
   |inr z=>
    exact⟨i,h,λj hj=>by
     cases e:tb m j with
     |false=>rfl
     |true=>exact absurd ⟨j,hj,e⟩ z⟩
 exact key i i (aQ _) hi
theorem QL{m:Int}(h:0<m){k:Nat}(hk:tb m k=true)(hj:∀j,j<k->tb m j=false):Builtin.bitAnd m (-m)=2^k:=by
 have hm1:0<=m-1:=⋯;have e:Builtin.bitAnd m (-m)=m-Builtin.bitAnd m (m-1):=by
  rw[bitAnd_pn ⋯ ⋯,bitAnd_pp ⋯ hm1];have:Builtin.bitNot (-m)=m-1:=by unfold Builtin.bitNot;omega
  rw[this]
 obtain⟨n,rfl⟩:=cH (bN h);have hkn:n.testBit k=true:=hk;have hjn:∀j,j<k->n.testBit j=false:=hj;have em:n%2^k=0:=Nat.eq_of_testBit_eq λi=>by
  rw[Nat.testBit_mod_two_pow,Nat.zero_testBit];by_cases c:i<k
  ·rw[eY c,hjn i c];rfl
  ·rw[fB c];rfl
 have hd:n=2^k*(n / 2^k):=by
  have:=Nat.div_add_mod n (2^k);omega
 have ho:(n / 2^k).testBit 0=true:=by rw[Nat.testBit_div_two_pow,Nat.zero_add];exact hkn
 have ho:n / 2^k%2=1:=by
  rw[Nat.testBit_zero] at ho;exact eX ho
 obtain⟨q,hq⟩:∃q,n / 2^k=2*q+1:=⟨n / 2^k / 2,⋯⟩;have hp:=Nat.two_pow_pos k;have e1:n=2^(k+1)*q+2^k:=by rw[hd,hq,Nat.mul_add,Nat.mul_one,←Nat.mul_assoc,Nat.pow_succ]
 have e2:n-1=2^(k+1)*q+(2^k-1):=⋯;have hl:2^k-1<2^(k+1):=by rw[Nat.pow_succ];omega
 have hl2:2^k<2^(k+1):=by rw[Nat.pow_succ];omega
 have tb1:∀i,tb ((n:Int)-1) i=(if i<k+1 then (2^k-1).testBit i else q.testBit (i-(k+1))):=λi=>by
  unfold tb;have:((n:Int)-1).toNat=n-1:=⋯;rw[this,e2,Nat.testBit_two_pow_mul_add _ hl]
 have tbn:∀i,tb (n:Int) i=(if i<k+1 then (2^k).testBit i else q.testBit (i-(k+1))):=λi=>by
  unfold tb;rw[bQ,e1,Nat.testBit_two_pow_mul_add _ hl2]
 have hz:∀i,(tb (2^k) i&&tb (Builtin.bitAnd (n:Int) ((n:Int)-1)) i)=false:=λi=>by
  rw[sj,kX ⋯ hm1,tb1];by_cases c:k=i
  ·subst c;rw[if_pos ⋯,Nat.testBit_two_pow_sub_one];simp
  ·rw[fB c];rfl
 have hs:=RG (c:=2^k) (d:=Builtin.bitAnd (n:Int) ((n:Int)-1)) (m:=(n:Int)) (bN (gS k)) (nD ⋯ hm1) ⋯ hz (λi=>by
  rw[sj,kX ⋯ hm1,tb1,tbn];by_cases c:i<k+1
  ·rw[if_pos c,if_pos c,Nat.testBit_two_pow_sub_one,Nat.testBit_two_pow];by_cases d:k=i
   ·subst d;simp
   ·rw[fB d];simp
  ·rw[if_neg c,if_neg c,fB ⋯];cases q.testBit (i-(k+1))<;>rfl)
 omega
theorem VG(k:Nat):Builtin.Int.intBits (2^k)=k+1:=by
 unfold Builtin.Int.intBits;have h0:((2:Int)^k==0)=false:=beq_eq_false_iff_ne.mpr (Int.ne_of_gt (gS k));rw[h0];have:((2:Int)^k).natAbs=2^k:=by rw[←jJ,Int.natAbs_natCast]
 rw[this,Nat.log2_two_pow];rfl
noncomputable abbrev gX:=Int×Int×List Nat
def kZ(H:Hp)(v:V)(z:gX):Prop:=∃t:Addr,v=.ref t/\H t=some (.tup [.int z.1,.int z.2.1,.str (Tx z.2.2)])
noncomputable def jO(sts:List gX)(a b:Int)(tm:List Nat):List gX:=match sts.getLast? with
 |some s=>if s.2.2=tm then sts.dropLast++[(s.1,b,tm)] else sts++[(a,b,tm)]
 |none=>[(a,b,tm)]
theorem pV{H H':Hp}(h:∀b xs,H b=some (.tup xs)->H' b=some (.tup xs)){v:V}{s:gX}(z:kZ H v s):kZ H' v s:=by
 obtain⟨t,e,ht⟩:=z;exact⟨t,e,h _ _ ht⟩
theorem Ep(sts:List gX)(s:gX)(a b:Int)(tm:List Nat):jO (sts++[s]) a b tm=if s.2.2=tm then sts++[(s.1,b,tm)] else sts++[s]++[(a,b,tm)]:=by
 unfold jO;simp
theorem CL{α β:Type}{F:α->β->Prop}:∀{l:List α} {v:α} {r:List β},Paired F (l++[v]) r->∃r0 s,r=r0++[s]/\Paired F l r0/\F v s
 |[],v,_,.cons h .nil=>⟨[],(),.nil,h⟩
 |x::l,v,_,.cons h t=>by
  obtain⟨r0,s,rfl,h1,h2⟩:=CL t;exact⟨_::r0,s,rfl,.cons h h1,h2⟩
theorem RC{α:Type}{l:List α}(h:l≠[]):∃l0 v,l=l0++[v]:=⟨l.dropLast,l.getLast h,(List.dropLast_concat_getLast h).symm⟩
theorem Hn{l:List V}{v:V}:jb (l++[v]) (-1)=some v:=QW l v
theorem NS{l:List V}{v:V}:k9 (l++[v]).length (-1)=some l.length:=by
 unfold k9;simp;omega
theorem Im{l:List V}{v u:V}:(l++[v]).set l.length u=l++[u]:=by simp
noncomputable def gW(m3:Int)(kd kw:Ko)(k:Int):Int:=if tb m3 (iY k).toNat=true then gg kd kw (gZ k) (k%7) else 0
noncomputable def gy(tm m3:Int)(kd kw:Ko)(k:Int)(j:Nat):Int:=if tb (gW m3 kd kw k) (j+1)=true then tm else 0
noncomputable def jA(f:Int->Nat->Int)(k:Int):List Int:=(List.range (gZ k).toNat).map (f k)
theorem Bg{c:Cs}{H:Hp}{v:V}{ko:Ko}(h:DV c H v ko):∀ks,ko=some ks->∀k∈ks,k.ok:=λks e=>by
 subst e;obtain⟨_,_,_,_,_,z⟩:=h;exact z
theorem Jc{c:Cs}{H:Hp}{dv wv:V}{m3 k:Int}{kd kw:Ko}(hd:DV c H dv kd)(hw:DV c H wv kw)(h0:0<=k)(h1:k<=90):0<=gW m3 kd kw k:=by
 have ml:=(mJ h0 h1).2;unfold gW;split
 ·unfold gg;split
  ·have:(0:Int)<2^(gZ k).toNat:=gS _;omega
  ·exact mS (b:=false) ml (Bg hw) (mS (b:=false) ml (Bg hd) (aS 0))
 ·exact aS 0
theorem AD{h m:Int}(h0:0<=h)(h1:h<2^24)(hm:0<=m){r:Nat}(a:tb h (r / 60)=true)(b:tb m (r%60)=true):tb (gC h m) r=true:=by
 unfold gC;rw[jW (λz hz=>by
  obtain⟨y,_,rfl⟩:=bD.mp hz;exact Int.mul_nonneg hm (bN (gS _))),cN]
 have hlt:r / 60<24:=by
  rcases cL (r / 60) 24 with c | c
  ·exact c
  ·rw[lJ h1 c] at a;cases a
 refine⟨_,bD.mpr ⟨((r / 60:Nat):Int),?_,rfl⟩,?_⟩
 ·rw[sH h0 h1,flt_mem];exact⟨r / 60,hlt,a,⋯⟩
 ·rw[show (60*((r / 60:Nat):Int)).toNat=60*(r / 60) by omega,pL hm,eY (show 60*(r / 60)<=r by omega),show r-60*(r / 60)=r%60 by omega,b];rfl
theorem Rj{h m:Int}(h0:0<=h)(h1:h<2^24)(hm:0<=m)(hm2:m<2^60):mY (gC h m):=by
 unfold gC;rw[sH h0 h1];obtain⟨e,a,b⟩:=Gg (h:=h) hm hm2 24;rw[e];exact⟨a,b⟩
theorem AE(g:Int->Nat->Int)(k:Int):(jA g k).length=(gZ k).toNat:=by unfold jA;rw[aR,cJ]
theorem FJ{g:Int->Nat->Int}{k:Int}{j:Nat}(h:j<(gZ k).toNat):(jA g k).getD j 0=g k j:=by
 unfold jA;rw[eF,bC,List.getElem?_range h];rfl
noncomputable def wK(g:Int->Nat->Int)(k:Int):Int:=lZ (λj=>(jA g k).getD j 0) (jA g k).length
noncomputable def SM(M:Int):Int:=1440*gj M
noncomputable def WM(g:Int->Nat->Int)(M:Int):Int:=wK g (gP M)
def jS(g:Int->Nat->Int):Prop:=∀k j,mY (g k j)
theorem L9{g:Int->Nat->Int}(hg:jS g){k:Int}:∀t∈jA g k,mY t:=λt ht=>by
 obtain⟨j,_,rfl⟩:=bD.mp ht;exact hg k j
theorem DH{g:Int->Nat->Int}(hg:jS g){k:Int}(j:Nat)(hj:j<(jA g k).length):mY ((jA g k).getD j 0):=by
 rw[FJ (by rw[AE] at hj;exact hj)];exact hg k j
theorem p4(M:Int):0<=gP M/\gP M<=90:=qH ⋯ ⋯
theorem Gz(M:Int):gZ (gP M)=ju M:=(nM (y:=M / 12) (m:=M%12+1) ⋯ ⋯).2
theorem lg(M:Int):28<=ju M/\ju M<=31:=Bd ⋯ ⋯
theorem rH{g:Int->Nat->Int}(hg:jS g)(k:Int)(i:Nat):tb (wK g k) i=(decide (i / 1440<(gZ k).toNat)&&tb (g k (i / 1440)) (i%1440)):=by
 unfold wK;rw[Fd i (λj hj=>DH hg j hj),AE];by_cases c:i / 1440<(gZ k).toNat
 ·show (_&&tb ((jA g k).getD (i / 1440) 0) _)=_;rw[FJ c]
 ·rw[fB c];rfl
theorem og{g:Int->Nat->Int}(hg:jS g):Cal SM (WM g) where
 up M:=by
  unfold SM;have:=jq M;have:=lg M;omega
 nn M:=vq λj hj=>DH hg j hj
 bit M i h:=by
  unfold WM at h;rw[rH hg,bE,fA,Gz] at h;unfold SM;have:=jq M;omega
abbrev ip(g:Int->Nat->Int)(t:Int):Prop:=Ev SM (WM g) t
theorem C0{t y m k:Int}(ok:il y m k)(e:gJ y m k=t / 1440):SM (12*y+m-1)<=t/\t<SM (12*y+m-1+1)/\(t-SM (12*y+m-1)).toNat=1440*(k-1).toNat+(t%1440).toNat/\gP (12*y+m-1)=kindOf y m/\(k-1).toNat<(fK y m).toNat/\(k-1).toNat+1=k.toNat:=by
 have hm:=ok.1;have hk:=ok.2;have e1:(12*y+m-1) / 12=y:=⋯;have e2:(12*y+m-1)%12+1=m:=⋯;have ek:gP (12*y+m-1)=kindOf y m:=by unfold gP;rw[e1,e2]
 have ed:gj (12*y+m-1)=db y+ahead y m:=by unfold gj;rw[e1,e2]
 have el:ju (12*y+m-1)=fK y m:=by unfold ju;rw[e1,e2]
 have up:=jq (12*y+m-1);have e':db y+ahead y m+k-1=t / 1440:=e;rw[ed,el] at up;clear e e1 e2 hm ok;unfold SM;rw[ed,up];clear ed el up;generalize db y+ahead y m=A at *;generalize fK y m=L at *;refine⟨⋯,⋯,⋯,ek,⋯,⋯⟩
theorem Gh(t:Int)(n:Nat):(1440*n+(t%1440).toNat) / 1440=n/\(1440*n+(t%1440).toNat)%1440=(t%1440).toNat/\(t%1440).toNat / 60=(t%1440 / 60).toNat/\(t%1440).toNat%60=(t%1440%60).toNat:=⟨⋯,⋯,⋯,⋯⟩
theorem Dy{m0 m1 m3 t y m k:Int}{kd kw:Ko}(hn:0<=m0/\0<=m1/\0<=m3)(hb:m1<2^24/\m0<2^60)(hg:jS (gy (gC m1 m0) m3 kd kw))(ok:il y m k)(e:gJ y m k=t / 1440)(h:iy m0 m1 m3 kd kw (t / 1440) (t%1440) y m k=.non):ip (gy (gC m1 m0) m3 kd kw) t:=by
 unfold iy at h;split at h
 ·cases h
 split at h
 ·cases h
 split at h
 ·cases h
 split at h
 ·cases h
 rename_i c1 c2 c3 c4;have f7:=qc ok e;have mk:=nM (y:=y) ok.1.1 ok.1.2;obtain⟨a1,a2,ei,ek,a5,a6⟩:=C0 ok e;obtain⟨u1,u2,u3,u4⟩:=Gh t (k-1).toNat;refine⟨12*y+m-1,a1,a2,?_⟩;unfold WM;rw[rH hg,ei,u1,u2,ek,mk.2,eY a5];have eg:gy (gC m1 m0) m3 kd kw (kindOf y m) (k-1).toNat=gC m1 m0:=by
  unfold gy gW;rw[mk.1,mk.2,if_pos (ix c1),f7,a6,if_pos (ix c2)]
 rw[eg,AD hn.2.1 hb.1 hn.1 (by rw[u3];exact ix c3) (by rw[u4];exact ix c4)];rfl
theorem yx{h m m3:Int}{kd kw:Ko}(h0:0<=h)(h1:h<2^24)(hm:0<=m)(hm2:m<2^60):jS (gy (gC h m) m3 kd kw):=λk j=>by
 unfold gy;split
 ·exact Rj h0 h1 hm hm2
 ·exact⟨aS 0,gS _⟩
theorem HG{g:Int->Nat->Int}{M mo:Int}(hc:Cal SM (WM g))(hM:SM M<=mo)(hm:mo<SM (M+1))(h:∀t,SM (M-491)<=t->t<=mo->¬ip g t):∀t,¬ip g t:=by
 refine N2 (A:=λN=>M-491<=N/\N<=M-1) (λN hN=>?_) (λN=>?_)
 ·rcases b9 0 (WM g N) with c | c
  ·obtain⟨l,hl,_⟩:=Gq c;exfalso;have hb:=hc.bit N l hl;have h1:=hc.mono (show M-491<=N by omega);have h2:=hc.mono (show N+1<=M by omega);exact h (SM N+l) ⋯ ⋯ ⟨N,⋯,⋯,by rw[show (SM N+(l:Int)-SM N).toNat=l by omega];exact hl⟩
  ·have:=hc.nn N;omega
 ·obtain⟨N',a,b,c⟩:=RQ (p4 N).1 (p4 N).2 M;exact⟨N',⟨a,b⟩,by unfold WM;rw[c]⟩
theorem vh(M:Int):∀n:Nat,SM (M+n)<=SM M+44640*n
 |0=>by simp
 |n+1=>by
  have:=vh M n;have:=jq (M+n);have:=lg (M+n);rw[show M+((n+1:Nat):Int)=M+n+1 by omega];unfold SM at *;omega
noncomputable def kC(sts:List gX):Int:=match sts.getLast? with
 |some s=>if s.2.2=[109,105,110,117,116,101] then 1 else 0
 |none=>0
theorem Hg(sts:List gX):0<=kC sts/\kC sts<=1:=by
 unfold kC;split
 ·split<;>decide
 ·decide
theorem Rr(sts:List gX)(a b:Int)(tm:List Nat):kC (jO sts a b tm)=if tm=[109,105,110,117,116,101] then 1 else 0:=by
 unfold jO;split
 ·split
  ·unfold kC;rw[List.getLast?_concat]
  ·unfold kC;rw[List.getLast?_concat]
 ·rfl
theorem EA(sts:List gX)(a b:Int)(tm:List Nat):(jO sts a b tm).length<=sts.length+1/\(tm=[109,105,110,117,116,101]->kC sts=1->(jO sts a b tm).length=sts.length):=by
 rcases List.eq_nil_or_concat sts with rfl | ⟨l,s,rfl⟩
 ·exact⟨aQ _,λ_ h=>by cases h⟩
 ·rw[List.concat_eq_append,Ep];split
  ·refine⟨by simp,λ_ _=>by simp⟩
  ·rename_i c;refine⟨by simp,λe h=>?_⟩;exfalso;unfold kC at h;rw[List.getLast?_concat] at h;by_cases z:s.2.2=[109,105,110,117,116,101]
   ·exact c (z.trans e.symm)
   ·have h:(if s.2.2=[109,105,110,117,116,101] then (1:Int) else 0)=1:=h;rw[if_neg z] at h;cases h
theorem Tw{sts:List gX}{a b mo la be:Int}{tm:List Nat}(h:(sts.length:Int)<=2*(mo / 60-be / 60)+kC sts)(h1:mo<=la)(h2:tm≠[109,105,110,117,116,101]->(la+1)%60=0):((jO sts a b tm).length:Int)<=2*((la+1) / 60-be / 60)+kC (jO sts a b tm):=by
 have l1:=Hg sts;obtain⟨n1,n2⟩:=EA sts a b tm;rw[Rr];by_cases c:tm=[109,105,110,117,116,101]
 ·rw[if_pos c];rcases (show kC sts=0∨kC sts=1 by omega) with z | z
  ·omega
  ·have:=n2 c z;omega
 ·rw[if_neg c];have:=h2 c;omega
theorem oa{α β:Type}{F:α->β->Prop}:∀{l:List α} {r:List β},Paired F l r->l.length=r.length
 |_,_,.nil=>rfl
 |_,_,.cons _ t=>congrArg (·+1) (oa t)
theorem NY{m0 m1 m3 d r y m k:Int}{kd kw:Ko}(h:iy m0 m1 m3 kd kw d r y m k≠ .non):∃tw,iy m0 m1 m3 kd kw d r y m k=.str (Tx tw)/\(tw≠[109,105,110,117,116,101]->tw≠[104,111,117,114]->tb m3 m.toNat=true->tb (gg kd kw (fK y m) ((d-k+1+6)%7)) k.toNat=false):=by
 by_cases c1:tb m3 m.toNat=false
 ·exact⟨_,ny c1,λ_ _ z=>by rw[c1] at z;cases z⟩
 have c1:=ix c1;by_cases c2:tb (gg kd kw (fK y m) ((d-k+1+6)%7)) k.toNat=false
 ·exact⟨_,ni c1 c2,λ_ _ _=>c2⟩
 have c2:=ix c2;by_cases c3:tb m1 (r / 60).toNat=false
 ·exact⟨_,oX c1 c2 c3,λ_ z=>absurd rfl z⟩
 have c3:=ix c3;by_cases c4:tb m0 (r%60).toNat=false
 ·exact⟨_,oF c1 c2 c3 c4,λz=>absurd rfl z⟩
 exact absurd (nk c1 c2 c3 (ix c4)) h
def SameN(H H':Hp):Prop:=∀b o,(∀ps,o≠ .tbl ps)->H b=some o->H' b=some o
theorem kJ{H H':Hp}(s:Same H H'):SameN H H':=λb o _ h=>s b o h
theorem SameN.trans{H H1 H2:Hp}(a:SameN H H1)(b:SameN H1 H2):SameN H H2:=λc o n h=>b c o n (a c o n h)
theorem CW{c:Cs}{H H':Hp}(s:SameN H H'){v:V}:∀{ko:Ko},DV c H v ko->DV c H' v ko
 |none,h=>h
 |some _,⟨p,qs,e,h1,h2,h3⟩=>⟨p,qs,e,s _ _ (λ_ z=>by cases z) h1,Paired.imp' (λx k z=>by cases k<;>(obtain⟨dx,z⟩:=z;exact⟨dx,s _ _ (λ_ z=>by cases z) z⟩)) h2,h3⟩
def RowR(c:Cs)(CR:Addr)(H:Hp)(p:Addr)(m0 m1 m3:Int)(kd kw:Ko):Prop:=∃(dx:Addr) (dv wv:V),H p=some (.ins CR dx (g8 m0 m1 dv m3 wv (gC m1 m0)))/\(0<=m0/\0<=m1/\0<=m3)/\(m1<2^24/\m0<2^60)/\DV c H dv kd/\DV c H wv kw
theorem RowR.keepN{c:Cs}{CR:Addr}{H H':Hp}{p:Addr}{m0 m1 m3:Int}{kd kw:Ko}(s:SameN H H')(h:RowR c CR H p m0 m1 m3 kd kw):RowR c CR H' p m0 m1 m3 kd kw:=by
 obtain⟨dx,dv,wv,hp,hn,hb,hd,hw⟩:=h;exact⟨dx,dv,wv,s _ _ (λ_ z=>by cases z) hp,hn,hb,CW s hd,CW s hw⟩
theorem RowR.ok{c:Cs}{CR:Addr}{H:Hp}{p:Addr}{m0 m1 m3:Int}{kd kw:Ko}(h:RowR c CR H p m0 m1 m3 kd kw):jS (gy (gC m1 m0) m3 kd kw):=by
 obtain⟨dx,dv,wv,hp,hn,hb,hd,hw⟩:=h;exact yx hn.2.1 hb.1 hn.1 hb.2
def yb(P:Program)(w:World)(K:FG)(mg:Str->Option Value)(base:Heap)(n:Nat)(H:Hp)(f:Addr)(g:Int->Nat->Int):Prop:=
 FnHO H f/\∀(H1:Hp) (kd:Int) (Q:VK),Same H H1->0<=kd->kd<=90->(∀D H2,Same H1 H2->H2 D=some (.lst ((jA g kd).map V.int))->Q (.ref D) H2)->Calls P w K mg base n f [.int kd] H1 Q
theorem Vw{H H1:Hp}{f:Addr}(s:Same H H1)(h:FnHO H f):FnHO H1 f:=by
 obtain⟨oc,od,fd,sl,e⟩:=h;exact⟨oc,od,fd,sl,s _ _ e⟩
def qt(g:Int->Nat->Int)(kvs:List (gc×V)):Prop:=∀(k:Int) (v:V),iB kvs (.inl k)=some v->v=.int (wK g k)
theorem Jl{g:Int->Nat->Int}{kvs:List (gc×V)}(h:qt g kvs)(k:Int):qt g (jG kvs (.inl k) (.int (wK g k))):=λj v e=>by
 rw[Bj] at e;by_cases c:(Sum.inl j:gc)=.inl k
 ·rw[if_pos c] at e;cases c;exact (aZ e).symm
 ·rw[if_neg c] at e;exact h j v e
theorem aKX(x c:Int):(if c<x then c else x)=min x c:=by split<;>omega
theorem Q2(g:Int->Nat->Int){k:Int}(h0:0<=k)(h1:k<=90):(jA g k).length<=31:=by
 rw[AE];have:=(mJ h0 h1).2.1;omega
theorem V6{m:Int}(h:0<m):∃l:Nat,(Builtin.Int.intBits m:Int)=l+1/\tb m l=true/\∀j,l<j->tb m j=false:=by
 have h1:=EM (bN h);obtain⟨n,hn⟩:∃n,n=Builtin.Int.intBits m:=⟨()⟩;rw[←hn] at h1 ⊢;cases n with
 |zero=>exfalso;have:(2:Int)^0=1:=rfl;omega
 |succ l=>
  refine⟨l,⋯,?_,λj hj=>lJ h1 hj⟩;cases e:tb m l with
  |true=>rfl
  |false=>
   exfalso;have lt:m<2^l:=TU (bN h) λi hi=>by
    rcases Nat.lt_trichotomy i l with c | c | c
    ·exact c
    ·rw[c,e] at hi;cases hi
    ·rw[lJ h1 c] at hi;cases hi
   have:=rk (bN h) lt;omega
noncomputable def xi(x:Str):Str:=x++".<locals>."++"<lambda>"
def qG(H:Hp)(Pt:Addr)(lp:Pos)(q:Str):Prop:=H Pt=some (.tbl #[])∨∃c0,H Pt=some (.tbl #[rawInt lp.line,rawInt lp.col,.ref c0])/\H c0=some (lQ c0 q)
theorem azM(lp:Pos)(c0:Addr):codeAmong lp [rawInt lp.line,rawInt lp.col,.ref c0]=some (.ref c0):=by simp[codeAmong,rawInt]
theorem EV{H H':Hp}{Pt:Addr}{lp:Pos}{q:Str}(s:Same H H')(h:qG H Pt lp q):qG H' Pt lp q:=by
 rcases h with h | ⟨c0,h,hc⟩
 ·exact .inl (s _ _ h)
 ·exact .inr ⟨c0,s _ _ h,s _ _ hc⟩
theorem yU{HL H':Hp}{a:Addr}{x:HO}(ha:HL a=none)(s':Same (upd HL a x) H'):Same HL (gF H' a):=λb o hb=>by
 have nb:b≠a:=λz=>by rw[z,ha] at hb;cases hb
 rw[ig nb];exact s' _ _ (by rw[fH nb];exact hb)
def GB(H:Hp)(l:Addr):Prop:=∀o,(∀ps,o≠ .tbl ps)->H l≠some o
theorem Bs{H H':Hp}{l:Addr}(s:SameN H H')(h:H' l=none):GB H l:=λo n e=>by
 rw[s _ _ n e] at h;cases h
def Ti(H HL:Hp)(f:Addr)(qual:Str)(params:Arguments)(body:Expr)(scope:Scope)(a:Addr)(pm:Value)(tN:Addr)(pN:Pos)(qN:Str):Prop:=
 H f=none/\SameN H HL/\(∃c' ctv,HL f=some (iq f (oz qual params body scope "row" a pm c' ctv))/\HL c'=some (lQ c' qual))/\qG HL tN pN qN
theorem Co{H H':Hp}{bm:Addr}(s:SameN H H')(h:oQ H bm):oQ H' bm:=by
 obtain⟨ob,u,e,r⟩:=h;exact⟨ob,u,s _ _ (λ_ z=>by cases z) e,r⟩
theorem KR{H:Hp}{qual:Str}{params:Arguments}{body:Expr}{scope:Scope}{a tN bm:Addr}{pm:Value}{pN:Pos}{Q:VK}(h1:qG H tN pN qual)(hbm:oQ H bm)(h:∀f HL,Ti H HL f qual params body scope a pm tN pN qual->Q (.ref f) HL){σ:L2.St}:CN tN bm pN qual params body scope "row" a pm σ H Q:=by
 have oth:∀{b:Addr} {o:HO},H b=some o->(∀ps,o≠ .tbl ps)->b≠tN:=λhb n z=>by
  rcases h1 with e | ⟨c0,e,_⟩<;>(rw[z,e] at hb;exact n _ (aZ hb).symm)
 rcases h1 with e | ⟨c0,e,hc⟩
 ·refine⟨hbm,#[],e,True.intro,.inl ⟨rfl,λf c' ctv hf hc' hcf=>h f _ ⟨hf,λb o n hb=>?_,⟨c',ctv,fh,?_⟩,?_⟩⟩⟩
  ·rw[fH (λz=>by rw[z,hf] at hb;cases hb),fH (λz=>by rw[z,hc'] at hb;cases hb),fH (oth hb n)];exact hb
  ·rw[fH hcf,fh]
  ·refine .inr ⟨c',?_,by rw[fH hcf,fh]⟩;rw[fH (λz=>by rw[z,hf] at e;cases e),fH (λz=>by rw[z,hc'] at e;cases e),fh];rfl
 ·refine⟨hbm,_,e,(by simp[TriplesOk,rawInt]),.inr ⟨c0,azM pN c0,hc,λf ctv hf=>h f _ ⟨hf,kJ (fj hf _),⟨c0,ctv,fh,fj hf _ _ _ hc⟩,EV (fj hf _) (.inr ⟨c0,e,hc⟩)⟩⟩⟩
def m8(H:Hp)(tN bm:Addr):Prop:=qG H tN ⟨166,21,166,51⟩ (xi "last_to")/\oQ H bm
theorem AM{H H':Hp}{tN bm:Addr}(s:Same H H')(h:m8 H tN bm):m8 H' tN bm:=⟨EV s h.1,Co (kJ s) h.2⟩
theorem Oy:∀m∈oB,∀l∈hZ,∀f∈iz,jX m l f<2^(l.toNat+1):=by decide +kernel
theorem Cm:∀l∈hZ,∀f∈iz,∀d∈ka,d<=l->nw d l f<=l:=by decide +kernel
theorem qp{a n:Nat}(h:a<n):(1:Int)*2^a<2^n:=by
 have e:(2:Int)^n=2^a*2^(n-a):=by rw[←Int.pow_add,show a+(n-a)=n by omega]
 have p:=gS a;have q:(2:Int)<=2^(n-a):=by
  obtain⟨k,hk⟩:∃k,n-a=k+1:=⟨n-a-1,⋯⟩;rw[hk,Int.pow_succ];have:=gS k;omega
 rw[e,Int.one_mul];have:(2:Int)^a*1<2^a*2^(n-a):=Int.mul_lt_mul_of_pos_left ⋯ p;omega
theorem SJ{k:Mk}{l f:Int}(hk:k.ok)(h:Lf l f):k.due l f<2^(l.toNat+1):=by
 have hl:=h.1;have p:=gS (l.toNat+1);cases k with
 |num m=>
  show j7 m l<_;rw[(xc hk h.1).1];have e:=C9 (n:=l.toNat+1) 0 (xc hk h.1).2.2.1 (λd hd=>by have:=(xm m l.toNat).2.2 d hd;omega) ⋯;have e1:(2:Int)^0=1:=rfl;omega
 |lst b=>
  show (if l<=b then (0:Int) else 1*2^(l-b).toNat)<_;have hb:=hk.1;split
  ·exact p
  ·exact qp ⋯
 |nea d=>
  show (if l<d then (0:Int) else 1*2^(nw d l f).toNat)<_;split
  ·exact p
  ·have:=Cm l (iI hl.1 hl.2) f (iH h.2.1 h.2.2) d (kM hk.1 hk.2) ⋯;exact qp ⋯
 |wrk=>
  have:=Cm l (iI hl.1 hl.2) f (iH h.2.1 h.2.2) l (kM ⋯ hl.2) (aS _);exact qp ⋯
 |wkd m=>exact Oy m (pI hk.1 hk.2) l (iI hl.1 hl.2) f (iH h.2.1 h.2.2)
 |nth w m=>
  show (if l<kF w m f then (0:Int) else 1*2^(kF w m f).toNat)<_;split
  ·exact p
  ·exact qp ⋯
 |one w=>
  have:nE w l f<=l:=by
   unfold nE;have:=cG ((f+l-1)%7-w) (show (7:Int)≠0 by decide);omega
  exact qp ⋯
 |nil=>exact p
theorem FK{ko:Ko}{a l f:Int}(h:Lf l f)(o:∀ks,ko=some ks->∀k∈ks,k.ok)(ha:0<=a)(ha2:a<2^(l.toNat+1)):jc ko a l f<2^(l.toNat+1):=by
 cases ko with
 |none=>exact ha2
 |some ks=>exact IT ha (xy h (o ks rfl)) ha2 (zk λm hm=>by
   obtain⟨k,hk,rfl⟩:=bD.mp hm;exact⟨pY (o ks rfl k hk) h,SJ (o ks rfl k hk) h⟩)
theorem FU{kd kw:Ko}{l f:Int}(h:Lf l f)(od:∀ks,kd=some ks->∀k∈ks,k.ok)(ow:∀ks,kw=some ks->∀k∈ks,k.ok):gg kd kw l f<2^(l.toNat+1):=by
 have p:=gS (l.toNat+1);unfold gg;split
 ·rw[Int.pow_succ];omega
 ·exact FK h ow (mS (b:=false) h od (aS 0)) (FK h od (aS 0) p)
def jl(m0 m1 m3:Int)(kd kw:Ko)(t:Int)(v:V):Prop:=∀y m k:Int,il y m k->gJ y m k=t / 1440->iy m0 m1 m3 kd kw (t / 1440) (t%1440) y m k=v
def qz(m3:Int)(kd kw:Ko)(d:Int)(tw:List Nat):Prop:=∀y m k:Int,il y m k->gJ y m k=d->(tw=[109,111,110,116,104]/\tb m3 m.toNat=false)∨(tw=[100,97,121]/\tb m3 m.toNat=true/\tb (gg kd kw (fK y m) ((d-k+1+6)%7)) k.toNat=false)
theorem WE{m0 m1 m3 t:Int}{kd kw:Ko}{tw:List Nat}(h:qz m3 kd kw (t / 1440) tw):jl m0 m1 m3 kd kw t (.str (Tx tw)):=λy m k ok e=>by
 rcases h y m k ok e with ⟨rfl,z⟩ | ⟨rfl,z,z2⟩
 ·exact ny z
 ·exact ni z z2
theorem iU{a b:List Nat}(h:V.str (Tx a)=V.str (Tx b)):a=b:=Tx_inj.mp (by injection h)
theorem Km{m0 m1 m3 t:Int}{kd kw:Ko}{tw:List Nat}(h:jl m0 m1 m3 kd kw t (.str (Tx tw)))(n1:tw≠[109,105,110,117,116,101])(n2:tw≠[104,111,117,114]):qz m3 kd kw (t / 1440) tw:=λy m k ok e=>by
 have z:=h y m k ok e;by_cases c1:tb m3 m.toNat=false
 ·rw[ny c1] at z;exact .inl ⟨(iU z).symm,c1⟩
 have c1:=ix c1;by_cases c2:tb (gg kd kw (fK y m) ((t / 1440-k+1+6)%7)) k.toNat=false
 ·rw[ni c1 c2] at z;exact .inr ⟨(iU z).symm,c1,c2⟩
 have c2:=ix c2;by_cases c3:tb m1 (t%1440 / 60).toNat=false
 ·rw[oX c1 c2 c3] at z;exact absurd (iU z).symm n2
 have c3:=ix c3;by_cases c4:tb m0 (t%1440%60).toNat=false
 ·rw[oF c1 c2 c3 c4] at z;exact absurd (iU z).symm n1
 rw[nk c1 c2 c3 (ix c4)] at z;cases z
theorem QU{m0 m1 m3 t u:Int}{kd kw:Ko}(h:jl m0 m1 m3 kd kw t (.str (Tx [104,111,117,114])))(e1:u / 1440=t / 1440)(e2:u%1440 / 60=t%1440 / 60):jl m0 m1 m3 kd kw u (.str (Tx [104,111,117,114])):=λy m k ok e=>by
 rw[e1] at e ⊢;have z:=h y m k ok e;by_cases c1:tb m3 m.toNat=false
 ·rw[ny c1] at z;exact absurd (iU z) (by decide)
 have c1:=ix c1;by_cases c2:tb (gg kd kw (fK y m) ((t / 1440-k+1+6)%7)) k.toNat=false
 ·rw[ni c1 c2] at z;exact absurd (iU z) (by decide)
 have c2:=ix c2;by_cases c3:tb m1 (t%1440 / 60).toNat=false
 ·exact oX c1 c2 (by rw[e2];exact c3)
 have c3:=ix c3;by_cases c4:tb m0 (t%1440%60).toNat=false
 ·rw[oF c1 c2 c3 c4] at z;exact absurd (iU z) (by decide)
 rw[nk c1 c2 c3 (ix c4)] at z;cases z
theorem Qi{h m:Int}(h0:0<=h)(h1:h<2^24)(hm:0<=m)(hm2:m<2^60){r:Nat}(e:tb (gC h m) r=true):tb h (r / 60)=true/\tb m (r%60)=true:=by
 unfold gC at e;rw[jW (λz hz=>by
  obtain⟨y,_,rfl⟩:=bD.mp hz;exact Int.mul_nonneg hm (bN (gS _))),cN] at e
 obtain⟨_,hz,e⟩:=e;obtain⟨y,hy,rfl⟩:=bD.mp hz;rw[sH h0 h1,flt_mem] at hy;obtain⟨i,hi,hb,rfl⟩:=hy;rw[show (60*(0+(i:Int))).toNat=60*i by omega,pL hm,bE,fA] at e;have hlt:r-60*i<60:=by
  rcases cL (r-60*i) 60 with c | c
  ·exact c
  ·rw[lJ hm2 c] at e;cases e.2
 rw[show r / 60=i by omega,show r%60=r-60*i by omega];exact⟨hb,e.2⟩
theorem Ga{m0 m1 m3 t:Int}{kd kw:Ko}(hn:0<=m0/\0<=m1/\0<=m3)(hb:m1<2^24/\m0<2^60)(hg:jS (gy (gC m1 m0) m3 kd kw))(h:ip (gy (gC m1 m0) m3 kd kw) t):jl m0 m1 m3 kd kw t .non:=λy m k ok e=>by
 obtain⟨M,a1,a2,a3⟩:=h;have f7:=qc ok e;have mk:=nM (y:=y) ok.1.1 ok.1.2;obtain⟨b1,b2,ei,ek,_,a6⟩:=C0 ok e;obtain⟨u1,u2,u3,u4⟩:=Gh t (k-1).toNat;obtain rfl:12*y+m-1=M:=(og hg).uniq (t:=t) b1 b2 a1 a2;unfold WM at a3;rw[rH hg,ei,u1,u2,ek,bE] at a3;have a3:=a3.2;unfold gy at a3;split at a3
 ·rename_i c;unfold gW at c;rw[mk.1,mk.2,f7,a6] at c;split at c
  ·rename_i c1;obtain⟨z1,z2⟩:=Qi hn.2.1 hb.1 hn.1 hb.2 a3;exact nk c1 c (by rw[←u3];exact z1) (by rw[←u4];exact z2)
  ·rw[gQ] at c;cases c
 ·rw[gQ] at a3;cases a3
theorem EO:∀n:Nat,n<100->∀c∈num n,c<128:=by decide +kernel
theorem jw{l:List Nat}(h:l.all (λc=>decide (c<128))=true):g9 l:=λc hc=>eX (bV.mp h c hc)
theorem jP{a b:List Nat}(h1:g9 a)(h2:g9 b):g9 (a++b):=λc h=>(bP.mp h).elim (h1 c) (h2 c)
theorem C6{α β:Type}{F:α->β->Prop}:∀(j:Nat) {l:List α} {r:List β},Paired F l r->Paired F (l.drop j) (r.drop j)
 |0,_,_,h=>h
 |_+1,_,_,.nil=>.nil
 |j+1,_,_,.cons _ t=>C6 j t
theorem Cf{α β:Type}{F:α->β->Prop}:∀(j:Nat) {l:List α} {r:List β},Paired F l r->Paired F (l.take j) (r.take j)
 |0,_,_,_=>.nil
 |_+1,_,_,.nil=>.nil
 |j+1,_,_,.cons h t=>.cons h (Cf j t)
theorem Hh{ds ss:List Int}(h:Digs ds ss)(j n:Nat):Digs ((ds.drop j).take n) ((ss.drop j).take n):=Cf n (C6 j h)
theorem mU{ds ss:List Int}:∀{i:Nat} {z:Int},Digs ds ss->ss[i]? =some z->∃d,ds[i]? =some d/\0<=d/\d<z:=by
 induction ds generalizing ss with
 |nil=>intro i z h e;cases h;cases e
 |cons d ds ih=>
  intro i z h e;cases h with
  |cons r t=>
   cases i with
   |zero=>cases e;exact⟨d,rfl,r⟩
   |succ i=>exact ih t e
theorem lY{ds:List Int}{i:Nat}{d:Int}(e:ds[i]? =some d):jb (ds.map V.int) (i:Int)=some (.int d):=qv (by rw[bC,e];rfl)
theorem Et{ds:List Int}{j n:Nat}(h:j+n<=ds.length){a b:Int}(ea:a=j)(eb:b=j+n):kr (ds.map V.int) (some a) (some b)=((ds.drop j).take n).map V.int:=by
 subst ea;rw[show b=((j+n:Nat):Int) by omega];unfold kr;rw[HT.sIx_nat,HT.sIx_nat,aR,Nat.min_eq_left h,Nat.min_eq_left (show j<=ds.length by omega),←List.map_drop,←List.map_take,show j+n-j=n by omega]
theorem Ly{ds ss:List Int}(hd:Digs ds ss){j:Nat}{s0 s1 s2 s3:Int}(e:(ss.drop j).take 4=[s0,s1,s2,s3]){a b:Int}(ea:a=j)(eb:b=j+4):∃w1 w2 w3 w4:Int,kr (ds.map V.int) (some a) (some b)=[.int w1,.int w2,.int w3,.int w4]/\(0<=w2/\w2<s1):=by
 have hl:=hd.len;have h4:=congrArg List.length e;rw[dE,dH] at h4;have h4:min 4 (ss.length-j)=4:=h4;obtain⟨w1,w2,w3,w4,ew,_,k,_⟩:=Digs.four (e▸Hh hd j 4);exact⟨w1,w2,w3,w4,by rw[Et (n:=4) ⋯ ea eb,ew];rfl,k⟩
theorem CT{ds ss:List Int}(hd:Digs ds ss){j:Nat}{s0 s1 s2 s3 s4:Int}(e:(ss.drop j).take 5=[s0,s1,s2,s3,s4]){a b:Int}(ea:a=j)(eb:b=j+5):∃w1 w2 w3 w4 w5:Int,kr (ds.map V.int) (some a) (some b)=[.int w1,.int w2,.int w3,.int w4,.int w5]/\(0<=w3/\w3<s2):=by
 have hl:=hd.len;have h4:=congrArg List.length e;rw[dE,dH] at h4;have h4:min 5 (ss.length-j)=5:=h4;obtain⟨w1,w2,w3,w4,w5,ew,_,_,k,_⟩:=Digs.five (e▸Hh hd j 5);exact⟨w1,w2,w3,w4,w5,by rw[Et (n:=5) ⋯ ea eb,ew];rfl,k⟩
theorem oj{z:Int}(h0:0<=z)(h1:z<=99):z.toNat<10^500/\[V.int z]=[V.int (z.toNat:Nat)]/\(num z.toNat).length<=2/\g9 (num z.toNat):=⟨bA (show z.toNat<100 by omega) (by decide +kernel),by rw[bK h0],(oK _ ⋯).2.2.2,EO _ ⋯⟩
def oN(b:Bool)(k:Mk):Prop:=k.sp=true/\k.wk=b/\k.ok
theorem aGC(w:Int):(1+w%30).toNat<10^500/\[V.int (1+w%30)]=[V.int ((1+w%30).toNat:Nat)]/\2+(num (1+w%30).toNat).length<=sizeLine/\(Cl ([76,45]++num (1+w%30).toNat)/\lF false ([76,45]++num (1+w%30).toNat) (.lst (1+w%30)))/\oN false (.lst (1+w%30))/\g9 ([76,45]++num (1+w%30).toNat):=by
 obtain⟨a,b,c,d⟩:=oj (z:=1+w%30) ⋯ ⋯;have z:=Xb (1+w%30).toNat ⋯ ⋯;rw[bK ⋯] at z;exact⟨a,b,by rw[eT];omega,⟨z.2,z.1⟩,⟨rfl,rfl,⋯,⋯⟩,jP (jw rfl) d⟩
theorem LI{w:Int}(h0:0<=w)(h1:w<31):(1+w).toNat<10^500/\[V.int (1+w)]=[V.int ((1+w).toNat:Nat)]/\(num (1+w).toNat).length+1<=sizeLine/\(Cl (num (1+w).toNat++[87])/\lF false (num (1+w).toNat++[87]) (.nea (1+w)))/\oN false (.nea (1+w))/\g9 (num (1+w).toNat++[87]):=by
 obtain⟨a,b,c,d⟩:=oj (z:=1+w) ⋯ ⋯;have z:=aH4 (1+w).toNat ⋯ ⋯;rw[bK ⋯] at z;exact⟨a,b,by rw[eT];omega,⟨z.2,z.1⟩,⟨rfl,rfl,⋯,⋯⟩,jP d (jw rfl)⟩
theorem Os{w v:Int}(h0:0<=w)(h1:w<8):(w.toNat<10^500/\[V.int w]=[V.int (w.toNat:Nat)]/\(num w.toNat).length+1<=sizeLine)/\((1+v%5).toNat<10^500/\[V.int (1+v%5)]=[V.int ((1+v%5).toNat:Nat)]/\(num w.toNat++[35]).length+(num (1+v%5).toNat).length<=sizeLine)/\(Cl (num w.toNat++[35]++num (1+v%5).toNat)/\lF true (num w.toNat++[35]++num (1+v%5).toNat) (.nth (w%7) (1+v%5)))/\oN true (.nth (w%7) (1+v%5))/\g9 (num w.toNat++[35]++num (1+v%5).toNat):=by
 obtain⟨a,b,c,d⟩:=oj (z:=w) ⋯ ⋯;obtain⟨a',b',c',d'⟩:=oj (z:=1+v%5) ⋯ ⋯;have z:=Bu w.toNat ⋯ (1+v%5).toNat ⋯ ⋯;rw[bK ⋯,bK ⋯] at z;exact⟨⟨a,b,by rw[eT];omega⟩,⟨a',b',by rw[eT,aY];show _+1+_<=_;omega⟩,⟨z.2,z.1⟩,⟨rfl,rfl,⟨⋯,⋯⟩,⋯,⋯⟩,jP (jP d (jw rfl)) d'⟩
theorem Oh{w:Int}(h0:0<=w)(h1:w<8):w.toNat<10^500/\[V.int w]=[V.int (w.toNat:Nat)]/\(num w.toNat).length+1<=sizeLine/\(Cl (num w.toNat++[76])/\lF true (num w.toNat++[76]) (.one (w%7)))/\oN true (.one (w%7))/\g9 (num w.toNat++[76]):=by
 obtain⟨a,b,c,d⟩:=oj (z:=w) ⋯ ⋯;have z:=WD w.toNat ⋯;rw[bK ⋯] at z;exact⟨a,b,by rw[eT];omega,⟨z.2,z.1⟩,⟨rfl,rfl,⋯,⋯⟩,jP d (jw rfl)⟩
theorem Ei:FT 1 12 [50] (fu [2]):=by
 have h:FT 1 12 (gK 44 [num (2:Int).toNat]) (fu [[2]].flatten):=BN (.cons (i1 (a:=2) (by decide) (by decide) (by decide) (by decide)) .nil) (dX _ _) (by decide);have e:gK 44 [num (2:Int).toNat]=[50]:=by decide +kernel
 rw[e] at h;exact h
def ot(t:Int):Prop:=∃y m k:Int,il y m k/\gJ y m k=t / 1440
noncomputable def p6(l:List gX):Option (List Nat):=l.head?.map (·.2.2)
def jB(m0 m1 m3:Int)(kd kw:Ko):Int->List gX->Int->Prop
 |b,[],mo=>mo=b
 |b,s::r,mo=>s.1=b/\s.1<=s.2.1/\(∀t,s.1<=t->t<=s.2.1->jl m0 m1 m3 kd kw t (.str (Tx s.2.2)))/\ot s.1/\g9 s.2.2/\p6 r≠some s.2.2/\jB m0 m1 m3 kd kw (s.2.1+1) r mo
section
variable{m0 m1 m3:Int}{kd kw:Ko}
theorem EQ:∀{sts:List gX} {b mo:Int},jB m0 m1 m3 kd kw b sts mo->b<=mo
 |[],_,_,h=>by rw[show _=_ from h];exact aS _
 |s::r,b,mo,⟨h1,h2,_,_,_,_,h⟩=>by
  have:=EQ h;omega
theorem EK(s s':gX)(r:List gX)(a b:Int)(tm:List Nat):jO (s::s'::r) a b tm=s::jO (s'::r) a b tm:=by
 unfold jO;rw[List.getLast?_cons_cons];cases e:(s'::r).getLast? with
 |none=>simp at e
 |some z=>
  show (if z.2.2=tm then _ else _)=s::(if z.2.2=tm then _ else _);split<;>rfl
theorem YT(s:gX)(r:List gX)(a b:Int)(tm:List Nat):p6 (jO (s::r) a b tm)=some s.2.2:=by
 cases r with
 |nil=>
  show p6 (if s.2.2=tm then _ else _)=_;split
  ·rename_i c;show some tm=some s.2.2;rw[c]
  ·rfl
 |cons s' r=>rw[EK];rfl
theorem Ej{la:Int}{tw:List Nat}:∀{sts:List gX} {b mo:Int},jB m0 m1 m3 kd kw b sts mo->mo<=la->(∀t,mo<=t->t<=la->jl m0 m1 m3 kd kw t (.str (Tx tw)))->ot mo->g9 tw->jB m0 m1 m3 kd kw b (jO sts mo la tw) (la+1)
 |[],b,mo,h,h1,h2,h3,h4=>by
  obtain rfl:mo=b:=h;exact⟨rfl,h1,h2,h3,h4,(λz=>by cases z),rfl⟩
 |[s],b,mo,⟨a1,a2,a3,a4,a5,a6,a7⟩,h1,h2,h3,h4=>by
  have a7:mo=s.2.1+1:=a7;show jB m0 m1 m3 kd kw b (if s.2.2=tw then [(s.1,la,tw)] else [s]++[(mo,la,tw)]) (la+1);split
  ·rename_i c;refine⟨a1,by show s.1<=la;omega,λt t1 t2=>?_,a4,h4,(λz=>by cases z),rfl⟩;rcases b9 t mo with w' | w'
   ·show jl m0 m1 m3 kd kw t (.str (Tx tw));rw[←c];exact a3 t t1 ⋯
   ·exact h2 t w' t2
  ·rename_i c;exact⟨a1,a2,a3,a4,a5,(λz=>c (aZ z).symm),a7,h1,h2,h3,h4,(λz=>by cases z),rfl⟩
 |s::s'::r,b,mo,⟨a1,a2,a3,a4,a5,a6,a7⟩,h1,h2,h3,h4=>by
  rw[EK];exact⟨a1,a2,a3,a4,a5,by rw[YT];exact a6,Ej a7 h1 h2 h3 h4⟩
theorem HE{g:Int->Nat->Int}{t:Int}(h:ip g t):ot t:=by
 obtain⟨M,a1,a2,_⟩:=h;unfold SM at a1 a2;have up:=jq M;refine⟨M / 12,M%12+1,t / 1440-gj M+1,⟨⟨⋯,⋯⟩,⋯,?_⟩,?_⟩
 ·show t / 1440-gj M+1<=ju M;omega
 ·show db (M / 12)+ahead (M / 12) (M%12+1)+(t / 1440-gj M+1)-1=t / 1440;have:gj M=db (M / 12)+ahead (M / 12) (M%12+1):=rfl;omega
end
theorem sS:g9 [109,111,110,116,104]/\g9 [100,97,121]/\g9 [104,111,117,114]/\g9 [109,105,110,117,116,101]:=⟨jw rfl,jw rfl,jw rfl,jw rfl⟩
theorem JT{m0 m1 m3 d r y m k:Int}{kd kw:Ko}{tw:List Nat}(h:iy m0 m1 m3 kd kw d r y m k=.str (Tx tw)):g9 tw:=by
 unfold iy at h;split at h
 ·rw[←iU h];exact sS.1
 split at h
 ·rw[←iU h];exact sS.2.1
 split at h
 ·rw[←iU h];exact sS.2.2.1
 split at h
 ·rw[←iU h];exact sS.2.2.2
 ·cases h
theorem yX{α β:Type}{F:α->β->Prop}:∀{l:List α} {r:List β},Paired F l r->∀{i:Nat} {a:α},l[i]? =some a->∃b,r[i]? =some b/\F a b
 |_,_,.nil,_,_,h=>nomatch h
 |_,_,.cons r _,0,_,h=>by cases h;exact⟨(),r⟩
 |_,_,.cons _ t,i+1,_,h=>yX t h
theorem Np{K:FG}{H H':Hp}{a:Addr}{xs:List V}(e:SameN H H')(h:SqL K H a xs):SqL K H' a xs:=by
 rcases h with (h | ⟨o,h⟩) | h
 ·exact .inl (.inl (e _ _ (λ_ z=>by cases z) h))
 ·exact .inl (.inr ⟨o,e _ _ (λ_ z=>by cases z) h⟩)
 ·exact .inr h
theorem Hs:∀l∈hZ,∀d∈ka,d<=l->tb (2*2^l.toNat-2) d.toNat=true:=by decide +kernel
theorem JI:∀l∈hZ,∀b∈0::ka,∀d∈ka,d<=l->tb (l8 b l) d.toNat=decide (d=l-b):=by decide +kernel
theorem Za:∀l∈hZ,∀f∈iz,∀x∈ka,∀d∈ka,d<=l->tb (lR x l f) d.toNat=(decide (x<=l)&&decide (d=nw x l f)):=by decide +kernel
theorem Ph:∀l∈hZ,∀f∈iz,∀w∈iz,∀m∈rf,∀d∈ka,d<=l->tb (jY w m l f) d.toNat=(decide ((f+d-1)%7=w)&&decide ((d-1) / 7=m-1)):=by decide +kernel
theorem Rk:∀l∈hZ,∀f∈iz,∀w∈iz,∀d∈ka,d<=l->tb (zo w l f) d.toNat=(decide ((f+d-1)%7=w)&&decide (l<d+7)):=by decide +kernel
noncomputable def lT(l f x:Int):Bool:=decide (1<=x)&&decide (x<=l)&&(decide (1<=(f+x-1)%7)&&decide ((f+x-1)%7<=5))
noncomputable def k7(l f:Int):List Int->Int
 |[]=>0
 |x::r=>if lT l f x=true then x else k7 l f r
theorem RY:∀l∈hZ,∀f∈iz,∀d∈ka,d<=l->k7 l f [d-0,d+0,d-1,d+1,d-2,d+2]=nw d l f:=by decide +kernel
def Dl(d l:Int):Prop:=1<=d/\d<=l
theorem Rx{m l f d:Int}(h:0<=m)(hl:Lf l f)(hd:Dl d l):tb (Mk.due (.num m) l f) d.toNat=tb m d.toNat:=by
 show tb (Builtin.bitAnd m (2*2^l.toNat-2)) d.toNat=_;have h1:=hl.1;have h2:=hd.1;have h3:=hd.2;rw[kX h (by have:=gS l.toNat;omega),Hs l (iI h1.1 h1.2) d (kM h2 ⋯) h3,Bool.and_true]
theorem Jh{b l f d:Int}(h:0<=b/\b<=30)(hl:Lf l f)(hd:Dl d l):tb (Mk.due (.lst b) l f) d.toNat=decide (d=l-b):=
 JI l (iI hl.1.1 hl.1.2) b (zE h.1 h.2) d (kM hd.1 (bO hd.2 hl.1.2)) hd.2
theorem Dq{x l f d:Int}(h:1<=x/\x<=31)(hl:Lf l f)(hd:Dl d l):tb (Mk.due (.nea x) l f) d.toNat=(decide (x<=l)&&decide (d=nw x l f)):=
 Za l (iI hl.1.1 hl.1.2) f (iH hl.2.1 hl.2.2) x (kM h.1 h.2) d (kM hd.1 (bO hd.2 hl.1.2)) hd.2
theorem IF{w m l f d:Int}(hw:0<=w/\w<=6)(hm:1<=m/\m<=5)(hl:Lf l f)(hd:Dl d l):tb (Mk.due (.nth w m) l f) d.toNat=(decide ((f+d-1)%7=w)&&decide ((d-1) / 7=m-1)):=
 Ph l (iI hl.1.1 hl.1.2) f (iH hl.2.1 hl.2.2) w (iH hw.1 hw.2) m (wR hm.1 hm.2) d (kM hd.1 (bO hd.2 hl.1.2)) hd.2
theorem Lm{w l f d:Int}(hw:0<=w/\w<=6)(hl:Lf l f)(hd:Dl d l):tb (Mk.due (.one w) l f) d.toNat=(decide ((f+d-1)%7=w)&&decide (l<d+7)):=
 Rk l (iI hl.1.1 hl.1.2) f (iH hl.2.1 hl.2.2) w (iH hw.1 hw.2) d (kM hd.1 (bO hd.2 hl.1.2)) hd.2
theorem Ol{d l f:Int}(hl:Lf l f)(hd:Dl d l):k7 l f [d-0,d+0,d-1,d+1,d-2,d+2]=nw d l f:=RY l (iI hl.1.1 hl.1.2) f (iH hl.2.1 hl.2.2) d (kM hd.1 (bO hd.2 hl.1.2)) hd.2
def MkD(H:Hp)(v:V)(k:Mk):Prop:=∃(u:Addr) (x y:V) (tw:List Nat),v=.ref u/\H u=some (.tup [.str (Tx tw),x,y])/\match k with
 |.num m=>tw=[110,117,109]/\∃(a:Addr) (ns:List Int),x=.ref a/\H a=some (.lst (ns.map V.int))/\m=fu ns/\∀n∈ns,1<=n/\n<=31
 |.lst b=>tw=[108,97,115,116]/\x=.int b
 |.nea d=>tw=[110,101,97,114]/\x=.int d
 |.nth w m=>tw=[110,116,104]/\x=.int w/\y=.int m
 |.wrk=>tw=[119,111,114,107]
 |.wkd m=>tw=[119,101,101,107]/\∃(a:Addr) (ns:List Int),x=.ref a/\H a=some (.lst (ns.map V.int))/\m=fu ns/\∀n∈ns,0<=n/\n<=6
 |.one w=>tw=[101,110,100,105,110,103]/\x=.int w
 |.nil=>False
theorem MkD.keep{H H':Hp}(s:Same H H'){v:V}{k:Mk}(h:MkD H v k):MkD H' v k:=by
 obtain⟨u,x,y,tw,e,hu,h⟩:=h;refine⟨u,x,y,tw,e,s _ _ hu,?_⟩;cases k with
 |num m=>obtain⟨e,a,ns,e2,ha,r⟩:=h;exact⟨e,a,ns,e2,s _ _ ha,r⟩
 |lst b=>exact h
 |nea d=>exact h
 |nth w m=>exact h
 |wkd m=>obtain⟨e,a,ns,e2,ha,r⟩:=h;exact⟨e,a,ns,e2,s _ _ ha,r⟩
 |_=>exact h
def MV(H:Hp)(v:V)(ko:Ko):Prop:=(ko=none/\v=.non)∨∃(a:Addr) (us:List V) (ks:List Mk),ko=some ks/\v=.ref a/\H a=some (.lst us)/\Paired (MkD H) us ks/\∀k∈ks,k.ok
theorem MV.keep{H H':Hp}(s:Same H H'){v:V}{ko:Ko}(h:MV H v ko):MV H' v ko:=by
 rcases h with h | ⟨a,us,ks,e,e2,ha,hP,ok⟩
 ·exact .inl h
 ·exact .inr ⟨a,us,ks,e,e2,s _ _ ha,Paired.mapP hP (λ_ _ z=>z.keep s),ok⟩
theorem JP{ks:List Mk}{l f:Int}(hl:Lf l f)(o:∀k∈ks,k.ok)(i:Nat):tb (i8 ks l f) i=ks.any (λk=>tb (k.due l f) i):=by
 unfold i8;rw[jW (λz hz=>by
  obtain⟨k,hk,rfl⟩:=bD.mp hz;exact pY (o k hk) hl),List.any_map]
 rfl
theorem NC{d:Int}{i j:Nat}{x:V}(hi3:i<3)(hx:[V.int (d-(0+(i:Int))),V.int (d+(0+(i:Int)))][j]? =some x):∃z:Int,x=.int z/\[d-0,d+0,d-1,d+1,d-2,d+2].drop (2*i+j)=z::[d-0,d+0,d-1,d+1,d-2,d+2].drop (2*i+(j+1)):=by
 have hj:j<2:=by
  rcases cL j 2 with w' | w'
  ·exact w'
  ·rw[eC (by exact w')] at hx;cases hx
 match i,j,hi3,hj,hx with
 |0,0,_,_,hx=>cases hx;exact⟨(),rfl⟩
 |0,1,_,_,hx=>cases hx;exact⟨(),rfl⟩
 |1,0,_,_,hx=>cases hx;exact⟨(),rfl⟩
 |1,1,_,_,hx=>cases hx;exact⟨(),rfl⟩
 |2,0,_,_,hx=>cases hx;exact⟨(),rfl⟩
 |2,1,_,_,hx=>cases hx;exact⟨(),rfl⟩
theorem mF(a b:Int):decide (V.int a=V.int b)=decide (a=b):=decide_eq_decide.mpr int_eq
theorem rA{α:Type}{p q:α->Bool}:∀{l:List α},(∀x∈l,p x=q x)->l.any p=l.any q
 |[],_=>rfl
 |x::r,h=>by rw[bR,bR,h x bF,rA λy hy=>h y (bG _ hy)]
noncomputable def kI(ko:Ko)(l f:Int)(i:Nat):Bool:=match ko with
 |none=>false
 |some ks=>ks.any λk=>tb (k.due l f) i
theorem oZ{ko:Ko}{a l f:Int}(hl:Lf l f)(o:∀ks,ko=some ks->∀k∈ks,k.ok)(ha:0<=a)(i:Nat):tb (jc ko a l f) i=(tb a i||kI ko l f i):=by
 cases ko with
 |none=>show tb a i=(tb a i||false);rw[Bool.or_false]
 |some ks=>
  show tb (Builtin.bitOr a (i8 ks l f)) i=_;rw[pD ha (xy hl (o ks rfl)),JP hl (o ks rfl)];rfl
theorem La{kd kw:Ko}{d l f:Int}(hl:Lf l f)(hd:Dl d l)(od:∀ks,kd=some ks->∀k∈ks,k.ok)(ow:∀ks,kw=some ks->∀k∈ks,k.ok):tb (gg kd kw l f) d.toNat=((kd.isNone&&kw.isNone)||(kI kd l f d.toNat||kI kw l f d.toNat)):=by
 unfold gg;split
 ·rename_i c;rw[Hs l (iI hl.1.1 hl.1.2) d (kM hd.1 (bO hd.2 hl.1.2)) hd.2,c.1,c.2];rfl
 ·rename_i c;have e:(kd.isNone&&kw.isNone)=false:=by
   cases h1:kd.isNone
   ·rfl
   ·cases h2:kw.isNone
    ·rfl
    ·exact absurd ⟨h1,h2⟩ c
  rw[e,dG,oZ hl ow (mS (b:=false) hl od (aS 0)),oZ hl od (aS 0),gQ,dG]
theorem MV.ok{H:Hp}{v:V}{ko:Ko}(h:MV H v ko):∀ks,ko=some ks->∀k∈ks,k.ok:=λks e=>by
 rcases h with ⟨z,_⟩ | ⟨_,_,ks',e',_,_,_,o⟩
 ·rw[z] at e;cases e
 ·rw[e'] at e;cases e;exact o
theorem aGM{l f d:Int}(hl:Lf l f)(hd:Dl d l):tb (Mk.due .wrk l f) d.toNat=decide (d=nw l l f):=by
 have z:=Dq (x:=l) (by have:=hl.1;omega) hl hd;have e:Mk.due (.nea l) l f=Mk.due .wrk l f:=if_neg ⋯;rw[e,eY (aS l),cY] at z;exact z
theorem Vx{l f d:Int}{ns:List Int}(ok:0<=fu ns/\fu ns<=127)(hns:∀n∈ns,0<=n/\n<=6)(hl:Lf l f)(hd:Dl d l):tb (Mk.due (.wkd (fu ns)) l f) d.toNat=kS (.int ((f+d-1)%7)) (ns.map V.int):=by
 show tb (jX (fu ns) l f) d.toNat=_;have h1:=hd.1;have h2:=hd.2;rw[si ok.1 ok.2 hl,eY (show 1<=d.toNat by omega),eY (show (d.toNat:Int)<=l by omega),show (d.toNat:Int)=d by omega,jE,sI];show (_:Bool)=_;exact rA λn hn=>decide_eq_decide.mpr (by have:=hns n hn;have:=cG (f+d-1) (show (7:Int)≠0 by decide);omega)
theorem T7{ns:List Int}(hns:∀n∈ns,0<=n/\n<=7):ik (fu ns)=fu (ns.map λd=>d%7):=by
 refine i6 (mr (jK _) 0).1 (jK _) λi=>?_;rw[(mr (jK ns) i).2,jE,jE,jE,List.any_map,c8];simp only[bE,cW,cN,fA,Function.comp];constructor
 ·rintro⟨⟨n,hn,e⟩ | ⟨n,hn,e⟩,h7⟩
  ·exact⟨n,hn,by have:=hns n hn;omega⟩
  ·exact⟨n,hn,by have:=hns n hn;omega⟩
 ·rintro⟨n,hn,e⟩;have:=hns n hn;refine⟨?_,⋯⟩;by_cases c:n=7
  ·exact .inr ⟨n,hn,⋯⟩
  ·exact .inl ⟨n,hn,⋯⟩
noncomputable def rQ(l f:Int):List Int:=[l-2,l-1,l].filter λk=>decide (1<=(f+k-1)%7)&&decide ((f+k-1)%7<=5)
theorem V1:∀l∈hZ,∀f∈iz,0<(rQ l f).length/\∀M∈rQ l f,(∀a∈rQ l f,a<=M)->M=nw l l f:=by decide +kernel
def LS(H:Hp)(s:Addr)(ns0 ns1 ns3:List Int)(kd kw:Ko):Prop:=∃(x0 v3 v5:V) (a0 a1 a3:Addr),H s=some (.tup [x0,.ref a0,.ref a1,v3,.ref a3,v5])/\H a0=some (.lst (ns0.map V.int))/\H a1=some (.lst (ns1.map V.int))/\H a3=some (.lst (ns3.map V.int))/\MV H v3 kd/\MV H v5 kw/\(∀n∈ns0,0<=n/\n<=59)/\(∀n∈ns1,0<=n/\n<=23)/\∀n∈ns3,1<=n/\n<=12
theorem LS.keep{H H':Hp}{s:Addr}{ns0 ns1 ns3:List Int}{kd kw:Ko}(e:Same H H')(h:LS H s ns0 ns1 ns3 kd kw):LS H' s ns0 ns1 ns3 kd kw:=by
 obtain⟨x0,v3,v5,a0,a1,a3,h1,h2,h3,h4,h5,h6,h7⟩:=h;exact⟨x0,v3,v5,a0,a1,a3,e _ _ h1,e _ _ h2,e _ _ h3,e _ _ h4,h5.keep e,h6.keep e,h7⟩
theorem LS.all{H:Hp}{s:Addr}{ns0 ns1 ns3:List Int}{kd kw:Ko}(h:LS H s ns0 ns1 ns3 kd kw):((∀ks,kd=some ks->∀k∈ks,k.ok)/\∀ks,kw=some ks->∀k∈ks,k.ok)/\(∀n∈ns0,0<=n/\n<=59)/\(∀n∈ns1,0<=n/\n<=23)/\∀n∈ns3,1<=n/\n<=12:=by
 obtain⟨_,_,_,_,_,_,_,_,_,_,h5,h6,h7⟩:=h;exact⟨⟨h5.ok,h6.ok⟩,h7⟩
theorem oA{ns:List Int}{z:Int}(h:∀n∈ns,0<=n)(hz:0<=z):kS (.int z) (ns.map V.int)=tb (fu ns) z.toNat:=by
 rw[sI,jE];exact rA λn hn=>decide_eq_decide.mpr (by have:=h n hn;omega)
theorem nO(ns:List Int):(ns.map V.int).all kY=true:=bV.mpr λx hx=>by obtain⟨n,_,rfl⟩:=bD.mp hx;rfl
noncomputable def wN:V->V
 |.non=>.str (Tx [110,111,110,101])
 |v=>v
theorem rK{b:Bool}{ws:List (List Nat)}{ks:List Mk}(h:Ws b ws ks)(hne:ws≠[])(hn:ws.length<=20)(ho:∀k∈ks,k.sp=true/\k.wk=b/\k.ok)(n:gK 44 ws≠[42]):DT b (gK 44 ws) (some ks):=by
 have w:=Hl h hne hn;exact⟨⟨uU (by decide) λx hx=>(h.cl x hx).1.2,CA hne (λx hx=>(h.cl x hx).2.1) 44⟩,w.2,n,ho,MJ h w.1⟩
theorem O9{H:Hp}{a:Addr}{o:HO}:gF (upd H a o) a=gF H a:=funext λb=>by
 by_cases c:b=a
 ·subst c;rw[km,km]
 ·rw[ig c,ig c,fH c]
theorem D8{H H':Hp}{a:Addr}(s:Same H H'):Same (gF H a) (gF H' a):=λb o e=>by
 obtain⟨n,e⟩:=sU e;rw[ig n];exact s _ _ e
theorem era_sub{H:Hp}{a:Addr}:Same (gF H a) H:=λ_ _ e=>(sU e).2
theorem Kw{d:Int}(h0:0<=d)(h1:d<8):DT true (num d.toNat++[35,53]) (some [.nth (d%7) 5]):=by
 have z:=Bu d.toNat ⋯ 5 (by decide) (by decide);have e:num d.toNat++[35]++num 5=num d.toNat++[35,53]:=by rw[d7];rfl
 rw[e,bK h0] at z;exact rK (ws:=[num d.toNat++[35,53]]) (ks:=[.nth (d%7) 5]) (.cons ⟨z.2,z.1⟩ .nil) (dX _ _) (by show 1<=20;decide) (λk hk=>by rw[bJ.mp hk];exact⟨rfl,rfl,⟨⋯,⋯⟩,by decide,by decide⟩) (λy=>by
  have:=congrArg (λl:List Nat=>l.getLast?) y;change (num d.toNat++[35,53]).getLast? =_ at this;rw[List.getLast?_append] at this;cases this)
noncomputable def kf(H:Hp)(T S:Addr):Hp:=gF (gF H T) S
theorem BY{H H':Hp}{T S:Addr}(s:Same H H'):Same (kf H T S) (kf H' T S):=D8 (D8 s)
theorem B0{H:Hp}{T S:Addr}:Same (kf H T S) H:=era_sub.trans era_sub
theorem D9{H:Hp}{T S:Addr}{o:HO}:kf (upd H T o) T S=kf H T S:=by unfold kf;rw[O9]
theorem CH{H:Hp}{T S:Addr}{o:HO}:kf (upd H S o) T S=kf H T S:=funext λb=>by
 unfold kf;by_cases c:b=S
 ·subst c;rw[km,km]
 ·rw[ig c,ig c];by_cases c':b=T
  ·subst c';rw[km,km]
  ·rw[ig c',ig c',fH c]
theorem lH{H:Hp}{T S b:Addr}{o:HO}(h1:b≠T)(h2:b≠S)(h:H b=some o):kf H T S b=some o:=by
 unfold kf;rw[ig h2,ig h1];exact h
theorem jh{H:Hp}{a b:Addr}{o:HO}(h:H b=some o)(n:H a=none):a≠b:=λe=>by rw[e,h] at n;cases n
theorem EH{H:Hp}{a b:Addr}{ns:List Int}{xs:List V}(h:H a=some (.lst (ns.map V.int)))(hn:ns≠[])(h':H b=some (.lst xs))(n:∀i:Int,V.int i∉xs):a≠b:=λe=>by
 rw[e,h'] at h;cases ns with
 |nil=>exact hn rfl
 |cons x r=>
  have e:xs=V.int x::r.map V.int:=by injection (aZ h)
  exact n x (by rw[e];exact bF)
theorem YO(ws:List (List Nat))(i:Int):V.int i∉ws.map λx=>V.str (Tx x):=λh=>by obtain⟨_,_,e⟩:=bD.mp h;cases e
theorem K3(us:List Addr)(i:Int):V.int i∉us.map V.ref:=λh=>by obtain⟨_,_,e⟩:=bD.mp h;cases e
def mT(b:Bool)(c:Int)(bm:Bool)(p T S:Addr)(i:Nat)(w1 w2 w3 w4 w5:Int)(u0:Addr)(H2:Hp)(σ':L2.St)(H':Hp):Prop:=∃(tw':List Nat) (k':Mk) (mk:Addr),σ'=[some (.int c),some (.bl bm),some (.ref p),some (.ref T),some (.ref S),some (.int (0+(i:Int))),some (.int w1),some (.int w2),some (.int w3),some (.int w4),some (.int w5),some (.str (Tx tw')),some (.ref u0),some (.ref mk)]/\Same H2 H'/\(Cl tw'/\lF b tw' k')/\oN b k'/\g9 tw'/\MkD (kf H' T S) (.ref mk) k'
def DP(b:Bool)(c:Int)(bm:Bool)(p T S:Addr)(H3:Hp)(i:Nat)(σ:L2.St)(H2:Hp):Prop:=∃(v5 v6 v7 v8 v9 v10 v11 v12 v13:Option V) (ws:List (List Nat)) (us:List Addr) (ks:List Mk),σ=[some (.int c),some (.bl bm),some (.ref p),some (.ref T),some (.ref S),v5,v6,v7,v8,v9,v10,v11,v12,v13]/\Same H3 H2/\H2 T=some (.lst (ws.map λx=>V.str (Tx x)))/\H2 S=some (.lst (us.map V.ref))/\Ws b ws ks/\(∀k∈ks,oN b k)/\(∀w∈ws,g9 w)/\ws.length=i/\us.length=i/\Paired (MkD (kf H2 T S)) (us.map V.ref) ks
theorem EL{b:Bool}{ws:List (List Nat)}{ks:List Mk}(h:Ws b ws ks)(e:gK 44 ws=[42]):ws=[[42]]:=by
 match ws,h,e with
 |[],_,e=>cases e
 |[x],_,e=>rw[show x=[42] from e]
 |x::y::r,_,e=>
  have m:44∈gK 44 (x::y::r):=cD x bF;rw[e] at m;exact absurd m (by decide)
theorem Pi:DT false [50,57] (some [.num (fu [29])]):=by
 have it:=i1 (lo:=1) (hi:=31) (a:=29) (by decide) (by decide) (by decide) (by decide);have hp:=xM (ns:=[29]) (dX _ _) (λn hn=>by rw[bJ.mp hn];decide);have h:=rK (ws:=[num (29:Int).toNat]) (ks:=[.num (fu [29])]) (.cons ⟨it.2.1,rfl,it.1,hp⟩ .nil) (dX _ _) (by decide) (λk hk=>by rw[bJ.mp hk];exact⟨rfl,rfl,bN hp⟩) (by decide +kernel);have e:gK 44 [num (29:Int).toNat]=[50,57]:=by decide +kernel
 rw[e] at h;exact h
theorem AZ:∀l∈hZ,(2*2^l.toNat-2:Int)<2^32:=by decide +kernel
theorem Rb:∀l∈hZ,∀l'∈hZ,l<=l'->∀i:Nat,tb (2*2^l.toNat-2) i=true->tb (2*2^l'.toNat-2) i=true:=by
 intro l hl l' hl' hle i hi;have hi32:i<32:=by
  rcases cL i 32 with c | c
  ·exact c
  ·rw[lJ (AZ l hl) c] at hi;cases hi
 have key:∀l∈hZ,∀l'∈hZ,l<=l'->∀i:Nat,i<32->tb (2*2^l.toNat-2) i=true->tb (2*2^l'.toNat-2) i=true:=by decide +kernel
 exact key l hl l' hl' hle i hi32 hi
theorem LY:∀m∈oB,m≠0->∀l∈hZ,∀f∈iz,jX m l f≠0:=by decide +kernel
theorem ZD:∀l∈hZ,∀f∈iz,jX 0 l f=0:=by decide +kernel
theorem J3:∀w∈iz,∀n∈rf,∀l∈hZ,∀l'∈([30,31]:List Int),l<=l'->∀f∈iz,jY w n l f≠0->∃a∈iz,jY w n l' a≠0/\jY w n l' ((a+1)%7)≠0/\(l'=31->jY w n l' ((a+2)%7)≠0):=by decide +kernel
theorem sJ(n:Nat):(1:Int)*2^n≠0:=by
 have:=gS n;omega
theorem Iq{k:Mk}{l l' f:Int}(hk:k.ok)(h:Lf l f)(hl':30<=l'/\l'<=31)(hle:l<=l')(hne:k.due l f≠0):∃a:Int,(0<=a/\a<=6)/\k.due l' a≠0/\k.due l' ((a+1)%7)≠0/\(l'=31->k.due l' ((a+2)%7)≠0):=by
 have h1:=h.1;have two:(∀f':Int,0<=f'->f'<=6->k.due l' f'≠0)->∃a:Int,(0<=a/\a<=6)/\k.due l' a≠0/\k.due l' ((a+1)%7)≠0/\(l'=31->k.due l' ((a+2)%7)≠0):=λz=>⟨0,by decide,z 0 (by decide) (by decide),z _ (by decide) (by decide),λ_=>z _ (by decide) (by decide)⟩;have i':l'∈hZ:=iI ⋯ hl'.2;cases k with
 |num m=>
  refine two λf' _ _=>?_;intro z;have hn:j7 m l≠0:=hne;have z:j7 m l'=0:=z;have nn:∀x:Int,0<=(2:Int)*2^x.toNat-2:=λx=>by have:=gS x.toNat;omega
  refine hn (i6 (nD hk (nn l)) (aS 0) λi=>?_);rw[gQ];have e:=congrArg (λx=>tb x i) z;simp only[gQ] at e;unfold j7 at e ⊢;rw[kX hk (nn _)] at e ⊢;cases c:tb (2*2^l.toNat-2) i
  ·exact cM _
  ·have:=Rb l (iI h1.1 h1.2) l' i' hle i c;rw[this] at e;rw[←e]
 |lst b=>
  refine two λf' _ _=>?_;show (if l'<=b then (0:Int) else 1*2^(l'-b).toNat)≠0;have hn:(if l<=b then (0:Int) else 1*2^(l-b).toNat)≠0:=hne;split at hn
  ·exact absurd rfl hn
  ·rw[if_neg ⋯];exact sJ _
 |nea d=>
  refine two λf' _ _=>?_;show (if l'<d then (0:Int) else 1*2^(nw d l' f').toNat)≠0;have hn:(if l<d then (0:Int) else 1*2^(nw d l f).toNat)≠0:=hne;split at hn
  ·exact absurd rfl hn
  ·rw[if_neg ⋯];exact sJ _
 |wrk=>exact two λ_ _ _=>sJ _
 |wkd m=>
  have hm:m≠0:=λz=>hne (by rw[z];exact ZD l (iI h1.1 h1.2) f (iH h.2.1 h.2.2));exact two λf' a b=>LY m (pI hk.1 hk.2) hm l' i' f' (iH a b)
 |nth w n=>
  obtain⟨a,ha,z⟩:=J3 w (iH hk.1.1 hk.1.2) n (wR hk.2.1 hk.2.2) l (iI h1.1 h1.2) l' (by
   have:l'=30∨l'=31:=⋯;rcases this with rfl | rfl<;>decide) hle f (iH h.2.1 h.2.2) hne
  refine⟨a,?_,z⟩;simp only[iz,aX,cF,or_false] at ha;omega
 |one w=>exact two λ_ _ _=>sJ _
 |nil=>exact absurd rfl hne
theorem BH{kd kw:Ko}{l l' f:Int}(od:∀ks,kd=some ks->∀k∈ks,k.ok)(ow:∀ks,kw=some ks->∀k∈ks,k.ok)(h:Lf l f)(hl':30<=l'/\l'<=31)(hle:l<=l')(hne:gg kd kw l f≠0):∃a:Int,(0<=a/\a<=6)/\gg kd kw l' a≠0/\gg kd kw l' ((a+1)%7)≠0/\(l'=31->gg kd kw l' ((a+2)%7)≠0):=by
 by_cases c:kd.isNone=true/\kw.isNone=true
 ·have e:∀x,gg kd kw l' x≠0:=λx=>by
   unfold gg;rw[if_pos c];have:=gS l'.toNat;have e2:(2:Int)^l'.toNat=2^(l'.toNat-1)*2:=by rw[←Int.pow_succ,show (l'.toNat-1).succ=l'.toNat by omega]
   have:=gS (l'.toNat-1);omega
  exact⟨0,by decide,e _,e _,λ_=>e _⟩
 ·have bit:∀{a b:Int} (i:Nat),Lf a b->tb (gg kd kw a b) i=(kI kd a b i||kI kw a b i):=λ{a b} i hab=>by
   unfold gg;rw[if_neg c,oZ hab ow (mS (b:=false) hab od (aS 0)),oZ hab od (aS 0),gQ,dG]
  obtain⟨i,hi⟩:∃i,tb (gg kd kw l f) i=true:=Classical.byContradiction λn=>hne (i6 (sW h od ow) (aS 0) λi=>by
   rw[gQ];cases z:tb (gg kd kw l f) i
   ·rfl
   ·exact absurd ⟨i,z⟩ n)
  rw[bit i h,cW] at hi;have one:∀{ko:Ko},(∀ks,ko=some ks->∀k∈ks,k.ok)->kI ko l f i=true->(∀{a b:Int} (j:Nat),kI ko a b j=true->(kI kd a b j||kI kw a b j)=true)->∃a:Int,(0<=a/\a<=6)/\gg kd kw l' a≠0/\gg kd kw l' ((a+1)%7)≠0/\(l'=31->gg kd kw l' ((a+2)%7)≠0):=λ{ko} oo ho up=>by
   cases ko with
   |none=>cases ho
   |some ks=>
    obtain⟨k,hk,hb⟩:=cN.mp ho;have ok:=oo ks rfl k hk;obtain⟨a,ha,z1,z2,z3⟩:=Iq ok h hl' hle (λz=>by rw[z,gQ] at hb;cases hb);have fZ:∀x:Int,0<=x->x<=6->k.due l' x≠0->gg kd kw l' x≠0:=λx x0 x1 hx hz=>by
     have lf:Lf l' x:=⟨⟨⋯,hl'.2⟩,x0,x1⟩;obtain⟨j,hj⟩:∃j,tb (k.due l' x) j=true:=Classical.byContradiction λn=>hx (i6 (pY ok lf) (aS 0) λj=>by
      rw[gQ];cases z:tb (k.due l' x) j
      ·rfl
      ·exact absurd ⟨j,z⟩ n)
     have y:=bit j lf;rw[hz,gQ,up j (cN.mpr ⟨k,hk,hj⟩)] at y;cases y
    exact⟨a,ha,fZ a ha.1 ha.2 z1,fZ _ ⋯ ⋯ z2,λq=>fZ _ ⋯ ⋯ (z3 q)⟩
  rcases hi with hi | hi
  ·exact one od hi λj z=>by rw[z];rfl
  ·exact one ow hi λj z=>by rw[z,Bool.or_true]
theorem wn{K a o:Nat}(h:K%7=(a+o)%7):((K:Nat):Int)%7=((a:Int)+(o:Int))%7:=⋯
noncomputable def A6(r m a:Nat):Bool:=(List.range 7).any λj=>(λx=>Nat.beq x ((a+0)%7)||Nat.beq x ((a+1)%7)) (md (kb (r+j)) m%7)
theorem PZ:((List.range 400).all λr=>(List.range 12).all λm=>Nat.beq m 1||(List.range 7).all λa=>A6 r m a)=true:=by decide +kernel
theorem pH{n:Nat}{p:Nat->Bool}(h:(List.range n).all p=true){k:Nat}(hk:k<n):p k=true:=bV.mp h k (cT.mpr hk)
theorem FH{n:Nat}{p:Nat->Bool}(h:(List.range n).any p=true):∃k,k<n/\p k=true:=by
 obtain⟨k,hk,e⟩:=cN.mp h;exact⟨k,cT.mp hk,e⟩
theorem a7{a:Int}(h0:0<=a)(h1:a<=6):∃n:Nat,a=(n:Int)/\n<7:=⟨a.toNat,⋯,⋯⟩
theorem V8{y m a:Int}(h1:1<=m)(h2:m<=12)(n2:m≠2)(a0:0<=a)(a6:a<=6):∃j:Nat,j<7/\(kindOf (y+j) m%7=a%7∨kindOf (y+j) m%7=(a+1)%7):=by
 obtain⟨n,rfl,hn⟩:=a7 a0 a6;obtain⟨q,rfl,hq,nq⟩:∃q:Nat,m=(q:Int)+1/\q<12/\q≠1:=⟨(m-1).toNat,⋯,⋯,⋯⟩;have z:=pH (pH PZ (show (y%400).toNat<400 by omega)) hq;rw[cW] at z;obtain⟨j,hj,hx⟩:=FH (pH (z.resolve_left λe=>nq (dM e)) hn);refine⟨j,hj,?_⟩;rw[yq y ⋯ hq];exact ((cW _ _).mp hx).imp (λe=>by have:=wn (o:=0) (dM e);rw[this];rfl) (λe=>wn (o:=1) (dM e))
theorem An{y m:Int}(h1:1<=m)(h2:m<=12)(n2:m≠2):fK y m=fK 1 m/\30<=fK 1 m/\fK 1 m<=31:=by
 refine⟨by unfold fK;rw[if_neg n2,if_neg n2],?_⟩;have key:∀n:Nat,n<12->n≠1->30<=lasts.getD n 0/\lasts.getD n 0<=31:=by decide
 unfold fK;rw[if_neg n2];exact key _ ⋯ ⋯
theorem Fq:∀k:Nat,k<91->(iY (k:Int)≠2->gZ (k:Int)=fK 1 (iY (k:Int)))/\(iY (k:Int)=2->gZ (k:Int)<=29):=by decide +kernel
theorem FE{m3 k:Int}{kd kw:Ko}(h:gW m3 kd kw k≠0):tb m3 (iY k).toNat=true/\gg kd kw (gZ k) (k%7)≠0:=by
 unfold gW at h;split at h
 ·rename_i c;exact⟨c,h⟩
 ·exact absurd rfl h
theorem tL{m3 y m:Int}{kd kw:Ko}(h1:1<=m)(h2:m<=12)(hm:tb m3 m.toNat=true)(h:gg kd kw (fK y m) (kindOf y m%7)≠0):gW m3 kd kw (kindOf y m)≠0:=by
 have e:=nM (y:=y) h1 h2;unfold gW;rw[e.1,e.2,if_pos hm];exact h
theorem Dp{y m:Int}(h1:1<=m)(h2:m<=12):gP (12*y+m-1)=kindOf y m:=by
 unfold gP;rw[show (12*y+m-1) / 12=y by omega,show (12*y+m-1)%12+1=m by omega]
theorem RZ{m3:Int}{kd kw:Ko}(od:∀ks,kd=some ks->∀k∈ks,k.ok)(ow:∀ks,kw=some ks->∀k∈ks,k.ok){k:Nat}(hk:k<91)(hne:gW m3 kd kw (k:Int)≠0){mo:Int}(o1:1<=mo)(o2:mo<=12)(on:mo≠2)(ob:tb m3 mo.toNat=true)(M0:Int):∃M,M0<M/\M<=M0+84/\gW m3 kd kw (gP M)≠0:=by
 obtain⟨hb,hd⟩:=FE hne;have ml:=mJ (k:=(k:Int)) ⋯ ⋯;obtain⟨m',p1,p2,pn,pb,ple⟩:∃m':Int,1<=m'/\m'<=12/\m'≠2/\tb m3 m'.toNat=true/\gZ (k:Int)<=fK 1 m':=by
  by_cases c:iY (k:Int)=2
  ·have:=(Fq k hk).2 c;exact⟨mo,o1,o2,on,ob,by have:=(An (y:=1) o1 o2 on).2.1;omega⟩
  ·exact⟨iY (k:Int),ml.1.1,ml.1.2,c,hb,by rw[(Fq k hk).1 c];exact aS _⟩
 have lo:=(An (y:=1) p1 p2 pn).2;obtain⟨a,ha,z1,z2,_⟩:=BH od ow ml.2 lo ple hd;obtain⟨j,hj,hx⟩:=V8 (y:=(M0-m'+13) / 12) (m:=m') (a:=a) p1 p2 pn ha.1 ha.2;refine⟨12*((M0-m'+13) / 12+(j:Int))+m'-1,⋯,⋯,?_⟩;rw[Dp p1 p2];refine tL p1 p2 pb ?_;rw[(An p1 p2 pn).1];rcases hx with hx | hx
 ·rw[hx,Int.emod_eq_of_lt ha.1 ⋯];exact z1
 ·rw[hx];exact z2
theorem Sg{m3:Int}{kd kw:Ko}{k:Nat}(hk:k<91)(hne:gW m3 kd kw (k:Int)≠0)(M0:Int):∃M,M0<M/\M<=M0+480/\gW m3 kd kw (gP M)≠0:=by
 have mo:=GK (k:=(k:Int)) ⋯ ⋯;obtain⟨j,hj,hx,_⟩:=Gv (k:=(k:Int)) ⋯ ⋯ ((M0-kG (k:Int)+13) / 12);have hb:n9 (k:Int)<=40:=by unfold n9;split<;>omega
 refine⟨12*((M0-kG (k:Int)+13) / 12+(j:Int))+kG (k:Int)-1,⋯,⋯,?_⟩;rw[Dp mo.1 mo.2,hx];exact hne
theorem De:∀{l A:List Int},l.Pairwise (·<·)->(∀x∈l,x∈A)->l.length<=A.length
 |[],_,_,_=>bM _
 |x::r,A,hp,h=>by
  have hx:=h x bF;have hp':=dJ.mp hp;have z:=De (A:=A.erase x) hp'.2 λy hy=>(List.mem_erase_of_ne (by have:=hp'.1 y hy;omega)).mpr (h y (bG _ hy));have e:=List.length_erase_of_mem hx;have p:0<A.length:=List.length_pos_of_mem hx;show r.length+1<=A.length;omega
section
variable{m0 m1 m3:Int}{kd kw:Ko}
def kK(m3 D:Int):Prop:=∃y m k:Int,il y m k/\gJ y m k=D/\tb m3 m.toNat=true
def lN(m3:Int)(kd kw:Ko)(D:Int):Prop:=∃y m k:Int,il y m k/\gJ y m k=D/\tb m3 m.toNat=true/\tb (gg kd kw (fK y m) ((D-k+1+6)%7)) k.toNat=true
inductive Wc (m0 m1 m3:Int) (kd kw:Ko) (t:Int):List Nat->Prop
 |mon (h:¬kK m3 (t / 1440)):Wc m0 m1 m3 kd kw t [109,111,110,116,104]
 |day (h:kK m3 (t / 1440)) (n:¬lN m3 kd kw (t / 1440)):Wc m0 m1 m3 kd kw t [100,97,121]
 |hou (h:lN m3 kd kw (t / 1440)) (b:tb m1 (t%1440 / 60).toNat=false):Wc m0 m1 m3 kd kw t [104,111,117,114]
 |min (h:lN m3 kd kw (t / 1440)) (b:tb m1 (t%1440 / 60).toNat=true) (c:tb m0 (t%1440%60).toNat=false):Wc m0 m1 m3 kd kw t [109,105,110,117,116,101]
theorem mQ{t:Int}{w:List Nat}(d:ot t)(h:jl m0 m1 m3 kd kw t (.str (Tx w))):Wc m0 m1 m3 kd kw t w:=by
 obtain⟨y,m,k,ok,e⟩:=d;have z:=h y m k ok e;have one:∀{y' m' k':Int},il y' m' k'->gJ y' m' k'=t / 1440->y'=y/\m'=m/\k'=k:=λa b=>oE a ok (b.trans e.symm);by_cases c1:tb m3 m.toNat=false
 ·rw[ny c1] at z;rw[←iU z];refine .mon λ⟨y',m',k',a,b,c⟩=>?_;obtain⟨rfl,rfl,rfl⟩:=one a b;rw[c1] at c;cases c
 have c1:=ix c1;by_cases c2:tb (gg kd kw (fK y m) ((t / 1440-k+1+6)%7)) k.toNat=false
 ·rw[ni c1 c2] at z;rw[←iU z];refine .day ⟨y,m,k,ok,e,c1⟩ λ⟨y',m',k',a,b,_,c⟩=>?_;obtain⟨rfl,rfl,rfl⟩:=one a b;rw[c2] at c;cases c
 have c2:=ix c2;have od:lN m3 kd kw (t / 1440):=⟨y,m,k,ok,e,c1,c2⟩;by_cases c3:tb m1 (t%1440 / 60).toNat=false
 ·rw[oX c1 c2 c3] at z;rw[←iU z];exact .hou od c3
 have c3:=ix c3;by_cases c4:tb m0 (t%1440%60).toNat=false
 ·rw[oF c1 c2 c3 c4] at z;rw[←iU z];exact .min od c3 c4
 rw[nk c1 c2 c3 (ix c4)] at z;cases z
theorem CU{t:Int}(hn:0<=m0/\0<=m1/\0<=m3)(hb:m1<2^24/\m0<2^60)(hg:jS (gy (gC m1 m0) m3 kd kw))(d:lN m3 kd kw (t / 1440))(a:tb m1 (t%1440 / 60).toNat=true)(b:tb m0 (t%1440%60).toNat=true):ip (gy (gC m1 m0) m3 kd kw) t:=by
 obtain⟨y,m,k,ok,e,c1,c2⟩:=d;exact Dy hn hb hg ok e (nk c1 c2 a b)
theorem Fp{t:Int}(hn:0<=m0/\0<=m1/\0<=m3)(hb:m1<2^24/\m0<2^60)(hg:jS (gy (gC m1 m0) m3 kd kw))(h:ip (gy (gC m1 m0) m3 kd kw) t):lN m3 kd kw (t / 1440)/\tb m1 (t%1440 / 60).toNat=true/\tb m0 (t%1440%60).toNat=true:=by
 obtain⟨y,m,k,ok,e⟩:=HE h;have z:=Ga hn hb hg h y m k ok e;by_cases c1:tb m3 m.toNat=false
 ·rw[ny c1] at z;cases z
 have c1:=ix c1;by_cases c2:tb (gg kd kw (fK y m) ((t / 1440-k+1+6)%7)) k.toNat=false
 ·rw[ni c1 c2] at z;cases z
 have c2:=ix c2;by_cases c3:tb m1 (t%1440 / 60).toNat=false
 ·rw[oX c1 c2 c3] at z;cases z
 have c3:=ix c3;by_cases c4:tb m0 (t%1440%60).toNat=false
 ·rw[oF c1 c2 c3 c4] at z;cases z
 exact⟨⟨y,m,k,ok,e,c1,c2⟩,c3,ix c4⟩
theorem Jk{D:Int}(h:∃y m k:Int,il y m k/\gJ y m k=D)(hc:¬(kK m3 (D-1)↔kK m3 D)):∃y m:Int,(1<=m/\m<=12)/\1440*D=SM (12*y+m-1):=by
 obtain⟨y,m,k,ok,e⟩:=h;by_cases c:k=1
 ·subst c;refine⟨y,m,ok.1,?_⟩;unfold SM gj;rw[show (12*y+m-1) / 12=y by have:=ok.1;omega,show (12*y+m-1)%12+1=m by have:=ok.1;omega,←e];unfold gJ;omega
 ·have ok':il y m (k-1):=⟨ok.1,by have:=ok.2.1;omega,by have:=ok.2.2;omega⟩;have e':gJ y m (k-1)=D-1:=by
   rw[←e];unfold gJ;omega
  refine absurd ⟨λ⟨y',m',k',a,b,z⟩=>?_,λ⟨y',m',k',a,b,z⟩=>?_⟩ hc
  ·obtain⟨rfl,rfl,rfl⟩:=oE a ok' (b.trans e'.symm);exact⟨y',m',k,ok,e,z⟩
  ·obtain⟨rfl,rfl,rfl⟩:=oE a ok (b.trans e.symm);exact⟨y',m',k'-1,ok',e',z⟩
structure Hit(m0 m1 m3:Int)(kd kw:Ko)(h:Int):Prop where
 hn:0<=m0/\0<=m1/\0<=m3
 hb:m1<2^24/\m0<2^60
 hg:jS (gy (gC m1 m0) m3 kd kw)
 od:∀ks,kd=some ks->∀k∈ks,k.ok
 ow:∀ks,kw=some ks->∀k∈ks,k.ok
 ev:ip (gy (gC m1 m0) m3 kd kw) h
theorem Hit.is{h:Int}(H:Hit m0 m1 m3 kd kw h):lN m3 kd kw (h / 1440)/\tb m1 (h%1440 / 60).toNat=true/\tb m0 (h%1440%60).toNat=true:=Fp H.hn H.hb H.hg H.ev
theorem Hit.day{t0 e h D:Int}(H:Hit m0 m1 m3 kd kw h)(no:∀t,t0<=t->t<e->¬ip (gy (gC m1 m0) m3 kd kw) t)(d0:t0<=1440*D)(d1:1440*D+1439<e):¬lN m3 kd kw D:=λhd=>by
 obtain⟨r,hr,r0,r1⟩:∃r,h%1440=r/\0<=r/\r<1440:=⟨(),⋯,⋯⟩;obtain⟨_,h1,h2⟩:=H.is;rw[hr] at h1 h2;have e1:(1440*D+r) / 1440=D/\(1440*D+r)%1440=r:=⋯;refine no (1440*D+r) ⋯ ⋯ (CU H.hn H.hb H.hg ?_ ?_ ?_)
 ·rw[e1.1];exact hd
 ·rw[e1.2];exact h1
 ·rw[e1.2];exact h2
theorem EE{q p r:Int}(p0:0<=p)(p1:p<24)(r0:0<=r)(r1:r<60):(60*(24*q+p)+r) / 1440=q/\(60*(24*q+p)+r)%1440=60*p+r:=⋯
theorem Bh{p r:Int}(r0:0<=r)(r1:r<60):(60*p+r) / 60=p/\(60*p+r)%60=r:=⋯
theorem Hit.hour{t0 e h X:Int}(H:Hit m0 m1 m3 kd kw h)(no:∀t,t0<=t->t<e->¬ip (gy (gC m1 m0) m3 kd kw) t)(d0:t0<=60*X)(d1:60*X+59<e)(hd:lN m3 kd kw (60*X / 1440))(hm:tb m1 (60*X%1440 / 60).toNat=true):False:=by
 obtain⟨r,hr,r0,r1⟩:∃r,h%1440%60=r/\0<=r/\r<60:=⟨(),⋯,⋯⟩;obtain⟨_,_,h2⟩:=H.is;rw[hr] at h2;obtain⟨q,p,rfl,p0,p1⟩:∃q p,X=24*q+p/\0<=p/\p<24:=⟨X / 24,X%24,⋯,⋯,⋯⟩;have e0:=EE (q:=q) p0 p1 (aS 0) (show (0:Int)<60 by decide);have e1:=EE (q:=q) p0 p1 r0 r1;have i0:=Bh (p:=p) (aS 0) (show (0:Int)<60 by decide);have i1:=Bh (p:=p) r0 r1;rw[Int.add_zero] at e0 i0;rw[e0.1] at hd;rw[e0.2,Int.add_zero,i0.1] at hm
 refine no (60*(24*q+p)+r) ⋯ ⋯ (CU H.hn H.hb H.hg ?_ ?_ ?_)
 ·rw[e1.1];exact hd
 ·rw[e1.2,i1.1];exact hm
 ·rw[e1.2,i1.2];exact h2
theorem P9{x:Int}(c:¬x%60=0):(x-1)%1440 / 60=x%1440 / 60:=⋯
theorem Wi{x:Int}{v v':List Nat}(ed:(x-1) / 1440=x / 1440)(a:Wc m0 m1 m3 kd kw (x-1) v)(b:Wc m0 m1 m3 kd kw x v')(ne:v≠v'):lN m3 kd kw (x / 1440)/\((tb m1 ((x-1)%1440 / 60).toNat=true/\tb m1 (x%1440 / 60).toNat=false)∨(tb m1 ((x-1)%1440 / 60).toNat=false/\tb m1 (x%1440 / 60).toNat=true)):=by
 cases a with
 |mon a1=>
  rw[ed] at a1;cases b with
  |mon b1=>exact absurd rfl ne
  |day b1 _=>exact absurd b1 a1
  |hou b1 _=>obtain⟨y,m,k,o,e,z,_⟩:=b1;exact absurd ⟨y,m,k,o,e,z⟩ a1
  |min b1 _ _=>obtain⟨y,m,k,o,e,z,_⟩:=b1;exact absurd ⟨y,m,k,o,e,z⟩ a1
 |day a1 a2=>
  rw[ed] at a1 a2;cases b with
  |mon b1=>exact absurd a1 b1
  |day b1 _=>exact absurd rfl ne
  |hou b1 _=>exact absurd b1 a2
  |min b1 _ _=>exact absurd b1 a2
 |hou a1 a2=>
  rw[ed] at a1;cases b with
  |mon b1=>obtain⟨y,m,k,o,e,z,_⟩:=a1;exact absurd ⟨y,m,k,o,e,z⟩ b1
  |day b1 b2=>exact absurd a1 b2
  |hou b1 _=>exact absurd rfl ne
  |min b1 b2 _=>exact⟨b1,.inr ⟨a2,b2⟩⟩
 |min a1 a2 _=>
  rw[ed] at a1;cases b with
  |mon b1=>obtain⟨y,m,k,o,e,z,_⟩:=a1;exact absurd ⟨y,m,k,o,e,z⟩ b1
  |day b1 b2=>exact absurd a1 b2
  |hou b1 b2=>exact⟨b1,.inl ⟨a2,b2⟩⟩
  |min b1 _ _=>exact absurd rfl ne
theorem A7{t0 e x:Int}{w w':List Nat}{h:Int}(H:Hit m0 m1 m3 kd kw h)(no:∀t,t0<=t->t<e->¬ip (gy (gC m1 m0) m3 kd kw) t)(h0:t0<x)(h1:x<e)(ne:w≠w')(dx:ot x)(a:Wc m0 m1 m3 kd kw (x-1) w)(b:Wc m0 m1 m3 kd kw x w'):
  x∈[1440*(t0 / 1440+1),1440*(e / 1440),60*(t0 / 60+1),60*(e / 60)]∨((∃y m:Int,(1<=m/\m<=12)/\x=SM (12*y+m-1))/\¬(kK m3 (x / 1440-1)↔kK m3 (x / 1440))):=by
 by_cases cd:x%1440=0
 ·by_cases c1:x / 1440-1=t0 / 1440
  ·refine .inl ?_;rw[show x=1440*(t0 / 1440+1) by omega];exact bF
  by_cases c2:x / 1440=e / 1440
  ·refine .inl ?_;rw[←c2,show 1440*(x / 1440)=x by omega];exact bG _ bF
  have n1:=H.day (D:=x / 1440-1) no ⋯ ⋯;have n2:=H.day (D:=x / 1440) no ⋯ ⋯;have ed:(x-1) / 1440=x / 1440-1:=⋯;have hc:¬(kK m3 (x / 1440-1)↔kK m3 (x / 1440)):=by
   rw[←ed] at n1 ⊢;cases a with
   |mon a1=>cases b with
    |mon b1=>exact absurd rfl ne
    |day b1 _=>exact λz=>a1 (z.mpr b1)
    |hou b1 _=>exact absurd b1 n2
    |min b1 _ _=>exact absurd b1 n2
   |day a1 _=>cases b with
    |mon b1=>exact λz=>b1 (z.mp a1)
    |day b1 _=>exact absurd rfl ne
    |hou b1 _=>exact absurd b1 n2
    |min b1 _ _=>exact absurd b1 n2
   |hou a1 _=>exact absurd a1 n1
   |min a1 _ _=>exact absurd a1 n1
  obtain⟨y,m,hm,hs⟩:=Jk dx hc;exact .inr ⟨⟨y,m,hm,by rw[←hs];omega⟩,hc⟩
 ·have ed:(x-1) / 1440=x / 1440:=⋯;obtain⟨hd,hor⟩:=Wi ed a b ne;have x60:x%60=0:=by
   by_cases c:x%60=0
   ·exact c
   ·have ee:=P9 c;rw[ee] at hor;rcases hor with ⟨p,q⟩ | ⟨p,q⟩
    ·rw[p] at q;cases q
    ·rw[p] at q;cases q
  rcases hor with ⟨p,q⟩ | ⟨p,q⟩
  ·by_cases c:t0 / 60=x / 60-1
   ·refine .inl ?_;rw[show x=60*(t0 / 60+1) by omega];exact bG _ (bG _ bF)
   ·refine (H.hour (X:=x / 60-1) no ⋯ ⋯ ?_ ?_).elim
    ·rw[show 60*(x / 60-1) / 1440=x / 1440 by omega];exact hd
    ·rw[show 60*(x / 60-1)%1440 / 60=(x-1)%1440 / 60 by omega];exact p
  ·by_cases c:e / 60=x / 60
   ·refine .inl ?_;rw[c,show 60*(x / 60)=x by omega];exact bG _ (bG _ (bG _ bF))
   ·refine (H.hour (X:=x / 60) no ⋯ ⋯ ?_ ?_).elim
    ·rw[show 60*(x / 60) / 1440=x / 1440 by omega];exact hd
    ·rw[show 60*(x / 60)%1440 / 60=x%1440 / 60 by omega];exact q
end
noncomputable def ends(m:Int):List Int:=if m=2 then [28,29] else [[31,28,31,30,31,30,31,31,30,31,30,31].getD (m-1).toNat 0]
def pK(ns:List Int)(kd kw:Ko):Prop:=∀m∈ns,∀l∈ends m,∀f:Nat,f<7->∀d:Nat,d<l.toNat->tb (gg kd kw l f) (d+1)=false
theorem W0:∀n:Nat,n<12->∀l∈ends ((n:Int)+1),l∈hZ:=by decide +kernel
theorem MX{m l:Int}(h1:1<=m)(h2:m<=12)(hl:l∈ends m):28<=l/\l<=31:=by
 have z:=W0 (m-1).toNat ⋯ l (by rw[show (((m-1).toNat:Nat):Int)+1=m by omega];exact hl);simp only[hZ,aX,cF,or_false] at z;omega
noncomputable def qK(m l f:Int):Int:=if m=2/\l=29 then 84+f else 7*(m-1)+f
theorem aAD:∀n:Nat,n<12->∀l∈ends ((n:Int)+1),∀f:Nat,f<7->(0<=qK ((n:Int)+1) l f/\qK ((n:Int)+1) l f<=90)/\iY (qK ((n:Int)+1) l f)=(n:Int)+1/\gZ (qK ((n:Int)+1) l f)=l/\qK ((n:Int)+1) l f%7=f:=by decide +kernel
theorem DN:∀l∈hZ,tb (2*2^l.toNat-2) 0=false:=by decide +kernel
theorem Mv{k:Mk}{l f:Int}(hk:k.ok)(h:Lf l f):tb (k.due l f) 0=false:=by
 have hl:=h.1;have pw:∀{a:Nat},0<a->tb (1*2^a) 0=false:=λ{a} ha=>by
  obtain⟨b,rfl⟩:∃b,a=b+1:=⟨a-1,⋯⟩;have e:=pL (m:=1) (by decide) (b+1) 0;rw[e,fB ⋯,cZ]
 cases k with
 |num m=>
  show tb (Builtin.bitAnd m (2*2^l.toNat-2)) 0=false;rw[kX hk (by have:=gS l.toNat;omega),DN l (iI hl.1 hl.2),cM]
 |lst b=>
  show tb (if l<=b then (0:Int) else 1*2^(l-b).toNat) 0=false;split
  ·exact gQ _
  ·exact pw ⋯
 |nea d=>
  show tb (if l<d then (0:Int) else 1*2^(nw d l f).toNat) 0=false;split
  ·exact gQ _
  ·exact pw (by have:=(rE ⟨hk,hl,h.2⟩ ⋯).2.1;omega)
 |wrk=>exact pw (by have:=(rE h.last (aS _)).2.1;omega)
 |wkd m=>show tb (jX m l f) 0=false;rw[si hk.1 hk.2 h];rfl
 |nth w m=>
  show tb (if l<kF w m f then (0:Int) else 1*2^(kF w m f).toNat) 0=false;split
  ·exact gQ _
  ·refine pw ?_;have:=hk.2.1;unfold kF;have:=cG (w-f) (show (7:Int)≠0 by decide);omega
 |one w=>
  refine pw ?_;unfold nE;have:=dF ((f+l-1)%7-w) (show (0:Int)<7 by decide);omega
 |nil=>exact gQ _
theorem Qh{kd kw:Ko}{l f:Int}(hl:Lf l f)(od:∀ks,kd=some ks->∀k∈ks,k.ok)(ow:∀ks,kw=some ks->∀k∈ks,k.ok):tb (gg kd kw l f) 0=false:=by
 have no:∀{ko:Ko},(∀ks,ko=some ks->∀k∈ks,k.ok)->kI ko l f 0=false:=λ{ko} o=>by
  cases ko with
  |none=>rfl
  |some ks=>exact dC.mpr λk hk=>by rw[Mv (o ks rfl k hk) hl];decide
 unfold gg;split
 ·exact DN l (iI hl.1.1 hl.1.2)
 ·rw[oZ hl ow (mS (b:=false) hl od (aS 0)),oZ hl od (aS 0),gQ,no od,no ow];rfl
theorem Gu:∀k:Nat,k<91->Lf (gZ (k:Int)) ((k:Int)%7):=by
 intro k hk;have z:=mJ (k:=(k:Int)) ⋯ ⋯;exact⟨z.2.1,⋯,⋯⟩
theorem Wf{m3 k:Int}{kd kw:Ko}(hne:gW m3 kd kw k≠0):gW m3 kd kw k=gg kd kw (gZ k) (k%7):=by
 unfold gW at hne ⊢;split
 ·rfl
 ·rename_i c;rw[if_neg c] at hne;exact absurd rfl hne
theorem wQ{tm m3 M:Int}{kd kw:Ko}(hg:jS (gy tm m3 kd kw)){r:Nat}(hr:r<1440)(ht:tb tm r=true)(hne:gW m3 kd kw (gP M)≠0)(od:∀ks,kd=some ks->∀k∈ks,k.ok)(ow:∀ks,kw=some ks->∀k∈ks,k.ok):∃t,SM M<=t/\t<SM (M+1)/\ip (gy tm m3 kd kw) t:=by
 have kl:=p4 M;have lf:=Gu (gP M).toNat ⋯;rw[bK kl.1] at lf;have eD:=(Wf hne);obtain⟨i,hi⟩:∃i,tb (gW m3 kd kw (gP M)) i=true:=Classical.byContradiction λn=>hne (i6 (by rw[eD];exact sW lf od ow) (aS 0) λi=>by
  rw[gQ];cases c:tb (gW m3 kd kw (gP M)) i
  ·rfl
  ·exact absurd ⟨i,c⟩ n)
 have i0:1<=i:=by
  rcases Nat.eq_zero_or_pos i with rfl | w
  ·rw[eD,Qh lf od ow] at hi;cases hi
  ·exact w
 have i1:i<=(gZ (gP M)).toNat:=by
  rcases cL (gZ (gP M)).toNat i with w | w
  ·rw[eD,lJ (FU lf od ow) w] at hi;cases hi
  ·exact w
 have el:=Gz M;have up:=jq M;have b1:SM M+(1440*((i-1:Nat):Int)+(r:Int))<SM (M+1):=by
  unfold SM;omega
 refine⟨SM M+(1440*((i-1:Nat):Int)+(r:Int)),⋯,b1,M,⋯,b1,?_⟩;unfold WM;rw[rH hg,show (SM M+(1440*((i-1:Nat):Int)+(r:Int))-SM M).toNat=1440*(i-1)+r by omega,show (1440*(i-1)+r) / 1440=i-1 by omega,show (1440*(i-1)+r)%1440=r by omega,eY ⋯,cY];unfold gy;rw[show i-1+1=i by omega,if_pos hi];exact ht
theorem Yg{ns:List Int}{kd kw:Ko}(hns:∀n∈ns,1<=n/\n<=12)(h:∀M,gW (fu ns) kd kw (gP M)=0):pK ns kd kw:=λm hmn l hl f hf d hd=>by
 have b:=hns m hmn;obtain⟨k0,k1,k2,k3⟩:=aAD (m-1).toNat ⋯ l (by rw[show (((m-1).toNat:Nat):Int)+1=m by omega];exact hl) f hf;rw[show (((m-1).toNat:Nat):Int)+1=m by omega] at k0 k1 k2 k3;obtain⟨N,_,_,eN⟩:=En k0.1 k0.2 0;have z:=h N;rw[eN] at z;unfold gW at z;rw[k1,k2,k3,if_pos (by rw[jE];exact cN.mpr ⟨m,hmn,eY rfl⟩)] at z;rw[z];exact gQ _
theorem G0:∀n:Nat,∃M,gj M<=gj 0+n/\gj 0+n<gj (M+1)
 |0=>⟨0,⋯,by have:=jq 0;have:=lg 0;omega⟩
 |n+1=>by
  obtain⟨M,h1,h2⟩:=G0 n;rcases b9 (gj 0+(n+1:Nat)) (gj (M+1)) with c | c
  ·exact⟨M,⋯,c⟩
  ·exact⟨M+1,c,by have:=jq (M+1);have:=lg (M+1);omega⟩
theorem B9:∀n:Nat,∃M,gj M<=gj 0-n/\gj 0-n<gj (M+1)
 |0=>⟨0,⋯,by have:=jq 0;have:=lg 0;omega⟩
 |n+1=>by
  obtain⟨M,h1,h2⟩:=B9 n;rcases b9 (gj 0-(n+1:Nat)) (gj M) with c | c
  ·refine⟨M-1,?_,by rw[show M-1+1=M by omega];exact c⟩;have:=jq (M-1);have:=lg (M-1);rw[show M-1+1=M by omega] at *;omega
  ·exact⟨M,c,⋯⟩
theorem Hb(D:Int):∃M,gj M<=D/\D<gj (M+1):=by
 rcases b9 D (gj 0) with c | c
 ·obtain⟨M,h⟩:=B9 (gj 0-D).toNat;rw[show gj 0-((gj 0-D).toNat:Int)=D by omega] at h;exact⟨M,h⟩
 ·obtain⟨M,h⟩:=G0 (D-gj 0).toNat;rw[show gj 0+((D-gj 0).toNat:Int)=D by omega] at h;exact⟨M,h⟩
theorem Bq{M D:Int}(h1:gj M<=D)(h2:D<gj (M+1)):il (M / 12) (M%12+1) (D-gj M+1)/\gJ (M / 12) (M%12+1) (D-gj M+1)=D:=by
 have up:=jq M;refine⟨⟨⟨⋯,⋯⟩,⋯,?_⟩,?_⟩
 ·show D-gj M+1<=ju M;omega
 ·show db (M / 12)+ahead (M / 12) (M%12+1)+(D-gj M+1)-1=D;have:gj M=db (M / 12)+ahead (M / 12) (M%12+1):=rfl;omega
theorem mw(t:Int):ot t:=by
 obtain⟨M,h1,h2⟩:=Hb (t / 1440);exact⟨_,_,_,Bq h1 h2⟩
theorem DJ(t:Int):∃M,SM M<=t/\t<SM (M+1):=by
 obtain⟨M,h1,h2⟩:=Hb (t / 1440);unfold SM;exact⟨M,⋯,⋯⟩
theorem rS{m3 M D:Int}(h1:gj M<=D)(h2:D<gj (M+1)):kK m3 D↔tb m3 (M%12+1).toNat=true:=by
 obtain⟨o,e⟩:=Bq h1 h2;constructor
 ·rintro⟨y,m,k,o',e',z⟩;obtain⟨_,rfl,_⟩:=oE o' o (e'.trans e.symm);exact z
 ·exact λz=>⟨_,_,_,o,e,z⟩
noncomputable def mR(M:Int):Int:=366*(M / 12)+[0,31,60,91,121,152,182,213,244,274,305,335].getD (M%12).toNat 0
theorem W5:∀n:Nat,n<12->(if n=1 then 29 else lasts.getD n 0)=(if n=11 then 366 else [0,31,60,91,121,152,182,213,244,274,305,335].getD (n+1) 0) - [0,31,60,91,121,152,182,213,244,274,305,335].getD n 0:=by decide +kernel
theorem X4(M:Int):ju M<=mR (M+1)-mR M:=by
 have z:=W5 (M%12).toNat ⋯;have l:ju M<=(if (M%12).toNat=1 then 29 else lasts.getD (M%12).toNat 0):=by
  unfold ju fK;by_cases c:M%12=1
  ·rw[if_pos ⋯,if_pos ⋯];have:=pO (M / 12);omega
  ·rw[if_neg ⋯,if_neg ⋯,show (M%12+1-1).toNat=(M%12).toNat by omega];exact aS _
 unfold mR;by_cases c:M%12=11
 ·rw[if_pos (show (M%12).toNat=11 by omega)] at z;rw[show (M+1) / 12=M / 12+1 by omega,show ((M+1)%12).toNat=0 by omega];show _<=366*(M / 12+1)+0-_;omega
 ·rw[if_neg (show ¬(M%12).toNat=11 by omega)] at z;rw[show (M+1) / 12=M / 12 by omega,show ((M+1)%12).toNat=(M%12).toNat+1 by omega];omega
theorem BM(M:Int):∀n:Nat,gj (M+n)-gj M<=mR (M+n)-mR M
 |0=>by rw[show M+((0:Nat):Int)=M by omega];omega
 |n+1=>by
  have h:=BM M n;have u:=jq (M+n);have l:=X4 (M+n);rw[show M+((n+1:Nat):Int)=M+n+1 by omega];omega
theorem Ls(M:Int):gj (M+12)<=gj M+366:=by
 have h:=BM M 12;have e:mR (M+(12:Nat))=mR M+366:=by
  unfold mR;rw[show (M+((12:Nat):Int)) / 12=M / 12+1 by omega,show (M+((12:Nat):Int))%12=M%12 by omega];omega
 rw[e,show M+((12:Nat):Int)=M+12 by omega] at h;omega
noncomputable def oi(q:Nat):Bool:=Nat.beq q 0||Nat.beq q 2||Nat.beq q 4||Nat.beq q 6||Nat.beq q 7||Nat.beq q 9||Nat.beq q 11
noncomputable def nW:List (Nat×Nat):=[(0,1),(0,8),(1,2),(1,9),(2,3),(2,10),(3,4),(3,11),(4,5),(4,12),(5,6),(5,13),(6,0),(6,7),(7,2),(8,3),(9,4),(10,5),(11,6),(12,0),(13,1)]
theorem SH:∀r:Nat,r<400->(kb r,kb (r+1))∈nW:=by decide +kernel
noncomputable def xu(p:Nat×Nat)(q a:Nat):Bool:=(List.range 12).any λj=>oi ((q+j)%12)&&(λx=>Nat.beq x ((a+0)%7)||(Nat.beq x ((a+1)%7)||Nat.beq x ((a+2)%7))) (md (if (q+j) / 12=0 then p.1 else p.2) ((q+j)%12)%7)
theorem WN:∀p∈nW,((List.range 12).all λq=>(List.range 7).all λa=>xu p q a)=true:=by decide +kernel
theorem Pp:∀q:Nat,q<12->oi q=true->q≠1/\lasts.getD q 0=31:=by decide +kernel
theorem Yr(M:Int){j:Nat}(hj:j<12):∃q i k:Nat,q=(M%12).toNat/\q<12/\(q+j) / 12=i/\(q+j)%12=k/\i<=1/\k<12/\(M+j) / 12=M / 12+(i:Int)/\(M+j)%12=(k:Int):=⟨_,_,(),⋯,rfl,rfl,⋯,⋯,⋯,⋯⟩
theorem Tz(M:Int){a:Int}(a0:0<=a)(a6:a<=6):∃j:Nat,j<12/\ju (M+j)=31/\(gP (M+j)%7=a%7∨gP (M+j)%7=(a+1)%7∨gP (M+j)%7=(a+2)%7):=by
 obtain⟨n,rfl,hn⟩:=a7 a0 a6;have z:=pH (WN _ (SH (M / 12%400).toNat ⋯)) (show (M%12).toNat<12 by omega);obtain⟨j,hj,hx⟩:=FH (pH z hn);obtain⟨q,i,k,eq,hq,ei,ek,hi,hk,e1,e2⟩:=Yr M hj;rw[←eq,ei,ek,bE] at hx;obtain⟨h1,hx⟩:=hx;obtain⟨l1,l2⟩:=Pp k hk h1;have ec:(if i=0 then kb (M / 12%400).toNat else kb ((M / 12%400).toNat+1))=kb ((M / 12%400).toNat+i):=by
  match i,hi with
  |0,_=>rfl
  |1,_=>rfl
 refine⟨j,hj,?_,?_⟩
 ·unfold ju fK;rw[e2,if_neg ⋯,show ((k:Int)+1-1).toNat=k by omega];exact l2
 ·unfold gP;rw[e1,e2,yq _ ⋯ hk,←ec];exact ((cW _ _).mp hx).imp (λe=>by have:=wn (o:=0) (dM e);rw[this];rfl) (λe=>((cW _ _).mp e).imp (λe=>wn (o:=1) (dM e)) (λe=>wn (o:=2) (dM e)))
section
variable{m0 m1 m3:Int}{kd kw:Ko}
theorem Hit.kind{h:Int}(H:Hit m0 m1 m3 kd kw h):∃(y m:Int) (k:Nat),k<91/\(1<=m/\m<=12)/\tb m3 m.toNat=true/\(k:Int)=kindOf y m/\gW m3 kd kw (k:Int)≠0:=by
 obtain⟨⟨y,m,k,ok,e,c1,c2⟩,_,_⟩:=H.is;have kl:=qH (y:=y) ok.1.1 ok.1.2;refine⟨y,m,(kindOf y m).toNat,⋯,ok.1,c1,⋯,?_⟩;rw[bK kl.1];refine tL ok.1.1 ok.1.2 c1 λz=>?_;rw[qc ok e,] at z;rw[z,gQ] at c2;cases c2
theorem Hit.time{h:Int}(H:Hit m0 m1 m3 kd kw h):tb (gC m1 m0) (h%1440).toNat=true:=by
 obtain⟨_,a,b⟩:=H.is;exact AD H.hn.2.1 H.hb.1 H.hn.1 (by rw[show (h%1440).toNat / 60=(h%1440 / 60).toNat by omega];exact a) (by rw[show (h%1440).toNat%60=(h%1440%60).toNat by omega];exact b)
theorem Hit.mono{h M N:Int}(H:Hit m0 m1 m3 kd kw h)(l:SM M<SM N):M<N:=by
 rcases b9 M N with c | c
 ·exact c
 ·have:=(og H.hg).mono c;omega
theorem Hit.upto{h b mo Ma M:Int}(H:Hit m0 m1 m3 kd kw h)(no:∀t,b<=t->t<mo->¬ip (gy (gC m1 m0) m3 kd kw) t)(a2:b<SM (Ma+1))(hM:Ma<M)(hd:gW m3 kd kw (gP M)≠0):mo<SM (M+1):=by
 obtain⟨t,t1,t2,ht⟩:=wQ H.hg (r:=(h%1440).toNat) ⋯ H.time hd H.od H.ow;have:=(og H.hg).mono (show Ma+1<=M by omega);rcases b9 t mo with c | c
 ·exact absurd ht (no t ⋯ c)
 ·omega
theorem FO:∀{r:List gX} {s:gX} {b mo:Int},jB m0 m1 m3 kd kw b (s::r) mo->(s::r).Pairwise (λp q=>p.1<q.1)/\∀s'∈r,∃w,w≠s'.2.2/\s.1<s'.1/\s'.1<mo/\Wc m0 m1 m3 kd kw (s'.1-1) w/\Wc m0 m1 m3 kd kw s'.1 s'.2.2
 |[],s,b,mo,_=>⟨List.pairwise_singleton _ _,λ_ h=>nomatch h⟩
 |s1::r,s,b,mo,⟨a1,a2,a3,a4,a5,a6,a7⟩=>by
  obtain⟨p1,p2⟩:=FO a7;obtain⟨b1,b2,b3,b4,b5,b6,b7⟩:=a7;have le:=EQ b7;have up:∀s'∈s1::r,s.1<s'.1:=λs' hs=>by
   rcases aX.mp hs with rfl | hs
   ·omega
   ·obtain⟨_,_,z,_⟩:=p2 s' hs;omega
  refine⟨dJ.mpr ⟨up,p1⟩,λs' hs=>?_⟩;rcases aX.mp hs with rfl | hs
  ·refine⟨s.2.2,λz=>a6 (by show some s'.2.2=some s.2.2;rw[z]),⋯,⋯,?_,mQ (mw _) (b3 _ (aS _) b2)⟩;rw[show s'.1-1=s.2.1 by omega];exact mQ (mw _) (a3 _ a2 (aS _))
  ·obtain⟨w,z1,z2,z3,z4⟩:=p2 s' hs;exact⟨w,z1,up s' (bG _ hs),z3,z4⟩
theorem Lw:∀r:Nat,r<12->((List.range 480).filter λj=>Nat.beq ((r+1+j)%12) 1||Nat.beq ((r+1+j)%12) 2).length<=80:=by decide +kernel
theorem Ed{M N:Int}(h:M<N){c:Nat}(q:N%12=c)(hc:c<12):((M%12).toNat+1+(N-M-1).toNat)%12=c:=⋯
theorem KA{h b mo:Int}{sts:List gX}(H:Hit m0 m1 m3 kd kw h)(no:∀t,b<=t->t<mo->¬ip (gy (gC m1 m0) m3 kd kw) t)(cv:jB m0 m1 m3 kd kw b sts mo):sts.length<=100:=by
 cases sts with
 |nil=>exact bM _
 |cons s r=>
  have hb0:s.1=b:=cv.1;obtain⟨pw,ed⟩:=FO cv;obtain⟨Ma,i1,i2⟩:=DJ b;obtain⟨y,m,k,k91,hm,hm3,ek,hne⟩:=H.kind;have pr:(r.map (·.1)).Pairwise (·<·):=List.pairwise_map.mpr (dJ.mp pw).2;have fZ:∀(N:Nat) (f:Nat->Bool),(∀M:Int,Ma<M->SM M<mo->¬(kK m3 (SM M / 1440-1)↔kK m3 (SM M / 1440))->∃j,j<N/\f j=true/\M=Ma+1+j)->((List.range N).filter f).length<=90->r.length<=99:=λN f hf hl=>by
   have z:=De (A:=[1440*(b / 1440+1),1440*(mo / 1440),60*(b / 60+1),60*(mo / 60)]++((List.range N).filter f).map λj:Nat=>SM (Ma+1+j)) pr (λx hx=>by
    obtain⟨s',hs,rfl⟩:=bD.mp hx;obtain⟨w,z1,z2,z3,z4,z5⟩:=ed s' hs;rcases A7 H no ⋯ z3 z1 (mw _) z4 z5 with q | ⟨⟨y',m',q1,q2⟩,q3⟩
    ·exact dY _ q
    ·refine cD _ (bD.mpr ?_);rw[q2] at q3 z3 z2;obtain⟨j,j1,j2,j3⟩:=hf _ (H.mono ⋯) z3 q3;exact⟨j,List.mem_filter.mpr ⟨cT.mpr j1,j2⟩,by rw[q2,j3]⟩)
   rw[aR,aY,aR] at z;have e4:[1440*(b / 1440+1),1440*(mo / 1440),60*(b / 60+1),60*(mo / 60)].length=4:=rfl;omega
  show r.length+1<=100;by_cases c:∃mo':Int,1<=mo'/\mo'<=12/\mo'≠2/\tb m3 mo'.toNat=true
  ·obtain⟨mo',o1,o2,o3,o4⟩:=c;obtain⟨M,g1,g2,g3⟩:=RZ H.od H.ow k91 hne o1 o2 o3 o4 Ma;have u:=H.upto no i2 g1 g3;have z:=fZ 84 (λ_=>true) (λN n1 n2 _=>by
    have:=H.mono (show SM N<SM (M+1) by omega);exact⟨(N-Ma-1).toNat,⋯,rfl,⋯⟩) (bL (List.length_filter_le _ _) (by decide))
   omega
  ·obtain⟨M,g1,g2,g3⟩:=Sg k91 hne Ma;have u:=H.upto no i2 g1 g3;have nof:∀N:Int,tb m3 (N%12+1).toNat=true->N%12=1:=λN hN=>Classical.byContradiction λn=>c ⟨N%12+1,⋯,⋯,⋯,hN⟩;have z:=fZ 480 (λj=>Nat.beq (((Ma%12).toNat+1+j)%12) 1||Nat.beq (((Ma%12).toNat+1+j)%12) 2) (λN n1 n2 n3=>by
    have:=H.mono (show SM N<SM (M+1) by omega);have up:=jq N;have l1:=lg N;have up':=jq (N-1);have l2:=lg (N-1);rw[show N-1+1=N by omega] at up';have e:SM N / 1440=gj N:=by unfold SM;omega
    rw[e,rS (M:=N-1) ⋯ (by rw[show N-1+1=N by omega];omega),rS (M:=N) (aS _) ⋯] at n3;refine⟨(N-Ma-1).toNat,⋯,?_,⋯⟩;have hor:N%12=1∨N%12=2:=by
     rcases Classical.em (tb m3 (N%12+1).toNat=true) with q | q
     ·exact .inl (nof N q)
     ·rcases Classical.em (tb m3 ((N-1)%12+1).toNat=true) with q' | q'
      ·have:=nof _ q';exact .inr ⋯
      ·exact absurd ⟨λz=>absurd z q',λz=>absurd z q⟩ n3
    rw[cW];rcases hor with q | q
    ·exact .inl (by rw[Ed n1 (c:=1) q (by decide)];rfl)
    ·exact .inr (by rw[Ed n1 (c:=2) q (by decide)];rfl)) (bL (Lw (Ma%12).toNat ⋯) (by decide))
   omega
theorem VW{h s l:Int}{w:List Nat}(H:Hit m0 m1 m3 kd kw h)(hw:∀t,s<=t->t<=l->jl m0 m1 m3 kd kw t (.str (Tx w))):l-s<576000/\(w=[104,111,117,114]->l-s<1440)/\(w=[109,105,110,117,116,101]->l-s<60):=by
 have wc:∀t,s<=t->t<=l->Wc m0 m1 m3 kd kw t w:=λt a b=>mQ (mw t) (hw t a b);obtain⟨_,hh,hmi⟩:=H.is;have ho:w=[104,111,117,114]->l-s<1440:=λe=>Classical.byContradiction λc=>by
  have z:=wc (1440*((s+1439-h%1440) / 1440)+h%1440) ⋯ ⋯;rw[e] at z;cases z with
  |hou _ b=>
   rw[show (1440*((s+1439-h%1440) / 1440)+h%1440)%1440=h%1440 by omega,hh] at b;cases b
 have mi:w=[109,105,110,117,116,101]->l-s<60:=λe=>Classical.byContradiction λc=>by
  have z:=wc (60*((s+59-h%60) / 60)+h%60) ⋯ ⋯;rw[e] at z;cases z with
  |min _ _ b=>
   rw[show (60*((s+59-h%60) / 60)+h%60)%1440%60=h%1440%60 by omega,hmi] at b;cases b
 refine⟨?_,ho,mi⟩;rcases b9 (l-s) 576000 with c | c
 ·exact c
 exfalso;obtain⟨Ma,i1,i2⟩:=DJ s;obtain⟨y,m,k,k91,hm,hm3,ek,hne⟩:=H.kind;have y1:=Ls (Ma+1);have u0:=jq Ma;have l0:=lg Ma;have s13:SM (Ma+13)<=l:=by
  unfold SM at i1 i2 ⊢;rw[show Ma+1+12=Ma+13 by omega] at y1;omega
 -- the months of the year behind lie within
 have mon:∀M:Int,Ma<M->M<=Ma+12->s<=SM M/\SM (M+1)<=l:=λM a b=>by
  have z1:=(og H.hg).mono (show Ma+1<=M by omega);have z2:=(og H.hg).mono (show M+1<=Ma+13 by omega);omega
 have div:∀M:Int,SM M / 1440=gj M:=λM=>by unfold SM;omega
 have lt:∀M:Int,gj M<gj (M+1)/\SM M<SM (M+1):=λM=>by
  have:=jq M;have:=lg M;unfold SM;omega
 -- a month of the mask
 have hin:∃M,Ma<M/\M<=Ma+12/\kK m3 (gj M):=by
  refine⟨Ma+1+(m-1-(Ma+1))%12,⋯,⋯,(rS (aS _) (lt _).1).mpr ?_⟩;rw[show (Ma+1+(m-1-(Ma+1))%12)%12+1=m by omega];exact hm3
 obtain⟨M1,n1,n2,n3⟩:=hin;have q1:=mon M1 n1 n2;have z1:=wc (SM M1) q1.1 (by have:=(lt M1).2;omega);cases z1 with
 |mon z=>rw[div] at z;exact z n3
 |hou z b=>have:=ho rfl;omega
 |min z b _=>have:=mi rfl;omega
 |day z _=>
  have all:∀M:Int,Ma<M->M<=Ma+12->tb m3 (M%12+1).toNat=true:=λM a b=>by
   have q:=mon M a b;have z:=wc (SM M) q.1 (by have:=(lt M).2;omega);cases z with
   |day z _=>rw[div] at z;exact (rS (aS _) (lt _).1).mp z
  have ml:=mJ (k:=(k:Int)) ⋯ ⋯;obtain⟨hb,hd⟩:=FE hne;obtain⟨a,ha,f1,f2,f3⟩:=BH H.od H.ow ml.2 (l':=31) (by decide) ml.2.1.2 hd;obtain⟨j,j1,j2,j3⟩:=Tz (Ma+1) ha.1 ha.2;have q:=mon (Ma+1+j) ⋯ ⋯;have hd2:gW m3 kd kw (gP (Ma+1+j))≠0:=by
   unfold gP;refine tL ⋯ ⋯ (all _ ⋯ ⋯) ?_;show gg kd kw (ju (Ma+1+j)) (gP (Ma+1+j)%7)≠0;rw[j2];rcases j3 with e | e | e
   ·rw[e,Int.emod_eq_of_lt ha.1 ⋯];exact f1
   ·rw[e];exact f2
   ·rw[e];exact f3 rfl
  obtain⟨t,t1,t2,ht⟩:=wQ H.hg (r:=(h%1440).toNat) ⋯ H.time hd2 H.od H.ow;have z:=wc t ⋯ ⋯;have od:=(Fp H.hn H.hb H.hg ht).1;cases z with
  |day _ n=>exact n od
end
noncomputable def l7(m3:Int)(kd kw:Ko)(d y m k:Int):List Nat:=if tb m3 m.toNat=false then [109,111,110,116,104] else if tb (gg kd kw (fK y m) ((d-k+1+6)%7)) k.toNat=false then [100,97,121] else [116,111,108,100]
theorem m7{a b:List Nat}{A B:Prop}(h1:¬a=b->A)(h2:a=b->B):if (!decide (V.str (Tx a)=V.str (Tx b)))=true then A else B:=by
 by_cases c:a=b
 ·rw[eY (by rw[c])];exact (gf (h2 c):if (!true)=true then A else B)
 ·rw[fB (λz=>c (iU z))];exact (gk (h1 c):if (!false)=true then A else B)
theorem ym{y:Int}{b:Bool}(h:io y=b):iQ y=if b then 1 else 0:=by
 unfold iQ;rw[h]
theorem zv{m0 m1 m3 t:Int}{kd kw:Ko}{u w:List Nat}{v:V}(hd:DT false u kd)(hw:DT true w kw)(h:jl m0 m1 m3 (gO false kd) (gO true kw) t v):jl m0 m1 m3 kd kw t v:=λy m k ok e=>by
 have z:=h y m k ok e;unfold iy at z ⊢;rw[Eo hd hw (qI ok)] at z;exact z
theorem BB{m0 m1 m3:Int}{kd kw:Ko}{u w:List Nat}(hd:DT false u kd)(hw:DT true w kw):∀{sts:List gX} {b mo:Int},jB m0 m1 m3 (gO false kd) (gO true kw) b sts mo->jB m0 m1 m3 kd kw b sts mo
 |[],_,_,h=>h
 |_::_,_,_,⟨a1,a2,a3,a4,a5,a6,a7⟩=>⟨a1,a2,λt x y=>zv hd hw (a3 t x y),a4,a5,a6,BB hd hw a7⟩
theorem vg{tm m3 t:Int}{u w:List Nat}{kd kw:Ko}(hd:DT false u kd)(hw:DT true w kw):ip (gy tm m3 (gO false kd) (gO true kw)) t↔ip (gy tm m3 kd kw) t:=by
 have e2:∀M:Int,gy tm m3 (gO false kd) (gO true kw) (gP M)=gy tm m3 kd kw (gP M):=λM=>funext λj=>by
  have kl:=p4 M;have lf:=Gu (gP M).toNat ⋯;rw[bK kl.1] at lf;unfold gy gW;rw[Eo hd hw lf]
 have e3:∀M:Int,WM (gy tm m3 (gO false kd) (gO true kw)) M=WM (gy tm m3 kd kw) M:=λM=>by
  unfold WM wK jA;rw[e2]
 exact⟨λ⟨M,a1,a2,a3⟩=>⟨M,a1,a2,by rw[←e3];exact a3⟩,λ⟨M,a1,a2,a3⟩=>⟨M,a1,a2,by rw[e3];exact a3⟩⟩
theorem F9{m0 m1 m3 t:Int}{kd kw:Ko}{w:List Nat}(h:Wc m0 m1 m3 kd kw t w):w=[109,111,110,116,104]∨w=[100,97,121]∨w=[104,111,117,114]∨w=[109,105,110,117,116,101]:=by
 cases h with
 |mon _=>exact .inl rfl
 |day _ _=>exact .inr (.inl rfl)
 |hou _ _=>exact .inr (.inr (.inl rfl))
 |min _ _ _=>exact .inr (.inr (.inr rfl))
theorem aDG{m0 m1 m3 b mo:Int}{kd kw:Ko}{sts:List gX}(h:jB m0 m1 m3 kd kw b sts mo):p6 sts≠some []:=by
 cases sts with
 |nil=>exact λz=>by cases z
 |cons s r=>
  intro z;have e:s.2.2=[]:=aZ z;have w:=F9 (mQ (mw _) (h.2.2.1 _ (aS _) h.2.1));rw[e] at w;rcases w with w | w | w | w<;>cases w
theorem BF{m0 m1 m3 d r y m k:Int}{kd kw:Ko}:(l7 m3 kd kw d y m k=[109,111,110,116,104]/\iy m0 m1 m3 kd kw d r y m k=.str (Tx [109,111,110,116,104]))∨(l7 m3 kd kw d y m k=[100,97,121]/\iy m0 m1 m3 kd kw d r y m k=.str (Tx [100,97,121]))∨(l7 m3 kd kw d y m k=[116,111,108,100]/\iy m0 m1 m3 kd kw d r y m k=if tb m1 (r / 60).toNat=false then .str (Tx [104,111,117,114]) else if tb m0 (r%60).toNat=false then .str (Tx [109,105,110,117,116,101]) else .non):=by
 unfold l7 iy;split
 ·exact .inl ⟨rfl,rfl⟩
 split
 ·exact .inr (.inl ⟨rfl,rfl⟩)
 ·exact .inr (.inr ⟨rfl,rfl⟩)
theorem Nw{f l:Int}{i:Nat}(h:f<=l)(hi:(i:Int)<l / 60+1-f / 60):f<=(if (f / 60+(i:Int))*60>f then (f / 60+(i:Int))*60 else f)/\(if (f / 60+(i:Int))*60>f then (f / 60+(i:Int))*60 else f)<=l/\(if (f / 60+(i:Int))*60>f then (f / 60+(i:Int))*60 else f) / 60=f / 60+(i:Int):=by split<;>omega
theorem K5{f l:Int}{i:Nat}(h:f<=l)(hi:(i:Int)<l / 1+1-f / 1):f<=(if (f / 1+(i:Int))*1>f then (f / 1+(i:Int))*1 else f)/\(if (f / 1+(i:Int))*1>f then (f / 1+(i:Int))*1 else f)<=l/\(if (f / 1+(i:Int))*1>f then (f / 1+(i:Int))*1 else f) / 1=f / 1+(i:Int):=by split<;>omega
theorem YA{ns0 ns1 ns3:List Int}{kd kw:Ko}(h0:ns0≠[])(h1:ns1≠[])(b0:∀n∈ns0,0<=n/\n<=59)(b1:∀n∈ns1,0<=n/\n<=23)(b3:∀n∈ns3,1<=n/\n<=12)(hb:fu ns1<2^24/\fu ns0<2^60)(od:∀ks,kd=some ks->∀k∈ks,k.ok)(ow:∀ks,kw=some ks->∀k∈ks,k.ok)
  (no:∀t,¬ip (gy (gC (fu ns1) (fu ns0)) (fu ns3) kd kw) t):pK ns3 kd kw:=by
 refine Yg b3 λM=>Classical.byContradiction λhne=>?_;obtain⟨n0,r0,e0⟩:=List.exists_cons_of_ne_nil h0;obtain⟨n1,r1,e1⟩:=List.exists_cons_of_ne_nil h1;have i0:n0∈ns0:=by rw[e0];exact bF
 have i1:n1∈ns1:=by rw[e1];exact bF
 have l0:=b0 n0 i0;have l1:=b1 n1 i1;have tm:=AD (h:=fu ns1) (m:=fu ns0) (r:=60*n1.toNat+n0.toNat) (jK _) hb.1 (jK _) (by
  rw[show (60*n1.toNat+n0.toNat) / 60=n1.toNat by omega,jE];exact cN.mpr ⟨n1,i1,eY rfl⟩) (by
  rw[show (60*n1.toNat+n0.toNat)%60=n0.toNat by omega,jE];exact cN.mpr ⟨n0,i0,eY rfl⟩)
 obtain⟨t,_,_,ht⟩:=wQ (yx (jK _) hb.1 (jK _) hb.2) ⋯ tm hne od ow;exact no t ht
theorem MkD.keepN{H H':Hp}(s:SameN H H'){v:V}{k:Mk}(h:MkD H v k):MkD H' v k:=by
 obtain⟨u,x,y,tw,e,hu,h⟩:=h;refine⟨u,x,y,tw,e,s _ _ (λ_ z=>by cases z) hu,?_⟩;cases k with
 |num m=>obtain⟨e,a,ns,e2,ha,r⟩:=h;exact⟨e,a,ns,e2,s _ _ (λ_ z=>by cases z) ha,r⟩
 |wkd m=>obtain⟨e,a,ns,e2,ha,r⟩:=h;exact⟨e,a,ns,e2,s _ _ (λ_ z=>by cases z) ha,r⟩
 |_=>exact h
theorem MV.keepN{H H':Hp}(s:SameN H H'){v:V}{ko:Ko}(h:MV H v ko):MV H' v ko:=by
 rcases h with h | ⟨a,us,ks,e,e2,ha,hP,ok⟩
 ·exact .inl h
 ·exact .inr ⟨a,us,ks,e,e2,s _ _ (λ_ z=>by cases z) ha,Paired.mapP hP (λ_ _ z=>z.keepN s),ok⟩
theorem LS.keepN{H H':Hp}{s:Addr}{ns0 ns1 ns3:List Int}{kd kw:Ko}(e:SameN H H')(h:LS H s ns0 ns1 ns3 kd kw):LS H' s ns0 ns1 ns3 kd kw:=by
 obtain⟨x0,v3,v5,a0,a1,a3,h1,h2,h3,h4,h5,h6,h7⟩:=h;exact⟨x0,v3,v5,a0,a1,a3,e _ _ (λ_ z=>by cases z) h1,e _ _ (λ_ z=>by cases z) h2,e _ _ (λ_ z=>by cases z) h3,e _ _ (λ_ z=>by cases z) h4,h5.keepN e,h6.keepN e,h7⟩
inductive OC (K:FG) (vs:List V) (H:Hp) (Q:VK) (E:XK):Prop
 |mk (y:Int) (_:vs=[.int y]) (_:Q (.bl (io y)) H)
inductive RP (K:FG) (vs:List V) (H:Hp) (Q:VK) (E:XK):Prop
 |mk (y z:Int) (_:vs=[.int y,.int z]) (_:(0<z/\z<1073741824)) (_:Q (.int (mb y z)) H)
inductive al9 (K:FG) (vs:List V) (H:Hp) (Q:VK) (E:XK):Prop
 |mk (y:Int) (_:vs=[.int y]) (_:Q (.int (db y)) H)
inductive M6 (K:FG) (vs:List V) (H:Hp) (Q:VK) (E:XK):Prop
 |mk (y m:Int) (_:vs=[.int y,.int m]) (_:(1<=m/\m<=12)) (_:Q (.int (fK y m)) H)
inductive Lb (K:FG) (vs:List V) (H:Hp) (Q:VK) (E:XK):Prop
 |mk (i:Int) (_:vs=[.int i]) (_:Q (.bl true) H)
inductive OY (K:FG) (vs:List V) (H:Hp) (Q:VK) (E:XK):Prop
 |mk (y m k:Int) (_:vs=[.int y,.int m,.int k]) (_:((1<=m/\m<=12)/\1<=k/\k<=fK y m)) (_:Q (.bl true) H)
inductive HD (K:FG) (vs:List V) (H:Hp) (Q:VK) (E:XK):Prop
 |mk (y m k:Int) (_:vs=[.int y,.int m,.int k]) (_:((1<=m/\m<=12)/\1<=k/\k<=fK y m)) (_:∀H',Same H H'->Q (.int (db y+ahead y m+k-1)) H')
inductive IL (K:FG) (vs:List V) (H:Hp) (Q:VK) (E:XK):Prop
 |mk (d:Int) (_:vs=[.int d]) (_:∀y:Int,db y<=d->d<db (y+1)->Q (.int y) H)
inductive RD (K:FG) (vs:List V) (H:Hp) (Q:VK) (E:XK):Prop
 |mk (d:Int) (_:vs=[.int d]) (_:∀(y m k:Int) (p:Addr) (H':Hp),il y m k->gJ y m k=d->Same H H'->H' p=some (.tup [.int y,.int m,.int k])->Q (.ref p) H')
inductive Z0 (K:FG) (vs:List V) (H:Hp) (Q:VK) (E:XK):Prop
 |mk (d:Int) (_:vs=[.int d]) (_:Q (.int ((d+6)%7)) H)
inductive MC (K:FG) (vs:List V) (H:Hp) (Q:VK) (E:XK):Prop
 |mk (y m d:Int) (_:vs=[.int y,.int m,.int d]) (_:Q (.int (7*jH y m+(d+6)%7)) H)
inductive IR (K:FG) (vs:List V) (H:Hp) (Q:VK) (E:XK):Prop
 |mk (y m:Int) (_:vs=[.int y,.int m]) (_:(1<=m/\m<=12)) (_:∀H':Hp,Same H H'->Q (.int (kindOf y m)) H')
inductive V2 (K:FG) (vs:List V) (H:Hp) (Q:VK) (E:XK):Prop
 |mk (mo:Int) (_:vs=[.int mo]) (_:∀(p:Addr) (H':Hp),Same H H'->H' p=some (.tup [.int (mo / 1440),.int (mo%1440 / 60),.int (mo%1440%60)])->Q (.ref p) H')
inductive Wd (K:FG) (vs:List V) (H:Hp) (Q:VK) (E:XK):Prop
 |mk (l:List Nat) (_:vs=[.str (Tx l)]) (_:l.length<=2000) (_:∀H',Same H H'->Q (.bl (mj l)) H')
inductive Qo (K:FG) (vs:List V) (H:Hp) (Q:VK) (E:XK):Prop
 |mk (l:List Nat) (_:vs=[.str (Tx l)]) (_:l.length<=2000) (_:∀H',Same H H'->Q (.bl (iS l)) H')
inductive Xj (K:FG) (vs:List V) (H:Hp) (Q:VK) (E:XK):Prop
 |mk (m n:Int) (_:vs=[.int m,.int n]) (_:(0<=m/\0<=n)) (_:Q (.bl (tb m n.toNat)) H)
inductive QM (K:FG) (vs:List V) (H:Hp) (Q:VK) (E:XK):Prop
 |mk (a:Addr) (zs:List Int) (_:vs=[.ref a]) (_:SqL K H a (zs.map V.int)) (_:(∀z∈zs,0<=z/\z<=100000)) (_:Q (.int (fu zs)) H)
inductive Zy (K:FG) (vs:List V) (H:Hp) (Q:VK) (E:XK):Prop
 |mk (m:Int) (_:vs=[.int m]) (_:(0<=m/\Builtin.Int.intBits m<=100000)) (_:∀(p:Addr) (H':Hp),Same H H'->H' p=some (.lst ((mG m).map V.int))->Q (.ref p) H')
inductive Ht (K:FG) (vs:List V) (H:Hp) (Q:VK) (E:XK):Prop
 |mk (a b s:Int) (_:vs=[.int a,.int b,.int s]) (_:(0<=a/\a<=1000)) (_:(-1<=b/\b<=1000)) (_:(0<s/\s<=1000)) (_:∀H',Same H H'->Q (.int (kT a b s)) H')
inductive anJ (K:FG) (vs:List V) (H:Hp) (Q:VK) (E:XK):Prop
 |mk (l:List Nat) (lo hi:Int) (_:vs=[.str (Tx l),.int lo,.int hi]) (_:l.length<=600) (_:∀H',Same H H'->Q (oV (gI lo hi l)) H')
inductive Xy (K:FG) (vs:List V) (H:Hp) (Q:VK) (E:XK):Prop
 |mk (l:List Nat) (lo hi:Int) (_:vs=[.str (Tx l),.int lo,.int hi]) (_:l.length<=500) (_:∀(r:V) (H':Hp),Same H H'->wm H' r (iP lo hi l)->Q r H')
inductive O2 (K:FG) (vs:List V) (H:Hp) (Q:VK) (E:XK):Prop
 |mk (r s:List Nat) (lo hi:Int) (_:vs=[.str (Tx r),.str (Tx s),.int lo,.int hi]) (_:r.length<=400) (_:s.length<=400) (_:(0<=lo/\lo<=hi/\hi<=1000)) (_:∀H',Same H H'->Q (oV (kc lo hi r s)) H')
inductive apT (K:FG) (vs:List V) (H:Hp) (Q:VK) (E:XK):Prop
 |mk (l:List Nat) (lo hi:Int) (_:vs=[.str (Tx l),.int lo,.int hi]) (_:l.length<=300) (_:(0<=lo/\lo<=hi/\hi<=1000)) (_:∀H',Same H H'->Q (oV (gG lo hi l)) H')
inductive M4 (K:FG) (vs:List V) (H:Hp) (Q:VK) (E:XK):Prop
 |mk (l:List Nat) (lo hi:Int) (_:vs=[.str (Tx l),.int lo,.int hi]) (_:l.length<=300) (_:(0<=lo/\lo<=hi/\hi<=1000)) (_:C8 lo hi l) (_:∀H',Same H H'->Q (.int (gz (lP lo hi l))) H')
inductive To (K:FG) (vs:List V) (H:Hp) (Q:VK) (E:XK):Prop
 |mk (d f:Int) (_:vs=[.int d,.int f]) (_:Q (.int ((f+d-1)%7)) H)
inductive Qm (K:FG) (vs:List V) (H:Hp) (Q:VK) (E:XK):Prop
 |mk (l:Int) (_:vs=[.int l]) (_:(28<=l/\l<=31)) (_:Q (.int (2*2^l.toNat-2)) H)
inductive Tp (K:FG) (vs:List V) (H:Hp) (Q:VK) (E:XK):Prop
 |mk (d l f:Int) (_:vs=[.int d,.int l,.int f]) (_:Q (.int (nw d l f)) H)
inductive Wy (K:FG) (vs:List V) (H:Hp) (Q:VK) (E:XK):Prop
 |mk (w f:Int) (_:vs=[.int w,.int f]) (_:Q (.int (1+(w-f)%7)) H)
inductive VB (K:FG) (C:Addr) (vs:List V) (H:Hp) (Q:VK) (E:XK):Prop
 |mk (p:Addr) (l f:Int) (_:vs=[.ref p,.int l,.int f]) (_:Q (.int 0) H)
inductive Lo (K:FG) (C:Addr) (vs:List V) (H:Hp) (Q:VK) (E:XK):Prop
 |mk (p dx:Addr) (m:Int) (_:vs=[.ref p,.int m]) (_:H p=some (.ins C dx [])) (_:Q .non (upd H p (.ins C dx [("mask",.int m)])))
inductive X7 (K:FG) (C:Addr) (vs:List V) (H:Hp) (Q:VK) (E:XK):Prop
 |mk (p dx:Addr) (m l f:Int) (_:vs=[.ref p,.int l,.int f]) (_:H p=some (.ins C dx [("mask",.int m)])) (_:Lf l f) (_:Q (.int (j7 m l)) H)
inductive TY (K:FG) (C:Addr) (vs:List V) (H:Hp) (Q:VK) (E:XK):Prop
 |mk (p dx:Addr) (m:Int) (_:vs=[.ref p,.int m]) (_:H p=some (.ins C dx [])) (_:Q .non (upd H p (.ins C dx [("back",.int m)])))
inductive W3 (K:FG) (C:Addr) (vs:List V) (H:Hp) (Q:VK) (E:XK):Prop
 |mk (p dx:Addr) (b l f:Int) (_:vs=[.ref p,.int l,.int f]) (_:H p=some (.ins C dx [("back",.int b)])) (_:(0<=b/\b<=30)) (_:Lf l f) (_:Q (.int (l8 b l)) H)
inductive Kl (K:FG) (C:Addr) (vs:List V) (H:Hp) (Q:VK) (E:XK):Prop
 |mk (p dx:Addr) (m:Int) (_:vs=[.ref p,.int m]) (_:H p=some (.ins C dx [])) (_:Q .non (upd H p (.ins C dx [("day",.int m)])))
inductive Sy (K:FG) (C:Addr) (vs:List V) (H:Hp) (Q:VK) (E:XK):Prop
 |mk (p dx:Addr) (d l f:Int) (_:vs=[.ref p,.int l,.int f]) (_:H p=some (.ins C dx [("day",.int d)])) (_:sY d l f) (_:Q (.int (lR d l f)) H)
inductive ajT (K:FG) (C:Addr) (vs:List V) (H:Hp) (Q:VK) (E:XK):Prop
 |mk (p dx:Addr) (l f:Int) (_:vs=[.ref p,.int l,.int f]) (_:H p=some (.ins C dx [])) (_:sY l l f) (_:Q (.int (1*2^(nw l l f).toNat)) H)
inductive Ki (K:FG) (C:Addr) (vs:List V) (H:Hp) (Q:VK) (E:XK):Prop
 |mk (p dx:Addr) (m:Int) (_:vs=[.ref p,.int m]) (_:H p=some (.ins C dx [])) (_:Q .non (upd H p (.ins C dx [("mask",.int m)])))
inductive R7 (K:FG) (C:Addr) (vs:List V) (H:Hp) (Q:VK) (E:XK):Prop
 |mk (p dx:Addr) (m l f:Int) (_:vs=[.ref p,.int l,.int f]) (_:H p=some (.ins C dx [("mask",.int m)])) (_:(0<=m/\m<=127)) (_:Lf l f) (_:Q (.int (jX m l f)) H)
inductive Oc (K:FG) (C:Addr) (vs:List V) (H:Hp) (Q:VK) (E:XK):Prop
 |mk (p dx:Addr) (w m:Int) (_:vs=[.ref p,.int w,.int m]) (_:H p=some (.ins C dx [])) (_:Q .non (upd (upd H p (.ins C dx (gd "weekday" (.int w) []))) p (.ins C dx (mD w m))))
inductive Z4 (K:FG) (C:Addr) (vs:List V) (H:Hp) (Q:VK) (E:XK):Prop
 |mk (p dx:Addr) (w m l f:Int) (_:vs=[.ref p,.int l,.int f]) (_:H p=some (.ins C dx (mD w m))) (_:(0<=w/\w<=6)) (_:(1<=m/\m<=5)) (_:Lf l f) (_:Q (.int (jY w m l f)) H)
inductive O1 (K:FG) (C:Addr) (vs:List V) (H:Hp) (Q:VK) (E:XK):Prop
 |mk (p dx:Addr) (m:Int) (_:vs=[.ref p,.int m]) (_:H p=some (.ins C dx [])) (_:Q .non (upd H p (.ins C dx [("weekday",.int m)])))
inductive Nf (K:FG) (C:Addr) (vs:List V) (H:Hp) (Q:VK) (E:XK):Prop
 |mk (p dx:Addr) (w l f:Int) (_:vs=[.ref p,.int l,.int f]) (_:H p=some (.ins C dx [("weekday",.int w)])) (_:(0<=w/\w<=6)) (_:Lf l f) (_:Q (.int (zo w l f)) H)
inductive T6 (K:FG) (aB aE aF aH aD aA aG aI:Addr) (vs:List V) (H:Hp) (Q:VK) (E:XK):Prop
 |mk (b:Addr) (ps:List Addr) (ks:List Mk) (l f:Int) (_:vs=[.ref b,.int l,.int f]) (_:SqL K H b (ps.map V.ref)) (_:Ft (MkAt (⟨aB,aE,aF,aH,aD,aA,aG,aI⟩:Cs) H) ps ks) (_:(∀k∈ks,k.ok)) (_:Lf l f) (_:Q (.int (i8 ks l f)) H)
inductive YU (K:FG) (aB aE aF aH aD aA aG aI:Addr) (vs:List V) (H:Hp) (Q:VK) (E:XK):Prop
 |mk (t:List Nat) (_:vs=[.str (Tx t)]) (_:t.length<=300) (_:∀(v:V) (H':Hp),Same H H'->BU (⟨aB,aE,aF,aH,aD,aA,aG,aI⟩:Cs) H' v (j9 t)->Q v H')
inductive IX (K:FG) (vs:List V) (H:Hp) (Q:VK) (E:XK):Prop
 |mk (t:List Nat) (_:vs=[.str (Tx t)]) (_:t.length<=300) (_:∀H',Same H H'->Q (oV (lj t)) H')
inductive Su (K:FG) (aB aE aF aH aD aA aG aI:Addr) (vs:List V) (H:Hp) (Q:VK) (E:XK):Prop
 |mk (t:List Nat) (_:vs=[.str (Tx t)]) (_:t.length<=300) (_:∀(v:V) (H':Hp),Same H H'->BU (⟨aB,aE,aF,aH,aD,aA,aG,aI⟩:Cs) H' v (mx t)->Q v H')
inductive LH (K:FG) (aB aE aF aH aD aA aG aI aM aO:Addr) (vs:List V) (H:Hp) (Q:VK) (E:XK):Prop
 |mk (l:List Nat) (lo hi:Int) (wk:Bool) (_:vs=[.str (Tx l),.int lo,.int hi,.ref (if wk=true then aO else aM)]) (_:(0<=lo/\lo<=hi/\hi<=1000)) (_:gY wk lo hi l) (_:∀(p m:Addr) (qs:List Addr) (H':Hp),H m=none->Same H H'->H' p=some (.tup [.int (gz (ic lo hi (fO 44 l))),.ref m])->H' m=some (.lst (qs.map V.ref))->Ft (MkAt (⟨aB,aE,aF,aH,aD,aA,aG,aI⟩:Cs) H') qs (iG wk lo hi (fO 44 l))->Q (.ref p) H')
inductive VE (K:FG) (aB aE aF aH aD aA aG aI:Addr) (vs:List V) (H:Hp) (Q:VK) (E:XK):Prop
 |mk (l:List Nat) (_:vs=[.str (Tx l)]) (_:gY false 1 31 l) (_:(l=[42]->∀H',Same H H'->Q .non H')) (_:(l≠[42]->∀(m:Addr) (qs:List Addr) (H':Hp),H m=none->Same H H'->H' m=some (.lst (qs.map V.ref))->Ft (MkAt (⟨aB,aE,aF,aH,aD,aA,aG,aI⟩:Cs) H') qs (nQ false 1 31 l)->Q (.ref m) H'))
inductive NA (K:FG) (aB aE aF aH aD aA aG aI:Addr) (vs:List V) (H:Hp) (Q:VK) (E:XK):Prop
 |mk (l:List Nat) (_:vs=[.str (Tx l)]) (_:gY true 0 7 l) (_:(l=[42]->∀H',Same H H'->Q .non H')) (_:(l≠[42]->∀(m:Addr) (qs:List Addr) (H':Hp),H m=none->Same H H'->H' m=some (.lst (qs.map V.ref))->Ft (MkAt (⟨aB,aE,aF,aH,aD,aA,aG,aI⟩:Cs) H') qs (nQ true 0 7 l)->Q (.ref m) H'))
inductive OA (K:FG) (vs:List V) (H:Hp) (Q:VK) (E:XK):Prop
 |mk (k:Int) (_:vs=[.int k]) (_:(0<=k/\k<=90)) (_:∀(p:Addr) (H':Hp),Same H H'->H' p=some (.tup ((nK k).map V.int))->Q (.ref p) H')
inductive Ot (K:FG) (vs:List V) (H:Hp) (Q:VK) (E:XK):Prop
 |mk (h m:Int) (_:vs=[.int h,.int m]) (_:(0<=h/\h<2^24)) (_:(0<=m/\m<2^60)) (_:∀(t:Int) (H':Hp),t=gC h m->Same H H'->Q (.int t) H')
inductive JQ (K:FG) (aB aE aF aH aD aA aG aI:Addr) (vs:List V) (H:Hp) (Q:VK) (E:XK):Prop
 |mk (dv wv:V) (kd kw:Ko) (l f:Int) (_:vs=[dv,wv,.int l,.int f]) (_:DV (⟨aB,aE,aF,aH,aD,aA,aG,aI⟩:Cs) H dv kd) (_:DV (⟨aB,aE,aF,aH,aD,aA,aG,aI⟩:Cs) H wv kw) (_:Lf l f) (_:∀H',Same H H'->Q (.int (gg kd kw l f)) H')
inductive ZN (K:FG) (C:Addr) (vs:List V) (H:Hp) (Q:VK) (E:XK):Prop
 |mk (p dx fa:Addr) (m0 m1 m3:Int) (dv wv:V) (_:vs=[.ref p,.ref fa]) (_:H p=some (.ins C dx [])) (_:H fa=some (.lst [.int m0,.int m1,dv,.int m3,wv])) (_:(0<=m0/\m0<2^60)) (_:(0<=m1/\m1<2^24)) (_:∀(tm:Int) (H':Hp),tm=gC m1 m0->H' p=some (.ins C dx (g8 m0 m1 dv m3 wv tm))->(∀b o,H b=some o->b≠p->H' b=some o)->Q .non H')
inductive SF (K:FG) (C:Addr) (aB aE aF aH aD aA aG aI:Addr) (vs:List V) (H:Hp) (Q:VK) (E:XK):Prop
 |mk (p dx:Addr) (m0 m1 m3 tm k:Int) (dv wv:V) (kd kw:Ko) (_:vs=[.ref p,.int k]) (_:H p=some (.ins C dx (g8 m0 m1 dv m3 wv tm))) (_:(0<=k/\k<=90)) (_:0<=m3) (_:DV (⟨aB,aE,aF,aH,aD,aA,aG,aI⟩:Cs) H dv kd) (_:DV (⟨aB,aE,aF,aH,aD,aA,aG,aI⟩:Cs) H wv kw) (_:∀H',Same H H'->Q (.int (if tb m3 (iY k).toNat=true then gg kd kw (gZ k) (k%7) else 0)) H')
inductive Wn (K:FG) (aB aE aF aH aD aA aG aI:Addr) (vs:List V) (H:Hp) (Q:VK) (E:XK):Prop
 |mk (t:List Nat) (pl:Int) (_:vs=[.str (Tx t),.int pl]) (_:((pl=2/\∃ko,DT false t ko/\∀(v:V) (H':Hp),Same H H'->DV (⟨aB,aE,aF,aH,aD,aA,aG,aI⟩:Cs) H' v (gO false ko)->(∀p,v=.ref p->H p=none)->Q v H')∨(pl=4/\∃ko,DT true t ko/\∀(v:V) (H':Hp),Same H H'->DV (⟨aB,aE,aF,aH,aD,aA,aG,aI⟩:Cs) H' v (gO true ko)->(∀p,v=.ref p->H p=none)->Q v H')∨(∃lo hi m:Int,(pl=0/\lo=0/\hi=59∨pl=1/\lo=0/\hi=23∨pl=3/\lo=1/\hi=12)/\FT lo hi t m/\∀H',Same H H'->Q (.int m) H')))
inductive HC (K:FG) (aB aE aF aH aD aA aG aI:Addr) (vs:List V) (H:Hp) (Q:VK) (E:XK):Prop
 |mk (t:List Nat) (pl:Int) (_:vs=[.str (Tx t),.int pl]) (_:((pl=2/\∃ko,DT false t ko/\∀(v:V) (H':Hp),Same H H'->DV (⟨aB,aE,aF,aH,aD,aA,aG,aI⟩:Cs) H' v (gO false ko)->(∀p,v=.ref p->H p=none)->Q v H')∨(pl=4/\∃ko,DT true t ko/\∀(v:V) (H':Hp),Same H H'->DV (⟨aB,aE,aF,aH,aD,aA,aG,aI⟩:Cs) H' v (gO true ko)->(∀p,v=.ref p->H p=none)->Q v H')∨(∃lo hi m:Int,(pl=0/\lo=0/\hi=59∨pl=1/\lo=0/\hi=23∨pl=3/\lo=1/\hi=12)/\FT lo hi t m/\∀H',Same H H'->Q (.int m) H')))
inductive X5 (K:FG) (aB aE aF aH aD aA aG aI aJ:Addr) (vs:List V) (H:Hp) (Q:VK) (E:XK):Prop
 |mk (w0 w1 w2 w3 w4:List Nat) (m0 m1 m3:Int) (kd kw:Ko) (_:vs=[.str (Tx (gK 32 [w0,w1,w2,w3,w4]))]) (_:FT 0 59 w0 m0) (_:FT 0 23 w1 m1) (_:FT 1 12 w3 m3) (_:DT false w2 kd) (_:DT true w4 kw) (_:(m0<2^60/\m1<2^24)) (_:∀(x dx:Addr) (dv wv:V) (tm:Int) (H':Hp),tm=gC m1 m0->Same H H'->H' x=some (.ins aJ dx (g8 m0 m1 dv m3 wv tm))->DV (⟨aB,aE,aF,aH,aD,aA,aG,aI⟩:Cs) H' dv (gO false kd)->DV (⟨aB,aE,aF,aH,aD,aA,aG,aI⟩:Cs) H' wv (gO true kw)->Q (.ref x) H')
inductive Mb (K:FG) (C:Addr) (aB aE aF aH aD aA aG aI:Addr) (vs:List V) (H:Hp) (Q:VK) (E:XK):Prop
 |mk (p dx:Addr) (m0 m1 m3 tm mo:Int) (dv wv:V) (kd kw:Ko) (_:vs=[.ref p,.int mo]) (_:H p=some (.ins C dx (g8 m0 m1 dv m3 wv tm))) (_:(0<=m0/\0<=m1/\0<=m3)) (_:DV (⟨aB,aE,aF,aH,aD,aA,aG,aI⟩:Cs) H dv kd) (_:DV (⟨aB,aE,aF,aH,aD,aA,aG,aI⟩:Cs) H wv kw) (_:∀(y m k:Int) (H':Hp),il y m k->gJ y m k=mo / 1440->Same H H'->Q (iy m0 m1 m3 kd kw (mo / 1440) (mo%1440) y m k) H')
inductive alA (K:FG) (vs:List V) (H:Hp) (Q:VK) (E:XK):Prop
 |mk (N:Int) (_:vs=[.int (N / 12),.int (N%12+1)]) (_:∀(t:Addr) (H':Hp),Same H H'->H' t=some (.tup [.int ((N-1) / 12),.int ((N-1)%12+1)])->Q (.ref t) H')
inductive Of (K:FG) (vs:List V) (H:Hp) (Q:VK) (E:XK):Prop
 |mk (mo:Int) (_:vs=[.int mo]) (_:∀(N:Int) (t:Addr) (H':Hp),Same H H'->1440*gj N<=mo->mo<1440*gj (N+1)->H' t=some (.tup [.int (N / 12),.int (N%12+1)])->Q (.ref t) H')
inductive Tr (K:FG) (vs:List V) (H:Hp) (Q:VK) (E:XK):Prop
 |mk (d:Addr) (ts:List Int) (_:vs=[.ref d]) (_:SqL K H d (ts.map V.int)) (_:ts.length<=31) (_:(∀t∈ts,mY t)) (_:∀H',Same H H'->Q (.int (lZ (λj=>ts.getD j 0) ts.length)) H')
inductive VT (K:FG) (vs:List V) (H:Hp) (Q:VK) (E:XK):Prop
 |mk (m:Int) (k:Nat) (_:vs=[.int m]) (_:0<m) (_:tb m k=true) (_:(∀j,j<k->tb m j=false)) (_:Q (.int k) H)
inductive L5 (K:FG) (aB aE aF aH aD aA aG aI aJ:Addr) (vs:List V) (H:Hp) (Q:VK) (E:XK):Prop
 |mk (tw:List Nat) (p dx:Addr) (m0 m1 m3 tm d:Int) (dv wv:V) (kd kw:Ko) (_:vs=[.ref p,.int d]) (_:H p=some (.ins aJ dx (g8 m0 m1 dv m3 wv tm))) (_:(0<=m0/\0<=m1/\0<=m3)) (_:DV (⟨aB,aE,aF,aH,aD,aA,aG,aI⟩:Cs) H dv kd) (_:DV (⟨aB,aE,aF,aH,aD,aA,aG,aI⟩:Cs) H wv kw) (_:qz m3 kd kw d tw) (_:∀(r:Int) (H':Hp),d<=r->(∀d',d<=d'->d'<=r->qz m3 kd kw d' tw)->Same H H'->Q (.int r) H')
inductive Mu (K:FG) (aB aE aF aH aD aA aG aI aJ:Addr) (vs:List V) (H:Hp) (Q:VK) (E:XK):Prop
 |mk (p dx:Addr) (tw:List Nat) (m0 m1 m3 tm d:Int) (dv wv:V) (kd kw:Ko) (_:vs=[.ref p,.int d,.str (Tx tw)]) (_:H p=some (.ins aJ dx (g8 m0 m1 dv m3 wv tm))) (_:(0<=m0/\0<=m1/\0<=m3)) (_:DV (⟨aB,aE,aF,aH,aD,aA,aG,aI⟩:Cs) H dv kd) (_:DV (⟨aB,aE,aF,aH,aD,aA,aG,aI⟩:Cs) H wv kw) (_:jl m0 m1 m3 kd kw d (.str (Tx tw))) (_:∀(r:Int) (H':Hp),d<=r->(tw≠[109,105,110,117,116,101]->(r+1)%60=0)->(∀t,d<=t->t<=r->jl m0 m1 m3 kd kw t (.str (Tx tw)))->Same H H'->Q (.int r) H')
inductive Ie (K:FG) (vs:List V) (H:Hp) (Q:VK) (E:XK):Prop
 |mk (p:Addr) (vs':List V) (sts:List gX) (a b:Int) (tm:List Nat) (_:vs=[.ref p,.int a,.int b,.str (Tx tm)]) (_:H p=some (.lst vs')) (_:Paired (kZ H) vs' sts) (_:vs'.length<=10000000) (_:∀H' us,H' p=some (.lst us)->Paired (kZ H') us (jO sts a b tm)->(∀q o,q≠p->H q=some o->H' q=some o)->Q .non H')
inductive Zg (K:FG) (aB aE aF aH aD aA aG aI aJ:Addr) (vs:List V) (H:Hp) (Q:VK) (E:XK):Prop
 |mk (p:Addr) (b e m0 m1 m3:Int) (kd kw:Ko) (_:vs=[.ref p,.int b,.int e]) (_:RowR (⟨aB,aE,aF,aH,aD,aA,aG,aI⟩:Cs) aJ H p m0 m1 m3 kd kw) (_:(∀t,b<=t->t<=e->¬ip (gy (gC m1 m0) m3 kd kw) t)) (_:e-b<=23000000) (_:∀l us sts H',H l=none->Same H H'->H' l=some (.lst us)->Paired (kZ H') us sts->us.length<=10000000->(b<=e+1->jB m0 m1 m3 kd kw b sts (e+1))->(e<b->us=[])->Q (.ref l) H')
inductive C4 (K:FG) (C:Addr) (aB aE aF aH aD aA aG aI:Addr) (vs:List V) (H:Hp) (Q:VK) (E:XK):Prop
 |mk (p dx:Addr) (m0 m1 m3 tm k:Int) (dv wv:V) (kd kw:Ko) (_:vs=[.ref p,.int k]) (_:H p=some (.ins C dx (g8 m0 m1 dv m3 wv tm))) (_:(0<=k/\k<=90)) (_:0<=m3) (_:DV (⟨aB,aE,aF,aH,aD,aA,aG,aI⟩:Cs) H dv kd) (_:DV (⟨aB,aE,aF,aH,aD,aA,aG,aI⟩:Cs) H wv kw) (_:∀D H',Same H H'->H' D=some (.lst ((jA (gy tm m3 kd kw) k).map V.int))->Q (.ref D) H')
inductive K4 (P:Program) (w:World) (mg:Str->Option Value) (base:Heap) (K:FG) (vs:List V) (H:Hp) (Q:VK) (E:XK):Prop
 |mk (kn f:Addr) (kd:Int) (kvs:List (gc×V)) (g:Int->Nat->Int) (H0:Hp) (_:vs=[.ref kn,.ref f,.int kd]) (_:(0<=kd/\kd<=90)) (_:H kn=some (.dK kvs)) (_:qt g kvs) (_:kvs.length<=1000) (_:jS g) (_:H0 kn=none) (_:Same H0 H) (_:yb P w K mg base 8 H0 f g) (_:∀kvs' H',H' kn=some (.dK kvs')->qt g kvs'->kvs'.length<=kvs.length+1->(∀b o,b≠kn->H b=some o->H' b=some o)->Q (.int (wK g kd)) H')
inductive Ow (P:Program) (w:World) (mg:Str->Option Value) (base:Heap) (K:FG) (vs:List V) (H:Hp) (Q:VK) (E:XK):Prop
 |mk (f:Addr) (mo:Int) (g:Int->Nat->Int) (_:vs=[.ref f,.int mo]) (_:jS g) (_:yb P w K mg base 8 H f g) (_:(∀e H',Same H H'->ip g e->e<=mo->(∀t,e<t->t<=mo->¬ip g t)->mo-e<=22000000->Q (.int e) H')) (_:(∀H',Same H H'->(∀t,¬ip g t)->Q .non H'))
inductive Lj (K:FG) (aB aE aF aH aD aA aG aI aJ aK aL:Addr) (vs:List V) (H:Hp) (Q:VK) (E:XK):Prop
 |mk (p:Addr) (mo m0 m1 m3:Int) (kd kw:Ko) (_:vs=[.ref p,.int mo]) (_:RowR (⟨aB,aE,aF,aH,aD,aA,aG,aI⟩:Cs) aJ H p m0 m1 m3 kd kw) (_:m8 H aK aL) (_:∀t l us H' (v:V),SameN H H'->m8 H' aK aL->GB H l->H' t=some (.tup [v,.ref l])->H' l=some (.lst us)->((∃e,v=.int e/\ip (gy (gC m1 m0) m3 kd kw) e/\(e<=mo/\∀t,e<t->t<=mo->¬ip (gy (gC m1 m0) m3 kd kw) t)/\(e=mo->us=[])/\us.length<=10000000/\∃sts,Paired (kZ H') us sts/\jB m0 m1 m3 kd kw (e+1) sts (mo+1))∨(v=.non/\us=[]/\∀t,¬ip (gy (gC m1 m0) m3 kd kw) t))->Q (.ref t) H')
inductive Pk (K:FG) (vs:List V) (H:Hp) (Q:VK) (E:XK):Prop
 |mk (a:Addr) (k:Int) (_:vs=[.ref a,.int k]) (_:(∃ns:List Int,SqL K H a (ns.map V.int))) (_:(0<=k/\k<1000)) (_:∀c:Int,Q (.int c) H)
inductive Om (K:FG) (vs:List V) (H:Hp) (Q:VK) (E:XK):Prop
 |mk (n:Int) (_:vs=[.int n]) (_:∀r:Int,0<=r->r<2147483629->Q (.int r) H)
inductive Jo (K:FG) (vs:List V) (H:Hp) (Q:VK) (E:XK):Prop
 |mk (c:Int) (a:Addr) (b:Bool) (ss:List Int) (_:vs=[.int c,.ref a,.bl b]) (_:SqL K H a (ss.map V.int)) (_:(∀z∈ss,0<z/\z<1073741824)) (_:ss.length<=63) (_:∀(ds:List Int) (p:Addr) (H':Hp),Same H H'->H' p=some (.lst (ds.map V.int))->Digs ds ss->Q (.ref p) H')
inductive Nq (K:FG) (vs:List V) (H:Hp) (Q:VK) (E:XK):Prop
 |mk (p:Addr) (fm fi la st lo hi:Int) (_:vs=[.ref p,.int lo,.int hi]) (_:SqL K H p [.int fm,.int fi,.int la,.int st]) (_:(0<=lo/\lo<=hi/\hi<=63)) (_:∀(t u:Addr) (tw:List Nat) (ns:List Int) (H':Hp),Same H H'->H' t=some (.tup [.str (Tx tw),.ref u])->H' u=some (.lst (ns.map V.int))->kP lo hi tw ns->g9 tw->Q (.ref t) H')
inductive Rt (K:FG) (vs:List V) (H:Hp) (Q:VK) (E:XK):Prop
 |mk (c lo hi:Int) (bm:Bool) (_:vs=[.int c,.int lo,.int hi,.bl bm]) (_:(0<=lo/\lo<hi/\hi<=62)) (_:∀(t N:Addr) (tw:List Nat) (ns:List Int) (H':Hp),Same H H'->H' t=some (.tup [.str (Tx tw),.ref N])->H' N=some (.lst (ns.map V.int))->(∀n∈ns,lo<=n/\n<=hi)->ns≠[]->ns.length<=200->FT lo hi tw (fu ns)->Q (.ref t) H')
inductive Jz (K:FG) (vs:List V) (H:Hp) (Q:VK) (E:XK):Prop
 |mk (y:Int) (_:vs=[.int y]) (_:Q (.int (db y)) H)
inductive OI (K:FG) (vs:List V) (H:Hp) (Q:VK) (E:XK):Prop
 |mk (c:Int) (bm:Bool) (_:vs=[.int c,.bl bm]) (_:∀(mo:Int) (H':Hp),Same H H'->Q (.int mo) H')
inductive KU (K:FG) (vs:List V) (H:Hp) (Q:VK) (E:XK):Prop
 |mk (c:Int) (bm:Bool) (_:vs=[.int c,.bl bm]) (_:∀(t:Addr) (tw:List Nat) (v:V) (ko:Ko) (H':Hp),Same H H'->H' t=some (.tup [.str (Tx tw),v])->DT false tw ko->MV H' v ko->Q (.ref t) H')
inductive QK (K:FG) (vs:List V) (H:Hp) (Q:VK) (E:XK):Prop
 |mk (c:Int) (bm:Bool) (_:vs=[.int c,.bl bm]) (_:∀(t:Addr) (tw:List Nat) (v:V) (ko:Ko) (H':Hp),Same H H'->H' t=some (.tup [.str (Tx tw),v])->DT true tw ko->MV H' v ko->Q (.ref t) H')
inductive T4 (K:FG) (vs:List V) (H:Hp) (Q:VK) (E:XK):Prop
 |mk (d l f:Int) (_:vs=[.int d,.int l,.int f]) (_:Lf l f) (_:Dl d l) (_:∀H',Same H H'->Q (.int (nw d l f)) H')
inductive SI (K:FG) (vs:List V) (H:Hp) (Q:VK) (E:XK):Prop
 |mk (v:V) (k:Mk) (d l f:Int) (_:vs=[v,.int d,.int l,.int f]) (_:MkD H v k) (_:k.ok) (_:Lf l f) (_:Dl d l) (_:∀H',Same H H'->Q (.bl (tb (k.due l f) d.toNat)) H')
inductive N9 (K:FG) (vs:List V) (H:Hp) (Q:VK) (E:XK):Prop
 |mk (a:Addr) (us:List V) (ks:List Mk) (d l f:Int) (_:vs=[.ref a,.int d,.int l,.int f]) (_:H a=some (.lst us)) (_:Paired (MkD H) us ks) (_:(∀k∈ks,k.ok)) (_:Lf l f) (_:Dl d l) (_:∀H',Same H H'->Q (.bl (ks.any λk=>tb (k.due l f) d.toNat)) H')
inductive TM (K:FG) (vs:List V) (H:Hp) (Q:VK) (E:XK):Prop
 |mk (s:Addr) (x0 x1 x2 v3 x4 v5:V) (kd kw:Ko) (d l f:Int) (_:vs=[.ref s,.int d,.int l,.int f]) (_:H s=some (.tup [x0,x1,x2,v3,x4,v5])) (_:MV H v3 kd) (_:MV H v5 kw) (_:Lf l f) (_:Dl d l) (_:∀H',Same H H'->Q (.bl (tb (gg kd kw l f) d.toNat)) H')
inductive Jr (K:FG) (vs:List V) (H:Hp) (Q:VK) (E:XK):Prop
 |mk (y m:Int) (_:vs=[.int y,.int m]) (_:(1<=m/\m<=12)) (_:∀H',Same H H'->Q (.int (fK y m)) H')
inductive NK (K:FG) (vs:List V) (H:Hp) (Q:VK) (E:XK):Prop
 |mk (d:Int) (_:vs=[.int d]) (_:∀(y m k:Int) (p:Addr) (H':Hp),il y m k->gJ y m k=d->Same H H'->H' p=some (.tup [.int m,.int k,.int (fK y m),.int ((d-k+1+6)%7)])->Q (.ref p) H')
inductive Lg (K:FG) (vs:List V) (H:Hp) (Q:VK) (E:XK):Prop
 |mk (s:Addr) (ns0 ns1 ns3:List Int) (kd kw:Ko) (d:Int) (_:vs=[.ref s,.int d]) (_:LS H s ns0 ns1 ns3 kd kw) (_:∀(y m k:Int) (H':Hp),il y m k->gJ y m k=d->Same H H'->Q (.str (Tx (l7 (fu ns3) kd kw d y m k))) H')
inductive XO (K:FG) (vs:List V) (H:Hp) (Q:VK) (E:XK):Prop
 |mk (s:Addr) (ns0 ns1 ns3:List Int) (kd kw:Ko) (t:Int) (_:vs=[.ref s,.int t]) (_:LS H s ns0 ns1 ns3 kd kw) (_:∀(y m k:Int) (H':Hp),il y m k->gJ y m k=t / 1440->Same H H'->Q (wN (iy (fu ns0) (fu ns1) (fu ns3) kd kw (t / 1440) (t%1440) y m k)) H')
inductive Rl (K:FG) (vs:List V) (H:Hp) (Q:VK) (E:XK):Prop
 |mk (i:Int) (_:vs=[.int i]) (_:Q (.bl true) H)
inductive Ja (K:FG) (vs:List V) (H:Hp) (Q:VK) (E:XK):Prop
 |mk (s:Addr) (ns0 ns1 ns3:List Int) (kd kw:Ko) (f l:Int) (_:vs=[.ref s,.int f,.int l]) (_:LS H s ns0 ns1 ns3 kd kw) (_:f<=l) (_:(∀t,f<=t->t<=l->jl (fu ns0) (fu ns1) (fu ns3) kd kw t (.str (Tx [109,111,110,116,104])))) (_:∀H',Same H H'->Q (.bl true) H')
inductive Xh (K:FG) (vs:List V) (H:Hp) (Q:VK) (E:XK):Prop
 |mk (s:Addr) (ns0 ns1 ns3:List Int) (kd kw:Ko) (f l:Int) (tw:List Nat) (_:vs=[.ref s,.int f,.int l,.str (Tx tw),.bl true]) (_:LS H s ns0 ns1 ns3 kd kw) (_:f<=l) (_:(∀t,f<=t->t<=l->jl (fu ns0) (fu ns1) (fu ns3) kd kw t (.str (Tx tw)))) (_:((tw=[104,111,117,114]/\l-f<1440)∨(tw=[109,105,110,117,116,101]/\l-f<60))) (_:∀H',Same H H'->Q (.bl true) H')
inductive Zc (K:FG) (vs:List V) (H:Hp) (Q:VK) (E:XK):Prop
 |mk (s:Addr) (ns0 ns1 ns3:List Int) (kd kw:Ko) (f l:Int) (tw:List Nat) (_:vs=[.ref s,.int f,.int l,.str (Tx tw),.bl true]) (_:LS H s ns0 ns1 ns3 kd kw) (_:f<=l) (_:(∀t,f<=t->t<=l->jl (fu ns0) (fu ns1) (fu ns3) kd kw t (.str (Tx tw)))) (_:(∃h,Hit (fu ns0) (fu ns1) (fu ns3) kd kw h)) (_:∀H',Same H H'->Q (.bl true) H')
inductive Zu (K:FG) (vs:List V) (H:Hp) (Q:VK) (E:XK):Prop
 |mk (t:Addr) (a b:Int) (w:List Nat) (_:vs=[.ref t]) (_:H t=some (.tup [.int a,.int b,.str (Tx w)])) (_:Q (.bl true) H)
inductive Xr (K:FG) (vs:List V) (H:Hp) (Q:VK) (E:XK):Prop
 |mk (s:Addr) (ns0 ns1 ns3:List Int) (kd kw:Ko) (b e:Int) (l:Addr) (us:List V) (sts:List gX) (_:vs=[.ref s,.int b,.int e,.ref l,.bl true]) (_:LS H s ns0 ns1 ns3 kd kw) (_:H l=some (.lst us)) (_:Paired (kZ H) us sts) (_:jB (fu ns0) (fu ns1) (fu ns3) kd kw b sts (e+1)) (_:(∃h,Hit (fu ns0) (fu ns1) (fu ns3) kd kw h)) (_:∀H',Same H H'->Q (.bl true) H')
inductive Va (K:FG) (vs:List V) (H:Hp) (Q:VK) (E:XK):Prop
 |mk (s:Addr) (x0 x1 x2 v3 v5:V) (Mn:Addr) (kd kw:Ko) (ns:List Int) (_:vs=[.ref s]) (_:H s=some (.tup [x0,x1,x2,v3,.ref Mn,v5])) (_:H Mn=some (.lst (ns.map V.int))) (_:(∀n∈ns,1<=n/\n<=12)) (_:ns.length<=200) (_:MV H v3 kd) (_:MV H v5 kw) (_:∀(b:Bool) (H':Hp),Same H H'->(b=true↔pK ns kd kw)->Q (.bl b) H')
inductive RW (K:FG) (vs:List V) (H:Hp) (Q:VK) (E:XK):Prop
 |mk (a:Addr) (c0 c1 c2 c3 c4:Int) (bm:Bool) (_:vs=[.ref a,.bl bm]) (_:SqL K H a [.int c0,.int c1,.int c2,.int c3,.int c4]) (_:∀(t:Addr) (w0 w1 w2 w3 w4:List Nat) (ns0 ns1 ns3:List Int) (kd kw:Ko) (H':Hp),Same H H'->(∃v1 v2 v3 v4 v5:V,H' t=some (.tup [.str (Tx (gK 32 [w0,w1,w2,w3,w4])),v1,v2,v3,v4,v5]))->LS H' t ns0 ns1 ns3 kd kw->(ns0≠[]/\ns1≠[]/\ns3.length<=200)->FT 0 59 w0 (fu ns0)->FT 0 23 w1 (fu ns1)->FT 1 12 w3 (fu ns3)->DT false w2 kd->DT true w4 kw->(fu ns0<2^60/\fu ns1<2^24)->Q (.ref t) H')
inductive KW (K:FG) (vs:List V) (H:Hp) (Q:VK) (E:XK):Prop
 |mk (s:Addr) (ns0 ns1 ns3:List Int) (kd kw:Ko) (mo:Int) (v:V) (l:Addr) (us:List V) (_:vs=[.ref s,.int mo,v,.ref l]) (_:LS H s ns0 ns1 ns3 kd kw) (_:ns3.length<=200) (_:H l=some (.lst us)) (_:((v=.non/\us=[]/\pK ns3 kd kw)∨∃(e:Int) (sts:List gX),v=.int e/\e<=mo/\us.length<=100/\Paired (kZ H) us sts/\jB (fu ns0) (fu ns1) (fu ns3) kd kw (e+1) sts (mo+1)/\Hit (fu ns0) (fu ns1) (fu ns3) kd kw e)) (_:∀H',Same H H'->Q (.bl true) H')
inductive rV (K:FG) (aK aL:Addr) (vs:List V) (H:Hp) (Q:VK) (E:XK):Prop
 |mk (a:Addr) (ns:List Int) (_:vs=[.ref a]) (_:SqL K H a (ns.map V.int)) (_:ns.length<=63) (_:m8 H aK aL) (_:∀H',Q (.bl true) H')
theorem md_Last___init__{K:FG}{C f T:Addr}{od an tod:Option Addr}{sl tsl:Array (Option Value)}{oc kV dc pm cd ct:Value}{tn:Nat}{t0:Tok}(a:PySem.W.findIn K (.ref C) "__init__"=some (some (.ref f)))(i:PySem.W.isFn K (.ref f)=true)(l:K.lookup f=some ⟨oc,od,.func (PySem.W.fnOf "__init__" "Last.__init__" (ji oC) (iM oC) (ft oC) (.ref T) kV dc pm an cd ct),sl⟩)(c:PySem.W.codeIn K cd "Last.__init__"=true)(k:PySem.W.keepIn K (.ref f)=true)(lt:K.lookup T=some ⟨.type "tuple",tod,.seq #[.int 0 t0] tn,tsl⟩):FnMD K C "__init__" "Last.__init__" oC ["self","back"] [.int 0]:=
 ZT (ds:=[.int 0 t0]) a i l c k (λs us X hl=>match us,(show us.length=2 by simpa using hl) with | [_,_],_=>PySem.W.binds_K X rfl lt rfl rfl rfl) (.cons ⟨()⟩ .nil) (λs us X hl=>match us,(show us.length=1 by simpa using hl) with | [_],_=>PySem.W.binds_K X rfl lt rfl rfl rfl)
theorem q_MONTH_LASTS{K:FG}{a:Addr}{od:Option Addr}{sl:Array (Option Value)}{n:Nat}{t0 t1 t2 t3 t4 t5 t6 t7 t8 t9 t10 t11:Tok}(l:K.lookup a=some ⟨.type "tuple",od,.seq #[.int 31 t0,.int 28 t1,.int 31 t2,.int 30 t3,.int 31 t4,.int 30 t5,.int 31 t6,.int 31 t7,.int 30 t8,.int 31 t9,.int 30 t10,.int 31 t11] n,sl⟩):∀H,SqT K H a (([31,28,31,30,31,30,31,31,30,31,30,31]:List Int).map V.int):=λH=>.inr ⟨_,_,_,l,rfl,rfl,(zL 12),(.cons ⟨()⟩ (.cons ⟨()⟩ (.cons ⟨()⟩ (.cons ⟨()⟩ (.cons ⟨()⟩ (.cons ⟨()⟩ (.cons ⟨()⟩ (.cons ⟨()⟩ (.cons ⟨()⟩ (.cons ⟨()⟩ (.cons ⟨()⟩ (.cons ⟨()⟩ .nil))))))))))))⟩
theorem q_BOUNDS{K:FG}{a b0 b1 b3:Addr}{ep:Nat}{t0 t1 t3:Tok}(l:K.lookup a=some ⟨.type "dict",none,.dict #[⟨0,.int 0 t0,.ref b0⟩,⟨1,.int 1 t1,.ref b1⟩,⟨3,.int 3 t3,.ref b3⟩] ep,#[]⟩):KD K a [(0,.ref b0),(1,.ref b1),(3,.ref b3)]:=by
 refine⟨_,ep,[(.inl 0,.ref b0),(.inl 1,.ref b1),(.inl 3,.ref b3)],l,(.cons ⟨rfl,rfl⟩ (.cons ⟨rfl,rfl⟩ (.cons ⟨rfl,rfl⟩ .nil))),(show ([.inl 0,.inl 1,.inl 3]:List gc).Nodup by decide),λP w=>⟨?_,(.cons rfl rfl (.cons rfl rfl (.cons rfl rfl .nil)))⟩⟩;intro e he;simp only[Array.mem_toArray,aX,cF,or_false] at he;rcases he with rfl | rfl | rfl
 ·exact⟨.inl 0,rfl,rfl⟩
 ·exact⟨.inl 1,rfl,rfl⟩
 ·exact⟨.inl 3,rfl,rfl⟩
theorem q_BOUNDS_0{K:FG}{a:Addr}{od:Option Addr}{sl:Array (Option Value)}{n:Nat}{t0 t1:Tok}(l:K.lookup a=some ⟨.type "tuple",od,.seq #[.int 0 t0,.int 59 t1] n,sl⟩):∀H,SqT K H a (([0,59]:List Int).map V.int):=λH=>.inr ⟨_,_,_,l,rfl,rfl,(zL 2),(.cons ⟨()⟩ (.cons ⟨()⟩ .nil))⟩
theorem q_BOUNDS_1{K:FG}{a:Addr}{od:Option Addr}{sl:Array (Option Value)}{n:Nat}{t0 t1:Tok}(l:K.lookup a=some ⟨.type "tuple",od,.seq #[.int 0 t0,.int 23 t1] n,sl⟩):∀H,SqT K H a (([0,23]:List Int).map V.int):=λH=>.inr ⟨_,_,_,l,rfl,rfl,(zL 2),(.cons ⟨()⟩ (.cons ⟨()⟩ .nil))⟩
theorem q_BOUNDS_3{K:FG}{a:Addr}{od:Option Addr}{sl:Array (Option Value)}{n:Nat}{t0 t1:Tok}(l:K.lookup a=some ⟨.type "tuple",od,.seq #[.int 1 t0,.int 12 t1] n,sl⟩):∀H,SqT K H a (([1,12]:List Int).map V.int):=λH=>.inr ⟨_,_,_,l,rfl,rfl,(zL 2),(.cons ⟨()⟩ (.cons ⟨()⟩ .nil))⟩
theorem mg_tx{K:FG}{h:Heap}{mg:Str->Option Value}{x n:Str}{l:List Nat}{t:Tok}(X:K.In h)(G:h.Ns mainGlobals mg)(e:x=Tx l)(a:PySem.W.nsIn K mainGlobals n=some (some (.str x t))):mg n=some (.str (Tx l) t):=e▸PySem.W.mg_of X G a
theorem Ny:fb ["year"] ["year"] (ft (top 12)):=fR
theorem On:fb ["year","step"] ["year","step"] (ft (top 13)):=fR
theorem Ut:fb ["year","longs"] ["year"] (ft (top 14)):=fR
theorem YG:fb ["year","month"] ["year","month"] (ft (top 15)):=fR
theorem Q1:fb ["thing"] ["thing"] (ft (top 7)):=fR
theorem WX:fb ["year","month","day"] ["year","month","day"] (ft (top 16)):=fR
theorem Us:fb ["year","month","day","ahead"] ["year","month","day"] (ft (top 17)):=fR
theorem UV:fb ["day","year"] ["day"] (ft (top 18)):=fR
theorem Ur:fb ["day","year","month","rest"] ["day"] (ft (top 19)):=fR
theorem Yb:fb ["day"] ["day"] (ft (top 20)):=fR
theorem Uw:fb ["year","month","day","place"] ["year","month","day"] (ft (top 33)):=fR
theorem Tc:fb ["year","month"] ["year","month"] (ft (top 34)):=fR
theorem UG:fb ["moment","time"] ["moment"] (ft (top 28)):=fR
theorem Yu:fb ["text"] ["text"] (ft (top 23)):=fR
theorem IJ:fb ["text"] ["text"] (ft (top 24)):=fR
theorem P6:fb ["mask","number"] ["mask","number"] (ft (top 38)):=fR
theorem UA:fb ["numbers","mask","number"] ["numbers"] (ft (top 62)):=fR
theorem Vv:fb ["mask"] ["mask"] (ft (top 63)):=fR
theorem Wx:fb ["first","last","stride"] ["first","last","stride"] (ft (top 64)):=fR
theorem UM:fb ["text","low","high","number"] ["text","low","high"] (ft (top 65)):=fR
theorem UO:fb ["text","low","high","ends"] ["text","low","high"] (ft (top 66)):=fR
theorem UP:fb ["run_text","stride_text","low","high","run","stride","last"] ["run_text","stride_text","low","high"] (ft (top 67)):=fR
theorem UK:fb ["item","low","high","parts","run"] ["item","low","high"] (ft (top 68)):=fR
theorem UJ:fb ["text","low","high","items","mask","place","item","told"] ["text","low","high"] (ft (top 69)):=fR
theorem Sm:fb ["day","first"] ["day","first"] (ft (top 79)):=fR
theorem Ll:fb ["last"] ["last"] (ft (top 80)):=fR
theorem UE:fb ["day","last","first","of_week"] ["day","last","first"] (ft (top 81)):=fR
theorem ZQ:fb ["weekday","first"] ["weekday","first"] (ft (top 82)):=fR
theorem SL:fb ["self","last","first"] ["self","last","first"] (ft Hm):=fR
theorem Qv:fb ["self","mask"] ["self","mask"] (ft FX):=fR
theorem UZ:fb ["self","last","first"] ["self","last","first"] (ft Gp):=fR
theorem Kc:fb ["self","back"] ["self","back"] (ft oC):=fR
theorem Nz:fb ["self","last","first"] ["self","last","first"] (ft CJ):=fR
theorem Lk:fb ["self","day"] ["self","day"] (ft B6):=fR
theorem K0:fb ["self","last","first"] ["self","last","first"] (ft Dt):=fR
theorem TQ:fb ["self","last","first"] ["self","last","first"] (ft F5):=fR
theorem TC:fb ["self","mask"] ["self","mask"] (ft Hj):=fR
theorem U4:fb ["self","last","first","weeks","week"] ["self","last","first"] (ft CQ):=fR
theorem TK:fb ["self","weekday","many"] ["self","weekday","many"] (ft CP):=fR
theorem U0:fb ["self","last","first","day"] ["self","last","first"] (ft GH):=fR
theorem Wj:fb ["self","weekday"] ["self","weekday"] (ft Dw):=fR
theorem VD:fb ["self","last","first"] ["self","last","first"] (ft GG):=fR
theorem Uq:fb ["marks","last","first","mask","mark"] ["marks","last","first"] (ft (top 91)):=fR
theorem UH:fb ["item","back","day"] ["item"] (ft (top 92)):=fR
theorem UQ:fb ["text","number"] ["text"] (ft (top 93)):=fR
theorem UR:fb ["item","weekday","parts","many"] ["item"] (ft (top 94)):=fR
theorem UL:fb ["text","low","high","read_mark","items","mask","marks","place","item","plain","mark"] ["text","low","high","read_mark"] (ft (top 95)):=fR
theorem UI:fb ["text","read"] ["text"] (ft (top 96)):=fR
theorem US:fb ["text","read","mask"] ["text"] (ft (top 97)):=fR
theorem UC:fb ["kind","place","first"] ["kind"] (ft (top 35)):=fR
theorem UU:fb ["hours","minutes","times","hour"] ["hours","minutes"] (ft (top 107)):=fR
theorem Uu:fb ["days","weekdays","last","first","mask","marks"] ["days","weekdays","last","first"] (ft (top 108)):=fR
theorem KH:fb ["self","fields"] ["self","fields"] (ft DR):=fR
theorem U1:fb ["self","kind","month"] ["self","kind"] (ft F6):=fR
theorem UT:fb ["word","place","bounds"] ["word","place"] (ft (top 110)):=fR
theorem Sj:fb ["word","place"] ["word","place"] (ft (top 111)):=fR
theorem UN:fb ["text","words"] ["text"] (ft (top 112)):=fR
theorem U3:fb ["self","moment","parts","date"] ["self","moment"] (ft GW):=fR
theorem Ky:fb ["year","month"] ["year","month"] (ft (top 36)):=fR
theorem UD:fb ["moment","date"] ["moment"] (ft (top 55)):=fR
theorem UB:fb ["days","minutes","place","times"] ["days"] (ft (top 53)):=fR
theorem JR:fb ["mask"] ["mask"] (ft (top 39)):=fR
theorem Ux:fb ["row","day","date","kind","later"] ["row","day"] (ft (top 47)):=fR
theorem WG:fb ["row","moment","word"] ["row","moment","word"] (ft (top 48)):=fR
theorem LO:fb ["stretches","first","last","told"] ["stretches","first","last","told"] (ft (top 46)):=fR
theorem UF:fb ["row","begin","end","stretches","moment","word","last"] ["row","begin","end"] (ft (top 49)):=fR
theorem U2:fb ["self","kind","days","last"] ["self","kind"] (ft Eg):=fR
theorem Qw:fb ["known","on_days","kind"] ["known","on_days","kind"] (ft (top 54)):=fR
theorem Uv:fb ["on_days","moment","month","known","turn","start","latest","rest"] ["on_days","moment"] (ft (top 56)):=fR
theorem Uy:fb ["row","moment","found"] ["row","moment"] (ft (top 57)):=fR
theorem OW:fb ["_law_script","_law_k"] ["_law_script","_law_k"] (ft (top 114)):=fR
theorem Uj:fb ["_law_number","_law_first","_law_second"] ["_law_number"] (ft (top 115)):=fR
theorem U9:fb ["_law_cell","_law_sizes","_law_mixed","_law_found","_law_size"] ["_law_cell","_law_sizes","_law_mixed"] (ft (top 116)):=fR
theorem Ua:fb ["_law_parts","_law_low","_law_high","_law_form","_law_one","_law_later","_law_by"] ["_law_parts","_law_low","_law_high"] (ft (top 118)):=fR
theorem Ug:fb ["_law_cell","_law_low","_law_high","_law_mixed","_law_size","_law_drawn","_law_texts","_law_numbers_here","_law_k","_law_text","_law_some"] ["_law_cell","_law_low","_law_high","_law_mixed"] (ft (top 119)):=fR
theorem Sd:fb ["_law_year"] ["_law_year"] (ft (top 127)):=fR
theorem Uc:fb ["_law_cell","_law_mixed","_law_drawn","_law_year","_law_number"] ["_law_cell","_law_mixed"] (ft (top 132)):=fR
theorem U8:fb ["_law_cell","_law_mixed","_law_drawn","_law_texts","_law_marks","_law_k","_law_sort","_law_form","_law_one","_law_later","_law_by","_law_text","_law_some","_law_mark"] ["_law_cell","_law_mixed"] (ft (top 120)):=fR
theorem Uo:fb ["_law_cell","_law_mixed","_law_drawn","_law_texts","_law_marks","_law_k","_law_sort","_law_form","_law_one","_law_later","_law_by","_law_text","_law_some","_law_mark"] ["_law_cell","_law_mixed"] (ft (top 121)):=fR
theorem Ue:fb ["_law_day","_law_last_here","_law_first","_law_gap","_law_one"] ["_law_day","_law_last_here","_law_first"] (ft (top 123)):=fR
theorem Ub:fb ["_law_mark","_law_day","_law_last_here","_law_first","_law_word_here","_law_one","_law_many","_law_weekday_here"] ["_law_mark","_law_day","_law_last_here","_law_first"] (ft (top 124)):=fR
theorem U5:fb ["_law_marks","_law_day","_law_last_here","_law_first","_law_mark"] ["_law_marks","_law_day","_law_last_here","_law_first"] (ft (top 125)):=fR
theorem U7:fb ["_law_spec_here","_law_day","_law_last_here","_law_first","_law_days_here","_law_weekdays_here"] ["_law_spec_here","_law_day","_law_last_here","_law_first"] (ft (top 126)):=fR
theorem YQ:fb ["_law_year","_law_month"] ["_law_year","_law_month"] (ft (top 128)):=fR
theorem U6:fb ["_law_number","_law_rounds","_law_left","_law_year","_law_month"] ["_law_number"] (ft (top 129)):=fR
theorem Ul:fb ["_law_spec_here","_law_number","_law_month","_law_day","_law_last_here","_law_first"] ["_law_spec_here","_law_number"] (ft (top 130)):=fR
theorem Up:fb ["_law_spec_here","_law_moment_here","_law_told_here"] ["_law_spec_here","_law_moment_here"] (ft (top 131)):=fR
theorem JY:fb ["_law_found"] ["_law_found"] (ft (top 117)):=fR
theorem Ud:fb ["_law_spec_here","_law_first","_law_last_here","_law_number","_law_month","_law_day","_law_ends","_law_begins"] ["_law_spec_here","_law_first","_law_last_here"] (ft (top 133)):=fR
theorem Uk:fb ["_law_spec_here","_law_first","_law_last_here","_law_word_here","_law_strict","_law_size","_law_at"] ["_law_spec_here","_law_first","_law_last_here","_law_word_here","_law_strict"] (ft (top 134)):=fR
theorem Uh:fb ["_law_spec_here","_law_first","_law_last_here","_law_word_here","_law_strict","_law_number"] ["_law_spec_here","_law_first","_law_last_here","_law_word_here","_law_strict"] (ft (top 135)):=fR
theorem V3:fb ["_law_thing"] ["_law_thing"] (ft (top 136)):=fR
theorem Um:fb ["_law_spec_here","_law_begin","_law_end","_law_paper","_law_strict","_law_at","_law_ahead","_law_thing"] ["_law_spec_here","_law_begin","_law_end","_law_paper","_law_strict"] (ft (top 137)):=fR
theorem Uf:fb ["_law_spec_here","_law_month","_law_ends","_law_last_here","_law_first","_law_day"] ["_law_spec_here"] (ft (top 138)):=fR
theorem Ui:fb ["_law_cells","_law_mixed","_law_minutes","_law_hours","_law_days_here","_law_months","_law_weekdays_here","_law_rare","_law_text"] ["_law_cells","_law_mixed"] (ft (top 122)):=fR
theorem MU:fb ["_law_spec_here","_law_moment_here","_law_found","_law_paper"] ["_law_spec_here","_law_moment_here","_law_found","_law_paper"] (ft (top 139)):=fR
theorem Uz:fb ["_law_script","_law_mixed","_law_k","_law_cells","_law_spec_here","_law_moment_here","_law_told_here"] ["_law_script"] (ft (top 140)):=fR
structure Fs(K:FG)(mg:Str->Option Value)(aI aB aE aF aH aD aA aG aJ aO aM aP aK aL a_MONTH_LASTS a_BOUNDS a_BOUNDS_0 a_BOUNDS_1 a_BOUNDS_3:Addr)(t_ROUND_DAYS t_ROUND_YEARS t_LONG_PLACE t_DAY_MINUTES t_HOUR_MINUTES t_FIGURES t_MOST_STRIDE t_MOST_SIGNS t_MOST_ITEMS t_SATURDAY t_SUNDAY t_MOST_BACK t_MOST_DAY t_SUNDAY_TOO t_MOST_NTH t_MOST_MARKS t_ALL_WEEKDAYS t_LONG_LAST t_SHORT_YEAR t_MINUTE t_HOUR t_DAY t_MONTH t_WEEKDAY t_MOST_ROW_SIGNS t_NO_PLACE t_MOST_MONTHS t_MOST_MONTH_MINUTES:Tok):Prop where
 e0:Cd K mg "Mark" aI
 e6:PySem.W.findIn K (.ref aI) "__init__"=some (some (.builtin "object.__init__"))
 ar:Cd K mg "Numbers" aB
 a4:PySem.W.findIn K (.ref aB) "mask"=some none
 as:Cd K mg "Last" aE
 aw:PySem.W.findIn K (.ref aE) "back"=some none
 ax:Cd K mg "Near" aF
 ay:PySem.W.findIn K (.ref aF) "day"=some none
 bc:Cd K mg "LastWork" aH
 du:PySem.W.findIn K (.ref aH) "__init__"=some (some (.builtin "object.__init__"))
 ao:Cd K mg "Weekdays" aD
 az:PySem.W.findIn K (.ref aD) "mask"=some none
 a0:Cd K mg "Nth" aA
 a5:PySem.W.findIn K (.ref aA) "weekday"=some none
 bd:PySem.W.findIn K (.ref aA) "many"=some none
 au:Cd K mg "LastOne" aG
 av:PySem.W.findIn K (.ref aG) "weekday"=some none
 ac:Cd K mg "Row" aJ
 ah:PySem.W.findIn K (.ref aJ) "minute_mask"=some none
 al:PySem.W.findIn K (.ref aJ) "hour_mask"=some none
 a1:PySem.W.findIn K (.ref aJ) "day_marks"=some none
 ai:PySem.W.findIn K (.ref aJ) "month_mask"=some none
 ap:PySem.W.findIn K (.ref aJ) "weekday_marks"=some none
 a2:PySem.W.findIn K (.ref aJ) "time_mask"=some none
 aq:mg "read_weekday_mark"=some (.ref aO)
 a3:mg "read_day_mark"=some (.ref aM)
 cg:mg "MONTH_LASTS"=some (.ref a_MONTH_LASTS)
 a6:∀H,SqT K H a_MONTH_LASTS (([31,28,31,30,31,30,31,31,30,31,30,31]:List Int).map V.int)
 a8:mg "ROUND_DAYS"=some (.int 146097 t_ROUND_DAYS)
 ch:mg "ROUND_YEARS"=some (.int 400 t_ROUND_YEARS)
 a9:mg "LONG_PLACE"=some (.int 12 t_LONG_PLACE)
 ad:mg "DAY_MINUTES"=some (.int 1440 t_DAY_MINUTES)
 af:mg "HOUR_MINUTES"=some (.int 60 t_HOUR_MINUTES)
 eh:mg "FIGURES"=some (.str (Tx [48,49,50,51,52,53,54,55,56,57]) t_FIGURES)
 ci:mg "MOST_STRIDE"=some (.int 99 t_MOST_STRIDE)
 ba:mg "MOST_SIGNS"=some (.int 300 t_MOST_SIGNS)
 aj:mg "MOST_ITEMS"=some (.int 40 t_MOST_ITEMS)
 dv:mg "SATURDAY"=some (.int 6 t_SATURDAY)
 br:mg "SUNDAY"=some (.int 0 t_SUNDAY)
 c9:mg "MOST_BACK"=some (.int 30 t_MOST_BACK)
 be:mg "MOST_DAY"=some (.int 31 t_MOST_DAY)
 ak:mg "SUNDAY_TOO"=some (.int 7 t_SUNDAY_TOO)
 dw:mg "MOST_NTH"=some (.int 5 t_MOST_NTH)
 cv:mg "MOST_MARKS"=some (.int 20 t_MOST_MARKS)
 b4:mg "ALL_WEEKDAYS"=some (.int 127 t_ALL_WEEKDAYS)
 da:mg "LONG_LAST"=some (.int 29 t_LONG_LAST)
 cw:mg "SHORT_YEAR"=some (.int 1 t_SHORT_YEAR)
 et:mg "MINUTE"=some (.int 0 t_MINUTE)
 e1:mg "HOUR"=some (.int 1 t_HOUR)
 dx:mg "DAY"=some (.int 2 t_DAY)
 ez:mg "MONTH"=some (.int 3 t_MONTH)
 bl:mg "WEEKDAY"=some (.int 4 t_WEEKDAY)
 eu:mg "BOUNDS"=some (.ref a_BOUNDS)
 bb:KD K a_BOUNDS [(0,.ref a_BOUNDS_0),(1,.ref a_BOUNDS_1),(3,.ref a_BOUNDS_3)]
 bf:∀H,SqT K H a_BOUNDS_0 (([0,59]:List Int).map V.int)
 bg:∀H,SqT K H a_BOUNDS_1 (([0,23]:List Int).map V.int)
 bh:∀H,SqT K H a_BOUNDS_3 (([1,12]:List Int).map V.int)
 bs:mg "MOST_ROW_SIGNS"=some (.int 1600 t_MOST_ROW_SIGNS)
 dy:mg "NO_PLACE"=some (.int 5 t_NO_PLACE)
 cj:mg "MOST_MONTHS"=some (.int 492 t_MOST_MONTHS)
 bi:mg "MOST_MONTH_MINUTES"=some (.int 44640 t_MOST_MONTH_MINUTES)
 dz:nA K mg aP aK aL
 a7:mg "int"=none
 ab:mg "isinstance"=none
 cx:mg "bool"=none
 aa:mg "range"=none
 e2:mg "sum"=none
 e3:mg "all"=none
 an:mg "list"=none
 ag:mg "len"=none
 ae:mg "str"=none
 am:mg "enumerate"=none
 d0:mg "min"=none
 d1:mg "abs"=none
 d2:mg "max"=none
 b5:mg "tuple"=none
 e4:mg "set"=none
 ev:mg "sorted"=none
 ei:Fn K mg "is_long" (top 12) ["year"]
 bm:Fn K mg "multiples_before" (top 13) ["year","step"]
 ck:Fn K mg "days_before" (top 14) ["year"]
 ej:Fn K mg "last_of" (top 15) ["year","month"]
 d3:Fn K mg "is_whole" (top 7) ["thing"]
 ek:Fn K mg "is_date" (top 16) ["year","month","day"]
 ew:Fn K mg "day_of" (top 17) ["year","month","day"]
 el:Fn K mg "year_of" (top 18) ["day"]
 em:Fn K mg "date_of" (top 19) ["day"]
 en:Fn K mg "weekday" (top 20) ["day"]
 db:Fn K mg "kind_from" (top 33) ["year","month","day"]
 eo:Fn K mg "kind_of" (top 34) ["year","month"]
 ex:Fn K mg "parted" (top 28) ["moment"]
 cl:Fn K mg "all_figures" (top 23) ["text"]
 cy:Fn K mg "is_written" (top 24) ["text"]
 e5:Fn K mg "has" (top 38) ["mask","number"]
 ep:Fn K mg "mask_of" (top 62) ["numbers"]
 cz:Fn K mg "numbers_in" (top 63) ["mask"]
 d4:Fn K mg "run_mask" (top 64) ["first","last","stride"]
 cm:Fn K mg "read_number" (top 65) ["text","low","high"]
 d5:Fn K mg "read_run" (top 66) ["text","low","high"]
 b6:Fn K mg "read_strided" (top 67) ["run_text","stride_text","low","high"]
 dc:Fn K mg "read_item" (top 68) ["item","low","high"]
 c0:Fn K mg "read_field" (top 69) ["text","low","high"]
 c1:Fn K mg "weekday_at" (top 79) ["day","first"]
 d6:Fn K mg "all_days" (top 80) ["last"]
 b7:Fn K mg "nearest_work" (top 81) ["day","last","first"]
 dd:Fn K mg "first_one" (top 82) ["weekday","first"]
 de:FnM K aI "days" "Mark.days" Hm ["self","last","first"]
 bn:FnM K aB "__init__" "Numbers.__init__" FX ["self","mask"]
 b8:FnM K aB "days" "Numbers.days" Gp ["self","last","first"]
 bt:FnMD K aE "__init__" "Last.__init__" oC ["self","back"] [.int 0]
 df:FnM K aE "days" "Last.days" CJ ["self","last","first"]
 bu:FnM K aF "__init__" "Near.__init__" B6 ["self","day"]
 dg:FnM K aF "days" "Near.days" Dt ["self","last","first"]
 bv:FnM K aH "days" "LastWork.days" F5 ["self","last","first"]
 bj:FnM K aD "__init__" "Weekdays.__init__" Hj ["self","mask"]
 bw:FnM K aD "days" "Weekdays.days" CQ ["self","last","first"]
 b9:FnM K aA "__init__" "Nth.__init__" CP ["self","weekday","many"]
 d7:FnM K aA "days" "Nth.days" GH ["self","last","first"]
 bo:FnM K aG "__init__" "LastOne.__init__" Dw ["self","weekday"]
 ca:FnM K aG "days" "LastOne.days" GG ["self","last","first"]
 d8:Fn K mg "any_days" (top 91) ["marks","last","first"]
 bx:Fn K mg "read_day_mark" (top 92) ["item"]
 cb:Fn K mg "read_weekday" (top 93) ["text"]
 bk:Fn K mg "read_weekday_mark" (top 94) ["item"]
 c2:Fn K mg "read_items" (top 95) ["text","low","high","read_mark"]
 dh:Fn K mg "read_days" (top 96) ["text"]
 bz:Fn K mg "read_weekdays" (top 97) ["text"]
 d9:Fn K mg "month_at" (top 35) ["kind"]
 ea:Fn K mg "times_of" (top 107) ["hours","minutes"]
 eq:Fn K mg "days_by" (top 108) ["days","weekdays","last","first"]
 cc:FnM K aJ "__init__" "Row.__init__" DR ["self","fields"]
 cn:FnM K aJ "days_in" "Row.days_in" F6 ["self","kind"]
 di:Fn K mg "read_word" (top 110) ["word","place"]
 er:Fn K mg "read_at" (top 111) ["word","place"]
 eb:Fn K mg "read_row" (top 112) ["text"]
 co:FnM K aJ "shut_by" "Row.shut_by" GW ["self","moment"]
 cd:Fn K mg "month_before" (top 36) ["year","month"]
 ec:Fn K mg "month_of" (top 55) ["moment"]
 c3:Fn K mg "minutes_on" (top 53) ["days"]
 ey:Fn K mg "lowest" (top 39) ["mask"]
 b0:Fn K mg "last_shut_day" (top 47) ["row","day"]
 ed:Fn K mg "shut_end" (top 48) ["row","moment","word"]
 cp:Fn K mg "add_stretch" (top 46) ["stretches","first","last","told"]
 ee:Fn K mg "paper_of" (top 49) ["row","begin","end"]
 cq:FnM K aJ "on_days" "Row.on_days" Eg ["self","kind"]
 c4:Fn K mg "minutes_by" (top 54) ["known","on_days","kind"]
 ef:Fn K mg "final_at" (top 56) ["on_days","moment"]
 es:FnC K mg "last_to" (top 57) ["row","moment"] aP
 ce:Fn K mg "_law_cell_at" (top 114) ["_law_script","_law_k"]
 dj:Fn K mg "_law_stir" (top 115) ["_law_number"]
 cr:Fn K mg "_law_digits" (top 116) ["_law_cell","_law_sizes","_law_mixed"]
 dk:Fn K mg "_law_item" (top 118) ["_law_parts","_law_low","_law_high"]
 cf:Fn K mg "_law_numbers" (top 119) ["_law_cell","_law_low","_law_high","_law_mixed"]
 c5:Fn K mg "_law_start" (top 127) ["_law_year"]
 cs:Fn K mg "_law_moment" (top 132) ["_law_cell","_law_mixed"]
 dl:Fn K mg "_law_days" (top 120) ["_law_cell","_law_mixed"]
 b1:Fn K mg "_law_weekdays" (top 121) ["_law_cell","_law_mixed"]
 dm:Fn K mg "_law_near" (top 123) ["_law_day","_law_last_here","_law_first"]
 ct:Fn K mg "_law_marked" (top 124) ["_law_mark","_law_day","_law_last_here","_law_first"]
 eg:Fn K mg "_law_any" (top 125) ["_law_marks","_law_day","_law_last_here","_law_first"]
 b2:Fn K mg "_law_day_held" (top 126) ["_law_spec_here","_law_day","_law_last_here","_law_first"]
 dn:Fn K mg "_law_last" (top 128) ["_law_year","_law_month"]
 dp:Fn K mg "_law_date" (top 129) ["_law_number"]
 dq:Fn K mg "_law_told" (top 130) ["_law_spec_here","_law_number"]
 dr:Fn K mg "_law_word" (top 131) ["_law_spec_here","_law_moment_here"]
 c6:Fn K mg "_law_whole" (top 117) ["_law_found"]
 bp:Fn K mg "_law_months_shut" (top 133) ["_law_spec_here","_law_first","_law_last_here"]
 bq:Fn K mg "_law_times_shut" (top 134) ["_law_spec_here","_law_first","_law_last_here","_law_word_here","_law_strict"]
 ds:Fn K mg "_law_shut" (top 135) ["_law_spec_here","_law_first","_law_last_here","_law_word_here","_law_strict"]
 b3:Fn K mg "_law_is_piece" (top 136) ["_law_thing"]
 cu:Fn K mg "_law_walked" (top 137) ["_law_spec_here","_law_begin","_law_end","_law_paper","_law_strict"]
 c7:Fn K mg "_law_never" (top 138) ["_law_spec_here"]
 dt:Fn K mg "_law_spec" (top 122) ["_law_cells","_law_mixed"]
 c8:Fn K mg "_law_right" (top 139) ["_law_spec_here","_law_moment_here","_law_found","_law_paper"]
section
set_option maxHeartbeats 4000000
variable{P:Program}{w:World}{K:FG}{mg:Str->Option Value}{base:Heap}{aI aB aE aF aH aD aA aG aJ aO aM aP aK aL a_MONTH_LASTS a_BOUNDS a_BOUNDS_0 a_BOUNDS_1 a_BOUNDS_3:Addr}{t_ROUND_DAYS t_ROUND_YEARS t_LONG_PLACE t_DAY_MINUTES t_HOUR_MINUTES t_FIGURES t_MOST_STRIDE t_MOST_SIGNS t_MOST_ITEMS t_SATURDAY t_SUNDAY t_MOST_BACK t_MOST_DAY t_SUNDAY_TOO t_MOST_NTH t_MOST_MARKS t_ALL_WEEKDAYS t_LONG_LAST t_SHORT_YEAR t_MINUTE t_HOUR t_DAY t_MONTH t_WEEKDAY t_MOST_ROW_SIGNS t_NO_PLACE t_MOST_MONTHS t_MOST_MONTH_MINUTES:Tok}(ZZ:Fs K mg aI aB aE aF aH aD aA aG aJ aO aM aP aK aL a_MONTH_LASTS a_BOUNDS a_BOUNDS_0 a_BOUNDS_1 a_BOUNDS_3 t_ROUND_DAYS t_ROUND_YEARS t_LONG_PLACE t_DAY_MINUTES t_HOUR_MINUTES t_FIGURES t_MOST_STRIDE t_MOST_SIGNS t_MOST_ITEMS t_SATURDAY t_SUNDAY t_MOST_BACK t_MOST_DAY t_SUNDAY_TOO t_MOST_NTH t_MOST_MARKS t_ALL_WEEKDAYS t_LONG_LAST t_SHORT_YEAR t_MINUTE t_HOUR t_DAY t_MONTH t_WEEKDAY t_MOST_ROW_SIGNS t_NO_PLACE t_MOST_MONTHS t_MOST_MONTH_MINUTES)
include ZZ
theorem Hr:Dx P w base ZZ.ei 1 (OC K):=by
 refine ZZ.ei.dfs Ny (by trivial) ?_;rintro _ _ _ _ s H _ Q E hr⟨y,rfl,q⟩;refine⟨_,(fg (fk (j5 (hV gb (fc gs Y0 eI) eI) (jm (qk (hV jV (fc gs Y0 eI) eI) (jm (hV gb (fc gs Y0 eI) eI))))))),?_⟩;refine⟨(),(()),zP9,rfl,(),?_⟩;refine gp (λc1=>?_) (λc1=>?_)
 ·refine⟨(),(()),zP9,rfl,(),?_⟩;refine ol (λc2=>?_) (λc2=>?_)
  ·rw[Dh ⟨c1,.inl c2⟩] at q;exact q
  ·refine⟨(),(()),zP9,rfl,?_⟩;by_cases c3:y%400=0
   ·rw[Dh ⟨c1,.inr c3⟩] at q;show Q (.bl (decide (V.int (y%400)=V.int 0))) H;rw[eY (int_eq.mpr c3)];exact q
   ·rw[Gs ⋯] at q;show Q (.bl (decide (V.int (y%400)=V.int 0))) H;rw[fB λe=>c3 (int_eq.mp e)];exact q
 ·rw[Gs ⋯] at q;exact q
theorem wy:Dx P w base ZZ.bm 1 (RP K):=by
 refine ZZ.bm.dfs On (by trivial) ?_;rintro _ _ _ _ s H _ Q E hr⟨y,z,rfl,hz,q⟩;refine⟨_,(fg (fk (fc ie (fc gm (fc fV Y0 Y1) eI) Y1))),?_⟩;refine⟨(),(),(()),(()),(),(()),hz,?_⟩;exact q
theorem xP:Dx P w base ZZ.ck 2 (al9 K):=by
 refine ZZ.ck.dfs Ut (by trivial) ?_;rintro _ _ _ _ s H _ Q E hr⟨y,rfl,q⟩;refine⟨_,(fe (fq 1 (fc fV (fc gm (eD (wy ZZ) hr (A2 Y0 eI)) (eD (wy ZZ) hr (A2 Y0 eI))) (eD (wy ZZ) hr (A2 Y0 eI))) Ut.nd) (fg (fk (fc fV (fc ii eI Y0) Y1)))),?_⟩;extract_lets;refine⟨(),_,(),zD9,(),_,(),zD9,(()),(),_,(),zD9,(()),?_⟩;refine⟨(),(()),.inl zD9,(),(()),?_⟩
 exact q
theorem pG:Dx P w base ZZ.ej 2 (M6 K):=by
 refine ZZ.ej.dfs YG (by trivial) ?_;rintro _ _ _ _ s H _ Q E hr⟨y,m,rfl,⟨h1,h2⟩,q⟩;refine⟨_,(fe (fJ (tW (kA (fG gb Y1 eI) (kH (gL (eD (Hr ZZ) hr (A1 Y0)))))) (fg (fk eI)) fN) (fg (fk (fv (f9 (K:=K)) (gi (v:=.ref a_MONTH_LASTS) ZZ.cg rfl) (fc gm Y1 eI))))),?_⟩;extract_lets;refine⟨(),rfl,(),?_⟩;refine gp (λc1=>?_) (λc1=>?_)
 ·refine⟨(),(),(),?_⟩;by_cases c2:io y=true
  ·have e:fK y m=29:=by unfold fK iQ;rw[if_pos c1,if_pos c2];rfl
   rw[e] at q;show if io y=true then _ else _
   rw[if_pos c2];exact q
  ·have e:fK y m=lasts.getD (m-1).toNat 0:=by unfold fK iQ;rw[if_pos c1,if_neg c2,c1];rfl
   rw[e] at q;show if io y=true then _ else _
   rw[if_neg c2];refine⟨(),(()),a_MONTH_LASTS,_,(()),ZZ.a6 H,rY h1 h2,?_⟩;exact q
 ·have e:fK y m=lasts.getD (m-1).toNat 0:=by unfold fK;rw[if_neg c1]
  rw[e] at q;refine gf ?_;refine⟨(),(()),a_MONTH_LASTS,_,(()),ZZ.a6 H,rY h1 h2,?_⟩;exact q
theorem zY:Dx P w base ZZ.d3 1 (Lb K):=by
 refine ZZ.d3.dfs Q1 (by trivial) ?_;rintro _ _ _ _ s H _ Q E hr⟨i,rfl,q⟩;refine⟨_,(fg (fk (j5 (gM DA ZZ.ab PyProof.Rows.boot_isinstance (A2 Y0 (lx ZZ.a7 PyProof.Rows.boot_int))) (jm (ED (gM Du ZZ.ab PyProof.Rows.boot_isinstance (A2 Y0 (lx ZZ.cx PyProof.Rows.boot_bool)))))))),?_⟩;refine⟨(),(),(),?_⟩;refine gk ?_;refine⟨(),(),(),?_⟩;exact q
theorem PN:Dx P w base ZZ.ek 3 (OY K):=by
 refine ZZ.ek.dfs WX (by trivial) ?_;rintro _ _ _ _ s H _ Q E hr⟨y,m,k,rfl,⟨hm,k1,k2⟩,q⟩;refine⟨_,(fe (fJ (iR (tW (kA (gL (eD (zY ZZ) hr (A1 Y0))) (kA (gL (eD (zY ZZ) hr (A1 Y1))) (kH (gL (eD (zY ZZ) hr (A1 Y2)))))))) (fg (fk eB)) fN) (fg (fk (j5 (Cp jo jo eI Y1 eI) (jm (Cp jo jo eI Y2 (eD (pG ZZ) hr (A2 Y0 Y1)))))))),?_⟩;extract_lets;refine⟨(),(),(),gk ⟨(),(),(),gk ⟨(),(),(),gf ?_⟩⟩⟩
 refine⟨(),(()),(),?_⟩;rw[eY hm.1];refine gk ⟨(()),(),?_⟩;rw[eY hm.2];refine gk ⟨(),(()),(),?_⟩;rw[eY k1];refine gk ⟨(),(),_,(),hm,(()),?_⟩;show Q (.bl (decide (k<=fK y m))) H;rw[eY k2];exact q
theorem CS:Dx P w base ZZ.ew 4 (HD K):=by
 refine ZZ.ew.dfs Us (by trivial) ?_;rintro _ _ _ _ s H _ Q E hr⟨y,m,k,rfl,hv,q⟩;refine⟨_,(fe (fJ (iR (gL (eD (PN ZZ) hr (A3 Y0 Y1 Y2)))) (fg mn) fN) (fe (fq 3 (gM zw ZZ.e2 PyProof.Rows.boot_sum (A1 (oG ["year"] [0] (sx ZZ.aa (A2 eI Y1)) (λ_ _ _ _ _ _=>nL) (λ_ _ _ _ _ _=>(eD (pG ZZ) hr (A2 Y1 Y0)))))) Us.nd) (fg (fk (fc gm (fc fV (fc fV (eD (xP ZZ) hr (A1 Y0)) Y3) Y2) eI))))),?_⟩
 extract_lets;obtain⟨⟨hm1,hm2⟩,hk⟩:=id hv;refine⟨(),(),(),_,_,(),hv,(),gf ?_⟩;refine⟨(),_,(),⟨by decide,by decide,⋯,⋯⟩,qm (λi l=>l=(List.range i).map λi:Nat=>V.int (fK y (1+(i:Int)))) (by show (m-1).toNat<=sizeLine;rw[eT];omega) rfl ?_ ?_⟩
 ·intro i l D H2 E' F' hi hR hD s2 hl hE hF;subst hR;exact⟨(),(),_,(),⟨⋯,⋯⟩,hE _ _ (Same.refl _) (BS _ _).symm⟩
 ·intro D H2 l hR hD s2 hl;subst hR;refine⟨D,(List.range (m-1).toNat).map λi:Nat=>fK y (1+(i:Int)),rfl,SqL.of (by rw[hl,bY];rfl),?_⟩;refine⟨(),(),(),(()),(),(()),(()),?_⟩;have e:((List.range (m-1).toNat).map λi:Nat=>fK y (1+(i:Int))).sum=ahead y m:=Bo y _;rw[e];exact q _ s2
theorem avR:Dx P w base ZZ.el 3 (IL K):=by
 refine ZZ.el.dfs UV (by trivial) ?_;rintro _ _ _ _ s H _ Q E hr⟨d,rfl,q⟩;refine⟨_,(fe (fq 1 (fc fV (fc ii (fc ie Y0 (gi (v:=.int 146097) ZZ.a8 ⟨()⟩)) (gi (v:=.int 400) ZZ.ch ⟨()⟩)) (fc ie (fc gs Y0 (gi (v:=.int 146097) ZZ.a8 ⟨()⟩)) eI)) UV.nd) (fe (nF (fG jo (eD (xP ZZ) hr (A1 (fc fV Y1 eI))) Y0) (fg (fq 1 (fc fV Y1 eI) UV.nd)) PassesOwn.never) (fg (fk Y1)))),?_⟩;extract_lets
 refine⟨(),(()),zD9,(()),.inr zD9,(),(()),zP9,(()),zD9,(()),?_⟩;refine nv (λσ H'=>H'=H/\∃y:Int,σ=[some (.int d),some (.int y)]/\db y<=d) (λσ _=>(d-db (iv σ 1)).toNat) ?_ ?_
 ·refine⟨rfl,(),?_⟩;have h1:=ZL (q:=d / 146097) (z:=d%146097 / 366) ⋯;omega
 ·rintro σ H' ⟨rfl,y,rfl,hy⟩;refine⟨(),(()),(),(),(()),(),?_⟩;refine gn (λc=>?_) (λc=>?_)
  ·refine⟨_,λ_ _ h=>h,?_⟩;refine⟨(),(()),?_⟩;have h1:=nj y;have h2:=pO y;exact⟨_,(by show (d-db (y+1)).toNat<(d-db y).toNat;omega),rfl,rfl,(),c⟩
  ·exact⟨(),q y hy ⋯⟩
theorem uo:Dx P w base ZZ.em 4 (RD K):=by
 refine ZZ.em.dfs Ur (by trivial) ?_;rintro _ _ _ _ s H _ Q E hr⟨d,rfl,q⟩;refine⟨_,(fe (fq 1 (eD (avR ZZ) hr (A1 Y0)) Ur.nd) (fe (fq 2 eI Ur.nd) (fe (fq 3 (fc gm Y0 (eD (xP ZZ) hr (A1 Y1))) Ur.nd) (fe (nF (fG pB Y3 (eD (pG ZZ) hr (A2 Y1 Y2))) (fe (fq 3 (fc gm Y3 (eD (pG ZZ) hr (A2 Y1 Y2))) Ur.nd) (fg (fq 2 (fc fV Y2 eI) Ur.nd))) PassesOwn.never) (fg (fk (gu (A3 Y1 Y2 (fc fV Y3 eI))))))))),?_⟩
 extract_lets;refine⟨(),(),λy hy1 hy2=>?_⟩;refine⟨(),(),(),(()),?_⟩;refine nv (λσ H'=>H'=H/\∃m r:Int,σ=[some (.int d),some (.int y),some (.int m),some (.int r)]/\(1<=m/\m<=12)/\0<=r/\db y+ahead y m+r=d) (λσ _=>(13-(iv σ 2)).toNat) ?_ ?_
 ·have a4:ahead y 1=0:=rfl;exact⟨rfl,1,(),zD9,⋯,⋯⟩
 ·rintro σ H' ⟨rfl,m,r,rfl,hm,hr0,he⟩;refine⟨(),(),(),_,(),hm,(()),(),?_⟩;have a1:=pS (y:=y) hm.1;refine gn (λc=>?_) (λc=>?_)
  ·have a2:=sZ y;have a3:=nj y;have hm12:m<12:=by
    rcases b9 m 12 with z | z
    ·exact z
    ·have e12:m=12:=⋯;subst e12;have a5:ahead y (12+1)=ahead y 13:=rfl;omega
   refine⟨_,λ_ _ h=>h,?_⟩;refine⟨(),(),(),_,(),hm,(()),?_⟩;refine⟨(),(()),?_⟩;exact⟨_,(by show (13-(m+1)).toNat<(13-m).toNat;omega),rfl,rfl,m+1,r-fK y m,rfl,⟨⋯,⋯⟩,⋯,⋯⟩
  ·refine⟨(),(),(),(()),(zL 3),λp hp=>?_⟩;exact q y m (r+1) p _ ⟨hm,⋯,⋯⟩ (by unfold gJ;omega) (fj hp _) fh
theorem YM:Dx P w base ZZ.en 1 (Z0 K):=by
 refine ZZ.en.dfs Yb (by trivial) ?_;rintro _ _ _ _ s H _ Q E hr⟨d,rfl,q⟩;refine⟨_,(fg (fk (fc gs (fc fV Y0 eI) eI))),?_⟩;exact⟨(),(()),(()),zP9,q⟩
theorem LN:Dx P w base ZZ.db 2 (MC K):=by
 refine ZZ.db.dfs Uw (by trivial) ?_;rintro _ _ _ _ s H _ Q E hr⟨y,m,d,rfl,q⟩;refine⟨_,(fe (fq 3 (me (tW (kA (fG gb Y1 eI) (kH (gL (eD (Hr ZZ) hr (A1 Y0)))))) (gi (v:=.int 12) ZZ.a9 ⟨()⟩) (fc gm Y1 eI)) Uw.nd) (fg (fk (fc fV (fc ii eI Y3) (eD (YM ZZ) hr (A1 Y2)))))),?_⟩;extract_lets;have q':∀pl:Int,jH y m=pl->Q (.int (7*pl+(d+6)%7)) H:=λpl e=>by
  rw[←e];exact q
 refine⟨(),rfl,(),?_⟩;refine gp (λc1=>⟨(),(),(),?_⟩) (λc1=>gf ?_)
 ·by_cases c2:io y=true
  ·show if io y=true then _ else _
   rw[if_pos c2];exact⟨(),(()),.inl zD9,(),(),(()),q' _ (by unfold jH;rw[if_pos ⟨c1,c2⟩])⟩
  ·show if io y=true then _ else _
   rw[if_neg c2];exact⟨(),(()),(),(()),.inl zD9,(),(),(()),q' _ (by unfold jH;rw[if_neg λz=>c2 z.2])⟩
 ·exact⟨(),(()),(),(()),.inl zD9,(),(),(()),q' _ (by unfold jH;rw[if_neg λz=>c1 z.1])⟩
theorem vK:Dx P w base ZZ.eo 5 (IR K):=by
 refine ZZ.eo.dfs Tc (by trivial) ?_;rintro _ _ _ _ s H _ Q E hr⟨y,m,rfl,hm,q⟩;refine⟨_,(fg (fk (eD (LN ZZ) hr (A3 Y0 Y1 (eD (CS ZZ) hr (A3 Y0 Y1 eI)))))),?_⟩;have hl1:1<=fK y m:=by have:=Er (y:=y) hm.1 hm.2;omega
 have e6:db y+ahead y m+1-1+6=db y+ahead y m+6:=⋯;refine⟨(),(),(),(),_,_,(),⟨hm,by decide,hl1⟩,λH' s'=>⟨_,_,(),?_⟩⟩;rw[e6];exact q H' s'
theorem NU:Dx P w base ZZ.ex 1 (V2 K):=by
 refine ZZ.ex.dfs UG (by trivial) ?_;rintro _ _ _ _ s H _ Q E hr⟨mo,rfl,q⟩;refine⟨_,(fe (fq 1 (fc gs Y0 (gi (v:=.int 1440) ZZ.ad ⟨()⟩)) UG.nd) (fg (fk (gu (A3 (fc ie Y0 (gi (v:=.int 1440) ZZ.ad ⟨()⟩)) (fc ie Y1 (gi (v:=.int 60) ZZ.af ⟨()⟩)) (fc gs Y1 (gi (v:=.int 60) ZZ.af ⟨()⟩))))))),?_⟩;extract_lets;refine⟨(),(()),zP9,?_⟩;exact⟨(),(()),zD9,(),(()),zD9,(),(()),zP9,(zL 3),λp hp=>q p _ (fj hp _) fh⟩
theorem VU:Dx P w base ZZ.cl 1 (Wd K):=by
 refine ZZ.cl.dfs Yu (by trivial) ?_;rintro _ _ _ _ s H _ Q E hr⟨l,rfl,hl,q⟩;refine⟨_,(fg (fk (j5 (hV jV Y0 (fW [])) (jm (gM ui ZZ.e3 boot_all (A1 (oG [] [] (iX Y0) (λ_ _ _ _ _ _=>nL) (λ_ _ _ _ _ _=>(hV yn Y0 (gi (v:=.str (Tx [48,49,50,51,52,53,54,55,56,57])) ZZ.eh ⟨()⟩)))))))))),?_⟩;refine⟨(),rfl,(),?_⟩;rw[qL l []];by_cases c:l=[]
 ·rw[eY c];have e:mj l=false:=by unfold mj;rw[eY c];rfl
  rw[e] at q;exact gf (q H (Same.refl H))
 ·rw[fB c];have e:mj l=l.all lh:=by unfold mj;rw[fB c];rfl
  rw[e] at q;refine gk ⟨(),Tx l,rfl,Yq (xs:=l) (λi z=>z=((l.take i).map lh).map V.bl) (by rw[eT];omega) rfl ?_ ?_⟩
  ·intro i ch z D H2 E' F' hv hR hD s2 hz hE hF;subst hR;refine⟨(),ch,rb,rfl,rfl,?_⟩;rw[XB];exact hE _ _ (Same.refl _) (by rw[b8,hv,bB,bB];rfl)
  ·intro D H2 z hR hD s2 hz;subst hR;rw[cQ] at hz;refine⟨D,l.map lh,rfl,SqL.of hz,?_⟩;rw[List.all_map];exact q H2 s2
theorem CO:Dx P w base ZZ.cy 2 (Qo K):=by
 refine ZZ.cy.dfs IJ (by trivial) ?_;rintro _ _ _ _ s H _ Q E hr⟨l,rfl,hl,q⟩;refine⟨_,(fg (fk (j5 (eD (VU ZZ) hr (A1 Y0)) (jm (qk (hV gb Y0 (fW [48])) (jm (hV jV (fv xX Y0 eI) (fW [48])))))))),?_⟩;refine⟨(),l,rfl,hl,λH1 s1=>⟨(),?_⟩⟩;refine C7 (λc=>?_) (λc=>?_)
 ·have hne:l≠[]:=λe=>by
   unfold mj at c;rw[eY e] at c;exact absurd (show false=true from c) a8
  refine⟨(),rfl,(),?_⟩;rw[qL l [48]];by_cases c2:l=[48]
  ·rw[eY c2];have e:iS l=true:=by unfold iS;rw[c,eY c2];rfl
   rw[e] at q;exact gk (q H1 s1)
  ·rw[fB c2];obtain⟨x,r,rfl⟩:∃x r,l=x::r:=by
    cases l with
    |nil=>exact absurd rfl hne
    |cons x r=>exact⟨x,r,rfl⟩
   refine gf ⟨(),x::r,0,x,rfl,rfl,(by rw[eT];omega),(show jb (x::r) ((0:Nat):Int)=some x from qv rfl),rfl,?_⟩;rw[qL [x] [48]];have e:iS (x::r)= !decide ([x]=[48]):=by
    unfold iS;rw[c,fB c2];show (!decide (x=48))=_;rw[decide_eq_decide.mpr (show x=48↔[x]=[48] by simp)]
   rw[e] at q;exact q H1 s1
 ·have e:iS l=false:=by unfold iS;rw[c];rfl
  rw[e] at q;exact q H1 s1
theorem nU:Dx P w base ZZ.e5 1 (Xj K):=by
 refine ZZ.e5.dfs P6 (by trivial) ?_;rintro _ _ _ _ s H _ Q E hr⟨m,n,rfl,h0,q⟩;refine⟨_,(fg (fk (hV gb (fc om (fc rD Y0 Y1) eI) eI))),?_⟩;refine⟨(),(),(()),h0.2,(()),rfl,?_⟩;have e:decide (V.int (Builtin.bitAnd (m / 2^n.toNat) 1)=V.int 1)=tb m n.toNat:=by
  rw[←Qz h0.1];exact decide_eq_decide.mpr int_eq
 show Q (.bl (decide (V.int (Builtin.bitAnd (m / 2^n.toNat) 1)=V.int 1))) H;rw[e];exact q
theorem QF:Dx P w base ZZ.ep 1 (QM K):=by
 refine ZZ.ep.dfs UA (by trivial) ?_;rintro _ _ _ _ s H _ Q E hr⟨a,zs,rfl,hS,hz,q⟩;refine⟨_,(fe (fq 1 eI UA.nd) (fe (iw (lE (K:=K) Y0) (gN 2 UA.nd) (fg (fq 1 (fc mm Y1 (fc lG eI Y2)) UA.nd)) PassesOwn.never) (fg (fk Y1)))),?_⟩;extract_lets;refine⟨(),a,rfl,⟨_,hS⟩,l9 (K:=K) (a:=a) (xs:=zs.map V.int) (λi σ H2=>H2=H/\∃u:Option V,σ=[some (.ref a),some (.int (fu (zs.take i))),u]) ⟨rfl,()⟩ (λi σ H2 _ hP=>by rw[hP.1];exact hS) ?_ ?_⟩
 ·rintro i x σ H2 hx ⟨rfl,u,rfl⟩;rw[bC] at hx;cases ez:zs[i]? with
  |none=>rw[ez] at hx;cases hx
  |some z=>
   rw[ez] at hx;obtain rfl:V.int z=x:=aZ hx;have h:=hz z (bU ez);have et:fu (zs.take (i+1))=Builtin.bitOr (fu (zs.take i)) (1*2^z.toNat):=by
    rw[b8,ez,←Bt];rfl
   exact⟨(),(),(()),⟨h.1,⋯,by decide⟩,(()),rfl,_,by rw[et];rfl⟩
 ·rintro σ H2 ⟨rfl,u,rfl⟩;rw[aR,cQ];exact⟨(),q⟩
theorem Z8:Dx P w base ZZ.cz 2 (Zy K):=by
 refine ZZ.cz.dfs Vv (by trivial) ?_;rintro _ _ _ _ s H _ Q E hr⟨m,rfl,hm,q⟩;refine⟨_,(fg (fk (oG ["mask"] [0] (lO ZZ.aa (A1 (zJ Y0))) (λ_ _ _ _ _ _=>(F7 (gL (eD (nU ZZ) hr (A2 Y1 Y0))))) (λ_ _ _ _ _ _=>Y0)))),?_⟩;refine⟨(),rfl,(),rfl,(),⋯,⋯,qm (λi z=>z=(flt (tb m) 0 i).map V.int) (by rw[eT,bQ];omega) Ii ?_ ?_⟩
 ·intro i z D H2 E' F' hi hR hD s2 hz hE hF;subst hR;refine⟨(),(),_,(),⟨hm.1,⋯⟩,(),?_⟩;have e0:(0+(i:Int)).toNat=i:=⋯;show if tb m (0+(i:Int)).toNat=true then _ else _
  rw[e0];by_cases c:tb m i=true
  ·rw[if_pos c];exact⟨(),hE _ _ (Same.refl _) (by rw[vV c,bB];rfl)⟩
  ·rw[if_neg c];exact hF _ (Same.refl _) (by rw[qP (by simpa using c)])
 ·intro D H2 z hR hD s2 hz;subst hR;rw[bQ] at hz;exact q D H2 s2 hz
theorem FV:Dx P w base ZZ.d4 2 (Ht K):=by
 refine ZZ.d4.dfs Wx (by trivial) ?_;rintro _ _ _ _ s H _ Q E hr⟨a,b,st,rfl,ha,hb,hs,q⟩;refine⟨_,(fg (fk (eD (QF ZZ) hr (A1 (gT oq ZZ.an PyProof.Rows.boot_list (A1 (gT rZ ZZ.aa eZ (A3 Y0 (fc fV Y1 eI) Y2)))))))),?_⟩;obtain⟨n1,n2⟩:=nS ha.1 hb.2 hs.1;have bd:∀z∈iJ a b st,0<=z/\z<=100000:=λz hz=>by
  have:=(ww hs.1).mp hz;omega
 refine⟨(),(),(()),(),_,_,(),⟨hs.1,⋯⟩,λp hp=>⟨p,a,b+1,st,(Builtin.Range.rangeSize a (b+1) st).toNat,rfl,fh,oO ha.1 ha.2 hb.1 hb.2 hs.1 hs.2,n2,⋯,λl hl=>⟨l,iJ a b st,rfl,SqL.of (by rw[l6,bY];exact fh),bd,?_⟩⟩⟩;exact q _ ((fj hp _).trans (fj hl _))
theorem pq:Dx P w base ZZ.cm 3 (anJ K):=by
 refine ZZ.cm.dfs UM (by trivial) ?_;rintro _ _ _ _ s H _ Q E hr⟨l,lo,hi,rfl,hl,q⟩;refine⟨_,(fe (fJ (iR (gL (eD (CO ZZ) hr (A1 Y0)))) (fg (fk eN)) fN) (fe (fq 3 (gT IZ ZZ.a7 PyProof.Rows.boot_int (A1 Y0)) UM.nd) (fe (fJ (tG jo jo Y1 Y3 Y2) (fg (fk Y3)) fN) (fg (fk eN))))),?_⟩;extract_lets;refine⟨(),l,rfl,⋯,λH1 s1=>⟨(),?_⟩⟩;by_cases c:iS l=true
 ·rw[c];obtain⟨d1,d2⟩:=VO c;refine gf ⟨(),l,rfl,d1,d2,⋯,?_⟩;refine⟨(),(),(()),(),?_⟩;show if decide (lo<=dv l)=true then _ else _
  refine gn (λc1=>⟨(),(()),(),?_⟩) (λc1=>⟨(),?_⟩)
  ·show if decide (dv l<=hi)=true then _ else _
   refine gn (λc2=>?_) (λc2=>?_)
   ·have e:gI lo hi l=some (dv l):=by unfold gI;rw[if_pos c,if_pos ⟨c1,c2⟩]
    rw[e] at q;exact⟨(),q H1 s1⟩
   ·have e:gI lo hi l=none:=by unfold gI;rw[if_pos c,if_neg λz=>c2 z.2]
    rw[e] at q;exact q H1 s1
  ·have e:gI lo hi l=none:=by unfold gI;rw[if_pos c,if_neg λz=>c1 z.1]
   rw[e] at q;exact gf (q H1 s1)
 ·have c':iS l=false:=by simpa using c
  rw[c'];have e:gI lo hi l=none:=by unfold gI;rw[if_neg c]
  rw[e] at q;exact gk (q H1 s1)
theorem Dg:Dx P w base ZZ.d5 4 (Xy K):=by
 refine ZZ.d5.dfs UO (by trivial) ?_;rintro _ _ _ _ s H _ Q E hr⟨l,lo,hi,rfl,hl,q⟩;refine⟨_,(fe (fJ (fG gb Y0 (fW [42])) (fg (fk (gu (A2 Y1 Y2)))) fN) (fe (Bf 3 ["low","high"] [1,2] (lE (K:=K) (oS Y0 (fW [45]))) (λ_ _ _ _ _ _=>nL) (λ_ _ _ _ _ _=>(eD (pq ZZ) hr (A3 Y0 Y1 Y2))) UO.nd) (fe (fJ (tW (iF (fG jR (gM (k6 (K:=K)) ZZ.ag PySem.boot_len (A1 Y3)) eI) (iF (fG (mP (K:=K)) eN Y3) (jp (fG jR (fv (gv (K:=K)) Y3 eI) (fv (gv (K:=K)) Y3 (mH m6 eI))))))) (fg (fk eN)) fN) (fg (fk (gu (A2 (fv (gv (K:=K)) Y3 eI) (fv (gv (K:=K)) Y3 (mH m6 eI))))))))),?_⟩
 extract_lets;refine⟨(),rfl,(),?_⟩;rw[qL l [42]];by_cases c:l=[42]
 ·rw[eY c];refine gk ⟨(),(),(zL 2),λp hp=>?_⟩;have e:iP lo hi l=some (lo,hi):=by unfold iP;rw[if_pos c]
  rw[e] at q;exact q _ _ (fj hp _) ⟨p,rfl,fh⟩
 rw[fB c];have hsl:=qC 45 l;have eR:iP lo hi l=mX ((fO 45 l).map (gI lo hi)):=by unfold iP;rw[if_neg c]
 rw[eR] at q;refine gf ⟨(),rfl,l,45,rfl,rfl,(by rw[eT];omega),λps hps=>⟨ps,rfl,⟨_,SqL.of fh⟩,DF (xs:=(fO 45 l).map λq=>V.str (Tx q)) (λi z=>z=((fO 45 l).take i).map λq=>oV (gI lo hi q)) (by rw[aR,eT];omega) rfl (SqL.of fh) ?_ ?_⟩⟩
 ·intro i v z D H2 E' F' hv hR hD s2 hz hE hF;subst hR;rw[bC] at hv;cases ew:(fO 45 l)[i]? with
  |none=>rw[ew] at hv;cases hv
  |some w0=>
   rw[ew] at hv;obtain rfl:V.str (Tx w0)=v:=aZ hv;have hw:=n8 45 l w0 (bU ew);exact⟨(),(),(),w0,lo,hi,rfl,⋯,λH3 s3=>hE _ _ s3 (by rw[b8,ew,bB];rfl)⟩
 intro D H2 z hR hD s2 hz;subst hR;rw[aR,cQ] at hz;have hz2:H2 D=some (.lst (((fO 45 l).map (gI lo hi)).map oV)):=by rw[hz,bY];rfl
 have hlen:((fO 45 l).map (gI lo hi)).length<=600:=by rw[aR];omega
 have hnn:(fO 45 l).map (gI lo hi)≠[]:=λe=>Vr 45 l (List.map_eq_nil_iff.mp e);generalize (fO 45 l).map (gI lo hi)=es at hz2 q hlen hnn;have s02:Same H H2:=(fj hps _).trans s2;have hfl:(es.map oV).all kY=true:=QI es;refine⟨(),D,(),.inl (SqL.of hz2),(()),(),?_⟩
 match es,hnn with
 |[],h=>exact absurd rfl h
 |[none],_=>
  refine gf ⟨(),D,(),.inl (SqL.of hz2),rfl,hfl,(),gk ?_⟩;exact q _ _ s02 rfl
 |[some a],_=>
  refine gf ⟨(),D,(),.inl (SqL.of hz2),rfl,hfl,(),gf ⟨(),D,_,(()),SqL.of hz2,rfl,(),(),D,_,(()),SqL.of hz2,rfl,(()),(),?_⟩⟩;rw[fB (show ¬a<a by omega)];refine gf ⟨(),D,_,(()),SqL.of hz2,rfl,(),(),D,_,(()),SqL.of hz2,rfl,(zL 2),λp hp=>?_⟩;exact q _ _ (s02.trans (fj hp _)) ⟨p,rfl,fh⟩
 |[none,y],_=>
  refine gf ⟨(),D,(),.inl (SqL.of hz2),rfl,hfl,(),gk ?_⟩;exact q _ _ s02 rfl
 |[some a,none],_=>
  refine gf ⟨(),D,(),.inl (SqL.of hz2),rfl,hfl,(),gk ?_⟩;exact q _ _ s02 rfl
 |[some a,some b],_=>
  refine gf ⟨(),D,(),.inl (SqL.of hz2),rfl,hfl,(),gf ⟨(),D,_,(()),SqL.of hz2,rfl,(),(),D,_,(()),SqL.of hz2,rfl,(()),(),?_⟩⟩;refine gn (λc2=>?_) (λc2=>?_)
  ·have e:mX [some a,some b]=none:=by show (if b<a then none else some (a,b))=none;rw[if_pos c2]
   rw[e] at q;exact q _ _ s02 rfl
  ·have e:mX [some a,some b]=some (a,b):=by show (if b<a then none else some (a,b))=some (a,b);rw[if_neg c2]
   rw[e] at q;refine⟨(),D,_,(()),SqL.of hz2,rfl,(),(),D,_,(()),SqL.of hz2,rfl,(zL 2),λp hp=>?_⟩;exact q _ _ (s02.trans (fj hp _)) ⟨p,rfl,fh⟩
 |x::y::u::r,_=>
  have e3:decide ((2:Int)<(((x::y::u::r).map oV).length:Nat))=true:=eY (by rw[aR];show (2:Int)<((r.length+1+1+1:Nat):Int);omega);refine jM e3 ?_;have e:mX (x::y::u::r)=none:=by cases x<;>cases y<;>rfl
  rw[e] at q;exact q _ _ s02 rfl
theorem Hz:Dx P w base ZZ.b6 5 (O2 K):=by
 refine ZZ.b6.dfs UP (by trivial) ?_;rintro _ _ _ _ s H _ Q E hr⟨r,st,lo,hi,rfl,hr1,hs1,hb,q⟩;refine⟨_,(fe (fq 4 (eD (Dg ZZ) hr (A3 Y0 Y2 Y3)) UP.nd) (fe (fq 5 (eD (pq ZZ) hr (A3 Y1 eI (gi (v:=.int 99) ZZ.ci ⟨()⟩))) UP.nd) (fe (fJ (tW (iF (fG iZ Y4 eN) (jp (fG iZ Y5 eN)))) (fg (fk eN)) fN) (fe (fq 6 (me (gL (eD (CO ZZ) hr (A1 Y0))) Y3 (fv (f9 (K:=K)) Y4 eI)) UP.nd) (fg (fk (eD (FV ZZ) hr (A3 (fv (f9 (K:=K)) Y4 eI) Y6 Y5)))))))),?_⟩
 extract_lets;refine⟨(),(),(),r,lo,hi,rfl,⋯,λrv H1 s1 hrv=>?_⟩;refine⟨(),st,1,99,rfl,⋯,λH2 s2=>?_⟩;cases er:iP lo hi r with
 |none=>
  rw[er] at hrv;have hrv:rv=.non:=hrv;subst hrv;have e:kc lo hi r st=none:=by unfold kc;rw[er]
  rw[e] at q;exact⟨(),rfl,(),gk (q H2 (s1.trans s2))⟩
 |some ab=>
  obtain⟨a,b⟩:=ab;rw[er] at hrv;obtain⟨p,rfl,hp⟩:=hrv;have bd:=EJ hb.2.1 er;refine⟨(),rfl,(),hX rfl ⟨(),rfl,(),?_⟩⟩;cases es:gI 1 99 st with
  |none=>
   have e:kc lo hi r st=none:=by unfold kc;rw[er,es]
   rw[e] at q;exact jM rfl (q H2 (s1.trans s2))
  |some sv=>
   have bs:=Fu es;have hp2:=s2 _ _ hp;refine hX rfl ⟨(),r,rfl,⋯,λH3 s3=>⟨(),?_⟩⟩;have hp3:=s3 _ _ hp2;refine C7 (λc=>?_) (λc=>?_)
   ·have e:kc lo hi r st=some (kT a hi sv):=by unfold kc;rw[er,es];show some (kT a (if iS r=true then hi else b) sv)=_;rw[if_pos c]
    rw[e] at q;refine⟨(),(),p,_,(()),SqT.of hp3,rfl,(),(),a,hi,sv,rfl,⟨⋯,⋯⟩,⟨⋯,⋯⟩,⟨⋯,⋯⟩,λH4 s4=>?_⟩;exact q H4 (s1.trans (s2.trans (s3.trans s4)))
   ·have e:kc lo hi r st=some (kT a b sv):=by unfold kc;rw[er,es];show some (kT a (if iS r=true then hi else b) sv)=_;rw[if_neg (by rw[c];exact a8)]
    rw[e] at q;refine⟨(),p,_,(()),SqT.of hp3,rfl,(),p,_,(()),SqT.of hp3,rfl,(),(),a,b,sv,rfl,⟨⋯,⋯⟩,⟨⋯,⋯⟩,⟨⋯,⋯⟩,λH4 s4=>?_⟩;exact q H4 (s1.trans (s2.trans (s3.trans s4)))
theorem Cu:Dx P w base ZZ.dc 6 (apT K):=by
 refine ZZ.dc.dfs UK (by trivial) ?_;rintro _ _ _ _ s H _ Q E hr⟨l,lo,hi,rfl,hl,hb,q⟩;refine⟨_,(fe (fq 3 (oS Y0 (fW [47])) UK.nd) (fe (fJ (fG gb (gM (k6 (K:=K)) ZZ.ag PySem.boot_len (A1 Y3)) eI) (fg (fk (eD (Hz ZZ) hr (aC (fv (gv (K:=K)) Y3 eI) (A3 (fv (gv (K:=K)) Y3 eI) Y1 Y2))))) fN) (fe (fq 4 (eD (Dg ZZ) hr (A3 Y0 Y1 Y2)) UK.nd) (fe (fJ (fG iZ Y4 eN) (fg (fk eN)) fN) (fg (fk (eD (FV ZZ) hr (A3 (fv (f9 (K:=K)) Y4 eI) (fv (f9 (K:=K)) Y4 eI) eI)))))))),?_⟩
 extract_lets;have hsl:=qC 47 l;have hml:=n8 47 l;refine⟨(),rfl,l,47,rfl,rfl,(by rw[eT];omega),λps hps=>?_⟩;have s0:=fj hps (.lst ((fO 47 l).map λq=>V.str (Tx q)));refine⟨(),ps,(),.inl (SqL.of fh),rfl,(),?_⟩;have two:(∃r s,fO 47 l=[r,s])∨(∀r s,fO 47 l≠[r,s]):=by
  by_cases z:∃r s,fO 47 l=[r,s]
  ·exact .inl z
  ·exact .inr λr s e=>z ⟨r,s,e⟩
 rcases two with ⟨r,s,e2⟩ | hno
 ·have e:gG lo hi l=kc lo hi r s:=by unfold gG;rw[e2]
  rw[e] at q;have h1:=hml r (by rw[e2];simp);have h2:=hml s (by rw[e2];simp);rw[e2];refine jM rfl ⟨(),ps,_,(()),SqL.of fh,rfl,(),ps,_,(()),SqL.of fh,rfl,(),(),r,s,lo,hi,rfl,⋯,⋯,hb,λH1 s1=>?_⟩;exact q H1 ((fj hps _).trans s1)
 ·have hlen:¬(fO 47 l).length=2:=λe=>by
   match h:fO 47 l,e with
   |[r,s],_=>exact hno r s h
  have e:gG lo hi l=match iP lo hi l with | some (a,b)=>some (kT a b 1) | none=>none:=by
   unfold gG;split
   ·rename_i r s h;exact absurd h (hno r s)
   ·rfl
  refine hX (fB λz=>hlen (by have z:=V.int.inj z;rw[aR] at z;omega)) ?_;refine⟨(),(),(),l,lo,hi,rfl,⋯,λrv H1 s1 hrv=>?_⟩;cases er:iP lo hi l with
  |none=>
   rw[er] at hrv e;have hrv:rv=.non:=hrv;subst hrv;rw[e] at q;exact⟨(),rfl,(),gk (q H1 (s0.trans s1))⟩
  |some ab=>
   obtain⟨a,b⟩:=ab;rw[er] at hrv e;obtain⟨p,rfl,hp⟩:=hrv;have bd:=EJ hb.2.1 er;have e:gG lo hi l=some (kT a b 1):=e;rw[e] at q;refine⟨(),rfl,(),hX rfl ⟨(),p,_,(()),SqT.of hp,rfl,(),p,_,(()),SqT.of hp,rfl,a,b,1,rfl,⟨⋯,⋯⟩,⟨⋯,⋯⟩,zD9,λH4 s4=>?_⟩⟩;exact q H4 (s0.trans (s1.trans s4))
theorem Yo:Dx P w base ZZ.c0 7 (M4 K):=by
 refine ZZ.c0.dfs UJ (by trivial) ?_;rintro _ _ _ _ s H _ Q E hr⟨l,lo,hi,rfl,hl,hb,⟨hk,hok⟩,q⟩;refine⟨_,(fe (fJ (tW (iF (iR (gL (gM nJ ZZ.ab PyProof.Rows.boot_isinstance (A2 Y0 (lx ZZ.ae PyProof.Rows.boot_str))))) (jp (fG jR (gM Ab ZZ.ag PySem.boot_len (A1 Y0)) (gi (v:=.int 300) ZZ.ba ⟨()⟩))))) (fg mn) fN) (fe (fq 3 (oS Y0 (fW [44])) UJ.nd) (fe (fq 4 eI UJ.nd) (fe (iw (iE ZZ.am (mq (oy (K:=K)) Y3 oJ (kW (gi (v:=.int 40) ZZ.aj ⟨()⟩)))) (kO (K:=K) (gx (gN 5 UJ.nd) (gx (gN 6 UJ.nd) jN))) (fe (fq 7 (eD (Cu ZZ) hr (A3 Y6 Y1 Y2)) UJ.nd) (fe (fJ (fG iZ Y7 eN) (fg mn) fN) (fg (fq 4 (fc mm Y4 Y7) UJ.nd)))) PassesOwn.never) (fe (fJ (fG jR (gM (k6 (K:=K)) ZZ.ag PySem.boot_len (A1 Y3)) (gi (v:=.int 40) ZZ.aj ⟨()⟩)) (fg mn) fN) (fg (fk Y4))))))),?_⟩
 extract_lets;have hml:=n8 44 l;refine⟨(),_,.str,.str,rfl,(by decide),rfl,(),hX rfl ⟨(),l,rfl,(by rw[eT];omega),(()),(),?_⟩⟩;rw[fB (show ¬(300:Int)<((l.length:Nat):Int) by omega)];refine gf ⟨(),rfl,l,44,rfl,rfl,(by rw[eT];omega),λps hps=>?_⟩;have s0:=fj hps (.lst ((fO 44 l).map λq=>V.str (Tx q)));refine⟨(),(),ps,(),SqL.of fh,λpc hpc=>?_⟩;have ecut:kr ((fO 44 l).map λq=>V.str (Tx q)) none (some 40)=(fO 44 l).map λq=>V.str (Tx q):=Cy (by rw[aR];exact hk)
 rw[ecut];have s1:=fj hpc (.lst ((fO 44 l).map λq=>V.str (Tx q)));refine⟨pc,rfl,⟨_,SqL.of fh⟩,wo (K:=K) (a:=pc) (xs:=(fO 44 l).map λq=>V.str (Tx q)) (λi σ H2=>∃(u1 u2 u3:Option V),σ=[some (.str (Tx l)),some (.int lo),some (.int hi),some (.ref ps),some (.int (gz ((lP lo hi l).take i))),u1,u2,u3]/\Same (upd (upd H ps (.lst ((fO 44 l).map λq=>V.str (Tx q)))) pc (.lst ((fO 44 l).map λq=>V.str (Tx q)))) H2) ⟨_,_,(),Same.refl _⟩ (λi σ H2 _ ⟨_,_,_,_,s2⟩=>SqL.of (s2 _ _ fh)) ?_ ?_⟩
 ·rintro i x σ H2 T hx ⟨u1,u2,u3,rfl,s2⟩ hT;rw[bC] at hx;cases ew:(fO 44 l)[i]? with
  |none=>rw[ew] at hx;cases hx
  |some w0=>
   rw[ew] at hx;obtain rfl:V.str (Tx w0)=x:=aZ hx;have hw:=hml w0 (bU ew);obtain⟨m,em⟩:=dP.mp (hok w0 (bU ew));refine⟨T,(),SqT.of fh,rfl,_,(),(()),?_⟩;refine⟨(),(),(),w0,lo,hi,rfl,⋯,hb,λH3 s3=>?_⟩;rw[em];refine⟨(),rfl,(),hX rfl ⟨(),(),(()),?_⟩⟩;have et:gz ((lP lo hi l).take (i+1))=Builtin.bitOr (gz ((lP lo hi l).take i)) m:=by
    rw[←pX,b8];unfold lP;rw[bC,ew];show gz (_++[(gG lo hi w0).getD 0])=_;rw[em];rfl
   exact⟨_,_,_,by rw[et];rfl,s2.trans ((fj hT _).trans s3)⟩
 ·rintro σ H2 ⟨u1,u2,u3,rfl,s2⟩;refine⟨(),ps,(),.inl (SqL.of (s2 _ _ (s1 _ _ fh))),(()),(),?_⟩;rw[fB (show ¬(40:Int)<((((fO 44 l).map λq=>V.str (Tx q)).length:Nat):Int) by rw[aR];omega)];refine gf ⟨(),?_⟩;rw[aR,show (fO 44 l).length=(lP lo hi l).length by unfold lP;rw[aR],cQ];exact q H2 (s0.trans (s1.trans s2))
theorem Cn:Dx P w base ZZ.c1 1 (To K):=by
 refine ZZ.c1.dfs Sm (by trivial) ?_;rintro f _ _ _ s H _ Q E hr⟨d,f,rfl,q⟩;refine⟨_,(fg (fk (fc gs (fc gm (fc fV Y1 Y0) eI) eI))),?_⟩;exact⟨(),(),(()),(()),(()),zP9,q⟩
theorem vU:Dx P w base ZZ.d6 1 (Qm K):=by
 refine ZZ.d6.dfs Ll (by trivial) ?_;rintro _ _ _ _ s H _ Q E hr⟨l,rfl,hl,q⟩;refine⟨_,(fg (fk (fc gm (fc lG eI Y0) eI))),?_⟩;exact⟨(),(()),⟨⋯,⋯,by decide⟩,(()),q⟩
theorem BA:Dx P w base ZZ.b7 2 (Tp K):=by
 refine ZZ.b7.dfs UE (by trivial) ?_;rintro _ _ _ _ s H _ Q E hr⟨d,l,fi,rfl,q⟩;refine⟨_,(fe (fq 3 (eD (Cn ZZ) hr (A2 Y0 Y2)) UE.nd) (fe (fJ (fG gb Y3 (gi (v:=.int 6) ZZ.dv ⟨()⟩)) (fg (fk (me (fG jR Y0 eI) (fc gm Y0 eI) eI))) fN) (fe (fJ (fG gb Y3 (gi (v:=.int 0) ZZ.br ⟨()⟩)) (fg (fk (me (fG qQ Y0 Y1) (fc fV Y0 eI) (fc gm Y1 eI)))) fN) (fg (fk Y0))))),?_⟩;extract_lets
 refine⟨(),(),_,(),?_⟩;refine⟨(),rfl,(),gp (λc=>?_) (λc=>?_)⟩
 ·refine⟨(),(()),(),gn (λc2=>⟨(),(()),?_⟩) (λc2=>?_)⟩
  ·have e:nw d l fi=d-1:=by unfold nw;rw[if_pos c,if_pos c2]
   rw[e] at q;exact q
  ·have e:nw d l fi=3:=by unfold nw;rw[if_pos c,if_neg c2]
   rw[e] at q;exact q
 ·refine⟨(),rfl,(),gp (λc1=>?_) (λc1=>?_)⟩
  ·refine⟨(),(),(()),(),gn (λc2=>⟨(),(()),?_⟩) (λc2=>⟨(),(()),?_⟩)⟩
   ·have e:nw d l fi=d+1:=by unfold nw;rw[if_neg c,if_pos c1,if_pos c2]
    rw[e] at q;exact q
   ·have e:nw d l fi=l-2:=by unfold nw;rw[if_neg c,if_pos c1,if_neg c2]
    rw[e] at q;exact q
  ·have e:nw d l fi=d:=by unfold nw;rw[if_neg c,if_neg c1]
   rw[e] at q;exact⟨(),q⟩
theorem PX:Dx P w base ZZ.dd 1 (Wy K):=by
 refine ZZ.dd.dfs ZQ (by trivial) ?_;rintro _ _ _ _ s H _ Q E hr⟨wd,fi,rfl,q⟩;refine⟨_,(fg (fk (fc fV eI (fc gs (fc gm Y0 Y1) eI)))),?_⟩;exact⟨(),(),(()),(()),zP9,(()),q⟩
theorem Lr:Dm P w mg base ZZ.de 1 (VB K aI):=by
 refine ZZ.de.dfs SL (by trivial) ?_;rintro _ _ _ _ s H _ Q E hr⟨p,l,fi,rfl,q⟩;refine⟨_,(fg (fk eI)),?_⟩;exact q
theorem Vl:Dm P w mg base ZZ.bn 1 (Lo K aB):=by
 refine ZZ.bn.dfs Qv (by trivial) ?_;rintro _ _ _ _ s H _ Q E hr⟨p,dx,m,rfl,hp,q⟩;refine⟨_,(fg (kB Y0 Y1)),?_⟩;exact⟨(),(),p,aB,dx,[],rfl,hp,ZZ.ar.cl,ZZ.a4,(by show 0<1000;decide),q⟩
theorem HR:Dm P w mg base ZZ.b8 2 (X7 K aB):=by
 refine ZZ.b8.dfs UZ (by trivial) ?_;rintro _ _ _ _ s H _ Q E hr⟨p,dx,m,l,fi,rfl,hp,hl,q⟩;refine⟨_,(fg (fk (fc om (jd (K:=K) Y0) (eD (vU ZZ) hr (A1 Y1))))),?_⟩;exact⟨(),p,aB,dx,_,(),hp,ZZ.ar.cl,ZZ.a4,rfl,(),(),hl.1,(()),q⟩
theorem FY:DfMD P w K mg base aE "__init__" 1 ["self","back"] (TY K aE) [.int 0]:=by
 refine ZZ.bt.dfs Kc (by trivial) ?_;rintro _ _ _ _ s H _ Q E hr⟨p,dx,m,rfl,hp,q⟩;refine⟨_,(fg (kB Y0 Y1)),?_⟩;exact⟨(),(),p,aE,dx,[],rfl,hp,ZZ.as.cl,ZZ.aw,(by show 0<1000;decide),q⟩
theorem ZK:Dm P w mg base ZZ.df 1 (W3 K aE):=by
 refine ZZ.df.dfs Nz (by trivial) ?_;rintro _ _ _ _ s H _ Q E hr⟨p,dx,b,l,fi,rfl,hp,hb,hl,q⟩;refine⟨_,(fe (fJ (fG pB (jd (K:=K) Y0) Y1) (fg (fk eI)) fN) (fg (fk (fc lG eI (fc gm Y1 (jd (K:=K) Y0)))))),?_⟩;extract_lets;refine⟨(),p,aE,dx,_,(),hp,ZZ.as.cl,ZZ.aw,rfl,(),(()),(),gn (λc=>?_) (λc=>?_)⟩
 ·have e:l8 b l=0:=by unfold l8;rw[if_pos c]
  rw[e] at q;exact q
 ·have e:l8 b l=1*2^(l-b).toNat:=by unfold l8;rw[if_neg c]
  rw[e] at q;have:=hl.1.2;exact⟨(),(),p,aE,dx,_,(),hp,ZZ.as.cl,ZZ.aw,rfl,(()),(()),⟨⋯,⋯,by decide⟩,q⟩
theorem ZH:Dm P w mg base ZZ.bu 1 (Kl K aF):=by
 refine ZZ.bu.dfs Lk (by trivial) ?_;rintro _ _ _ _ s H _ Q E hr⟨p,dx,m,rfl,hp,q⟩;refine⟨_,(fg (kB Y0 Y1)),?_⟩;exact⟨(),(),p,aF,dx,[],rfl,hp,ZZ.ax.cl,ZZ.ay,(by show 0<1000;decide),q⟩
theorem Kq:Dm P w mg base ZZ.dg 3 (Sy K aF):=by
 refine ZZ.dg.dfs K0 (by trivial) ?_;rintro _ _ _ _ s H _ Q E hr⟨p,dx,d,l,fi,rfl,hp,ok,q⟩;refine⟨_,(fe (fJ (fG jR (jd (K:=K) Y0) Y1) (fg (fk eI)) fN) (fg (fk (fc lG eI (eD (BA ZZ) hr (A3 (jd (K:=K) Y0) Y1 Y2)))))),?_⟩;extract_lets;refine⟨(),p,aF,dx,_,(),hp,ZZ.ax.cl,ZZ.ay,rfl,(),(()),(),gn (λc=>?_) (λc=>?_)⟩
 ·have e:lR d l fi=0:=by unfold lR;rw[if_pos c]
  rw[e] at q;exact q
 ·have e:lR d l fi=1*2^(nw d l fi).toNat:=by unfold lR;rw[if_neg c]
  rw[e] at q;have hn:=rE ok ⋯;exact⟨(),p,aF,dx,_,(),hp,ZZ.ax.cl,ZZ.ay,rfl,(),(),_,_,(),(()),⟨⋯,⋯,by decide⟩,q⟩
theorem VA:Dm P w mg base ZZ.bv 3 (ajT K aH):=by
 refine ZZ.bv.dfs TQ (by trivial) ?_;rintro _ _ _ _ s H _ Q E hr⟨p,dx,l,fi,rfl,hp,ok,q⟩;refine⟨_,(fg (fk (fc lG eI (eD (BA ZZ) hr (A3 Y1 Y1 Y2))))),?_⟩;have hn:=rE ok (aS _);exact⟨(),(),(),_,_,(),(()),⟨⋯,⋯,by decide⟩,q⟩
theorem M5:Dm P w mg base ZZ.bj 1 (Ki K aD):=by
 refine ZZ.bj.dfs TC (by trivial) ?_;rintro _ _ _ _ s H _ Q E hr⟨p,dx,m,rfl,hp,q⟩;refine⟨_,(fg (kB Y0 Y1)),?_⟩;exact⟨(),(),p,aD,dx,[],rfl,hp,ZZ.ao.cl,ZZ.az,(by show 0<1000;decide),q⟩
theorem Ta:Dm P w mg base ZZ.bw 2 (R7 K aD):=by
 refine ZZ.bw.dfs U4 (by trivial) ?_;rintro _ _ _ _ s H _ Q E hr⟨p,dx,m,l,fi,rfl,hp,hm,⟨hl,hf⟩,q⟩;refine⟨_,(fe (fq 3 eI U4.nd) (fe (iw (lO ZZ.aa (A1 eI)) (gN 4 U4.nd) (fg (fq 3 (fc mm Y3 (fc lG (jd (K:=K) Y0) (fc ii eI Y4))) U4.nd)) PassesOwn.never) (fg (fk (fc om (fc lG (fc rD Y3 Y2) eI) (eD (vU ZZ) hr (A1 Y1))))))),?_⟩;extract_lets;have hb:=Sr m (pI hm.1 hm.2);refine⟨(),by decide,by decide,kE (λi σ H2=>H2=H/\∃u:Option V,σ=[some (.ref p),some (.int l),some (.int fi),some (.int (qi m i)),u]) ⟨rfl,()⟩ ?_ ?_⟩
 ·rintro i σ H2 hi ⟨rfl,u,rfl⟩;have hi':i<6:=hi;exact⟨(),(),p,aD,dx,_,(),hp,ZZ.ao.cl,ZZ.az,rfl,(),(()),.inl zD9,(()),⟨⋯,⋯,(by show m.natAbs<2^64;omega)⟩,(()),rfl,()⟩
 ·rintro σ H2 ⟨rfl,u,rfl⟩;exact⟨(),(),(()),hf.1,(()),⟨by decide,by decide,hb.2 fi (iH hf.1 hf.2)⟩,(),(),hl,(()),q⟩
theorem Se:Dm P w mg base ZZ.b9 1 (Oc K aA):=by
 refine ZZ.b9.dfs TK (by trivial) ?_;rintro _ _ _ _ s H _ Q E hr⟨p,dx,wd,m,rfl,hp,q⟩;refine⟨_,(fe (kB Y0 Y1) (fg (kB Y0 Y2))),?_⟩;extract_lets;exact⟨(),(),p,aA,dx,[],rfl,hp,ZZ.a0.cl,ZZ.a5,(by show 0<1000;decide),(),(),p,aA,dx,(),fh,ZZ.a0.cl,ZZ.bd,(by show 1<1000;decide),q⟩
theorem YJ:Dm P w mg base ZZ.d7 2 (Z4 K aA):=by
 refine ZZ.d7.dfs U0 (by trivial) ?_;rintro _ _ _ _ s H _ Q E hr⟨p,dx,wd,m,l,fi,rfl,hp,hw,hm,⟨hl,hf⟩,q⟩;refine⟨_,(fe (fq 3 (fc fV (eD (PX ZZ) hr (A2 (jd (K:=K) Y0) Y2)) (fc ii eI (fc gm (jd (K:=K) Y0) eI))) U0.nd) (fe (fJ (fG jR Y3 Y1) (fg (fk eI)) fN) (fg (fk (fc lG eI Y3))))),?_⟩;extract_lets;have hn:=Zq l (iI hl.1 hl.2) fi (iH hf.1 hf.2) wd (iH hw.1 hw.2) m (wR hm.1 hm.2)
 refine⟨(),p,aA,dx,_,(),hp,ZZ.a0.cl,ZZ.a5,Kp _ _,(),_,(),(),p,aA,dx,_,(),hp,ZZ.a0.cl,ZZ.bd,Mo _ _,(()),(()),.inl zD9,(()),?_⟩;refine⟨(),(),(()),(),gn (λc=>?_) (λc=>?_)⟩
 ·have e:jY wd m l fi=0:=by unfold jY;rw[if_pos (show l<kF wd m fi from c)]
  rw[e] at q;exact q
 ·have e:jY wd m l fi=1*2^(kF wd m fi).toNat:=by unfold jY;rw[if_neg (show ¬l<kF wd m fi from c)]
  rw[e] at q;exact⟨(),(()),⟨hn.2.2.1,bO hn.2.2.2 (by decide),by decide⟩,q⟩
theorem PR:Dm P w mg base ZZ.bo 1 (O1 K aG):=by
 refine ZZ.bo.dfs Wj (by trivial) ?_;rintro _ _ _ _ s H _ Q E hr⟨p,dx,m,rfl,hp,q⟩;refine⟨_,(fg (kB Y0 Y1)),?_⟩;exact⟨(),(),p,aG,dx,[],rfl,hp,ZZ.au.cl,ZZ.av,(by show 0<1000;decide),q⟩
theorem Ra:Dm P w mg base ZZ.ca 2 (Nf K aG):=by
 refine ZZ.ca.dfs VD (by trivial) ?_;rintro _ _ _ _ s H _ Q E hr⟨p,dx,wd,l,fi,rfl,hp,hw,⟨hl,hf⟩,q⟩;refine⟨_,(fg (fk (fc lG eI (fc gm Y1 (fc gs (fc gm (eD (Cn ZZ) hr (A2 Y1 Y2)) (jd (K:=K) Y0)) eI))))),?_⟩;have hn:=Iy l (iI hl.1 hl.2) fi (iH hf.1 hf.2) wd (iH hw.1 hw.2);exact⟨(),(),(),_,(),(),p,aG,dx,_,(),hp,ZZ.au.cl,ZZ.av,rfl,(()),(()),zP9,(()),(()),⟨hn.2.1,bO hn.2.2 (by decide),by decide⟩,q⟩
theorem Kx:Dx P w base ZZ.d8 4 (T6 K aB aE aF aH aD aA aG aI):=by
 refine ZZ.d8.dfs Uq (by trivial) ?_;rintro _ _ _ _ s H _ Q E hr⟨b,ps,ks,l,fi,rfl,hB,fM,oM,hlf,q⟩;refine⟨_,(fe (fq 3 eI Uq.nd) (fe (iw (lE (K:=K) Y0) (gN 4 Uq.nd) (fg (fq 3 (fc mm Y3 (mK (kq ZZ.ar.cl (HR ZZ) hr Y4 (A2 Y1 Y2)) (mK (kq ZZ.as.cl (ZK ZZ) hr Y4 (A2 Y1 Y2)) (mK (kq ZZ.ax.cl (Kq ZZ) hr Y4 (A2 Y1 Y2)) (mK (kq ZZ.bc.cl (VA ZZ) hr Y4 (A2 Y1 Y2)) (mK (kq ZZ.ao.cl (Ta ZZ) hr Y4 (A2 Y1 Y2)) (mK (kq ZZ.a0.cl (YJ ZZ) hr Y4 (A2 Y1 Y2)) (mK (kq ZZ.au.cl (Ra ZZ) hr Y4 (A2 Y1 Y2)) (kq ZZ.e0.cl (Lr ZZ) hr Y4 (A2 Y1 Y2)))))))))) Uq.nd)) PassesOwn.never) (fg (fk Y3)))),?_⟩
 extract_lets;refine⟨(),b,rfl,⟨_,hB⟩,l9 (K:=K) (a:=b) (xs:=ps.map V.ref) (λi σ H2=>H2=H/\∃u4:Option V,σ=[some (.ref b),some (.int l),some (.int fi),some (.int (i8 (ks.take i) l fi)),u4]) ⟨rfl,()⟩ (λi σ H2 _ hP=>by rw[hP.1];exact hB) ?turn ?done⟩
 case done=>
  rintro σ H2 ⟨rfl,u4,rfl⟩;have el:(ps.map V.ref).length=ks.length:=by rw[aR];exact Paired.length fM
  rw[el,cQ];exact⟨(),q⟩
 case turn=>
  rintro i x σ H2 hx ⟨rfl,u4,rfl⟩;rw[bC] at hx;cases ez:ps[i]? with
  |none=>rw[ez] at hx;cases hx
  |some p=>
   rw[ez] at hx;obtain rfl:V.ref p=x:=aZ hx;obtain⟨k,ek,hk⟩:=Ft.get fM ez;have hok:=oM k (bU ek);have et:i8 (ks.take (i+1)) l fi=Builtin.bitOr (i8 (ks.take i) l fi) (k.due l fi):=by
    rw[b8,ek];exact SG _ _ _ _
   rw[et];cases k with
   |num m=>
    obtain⟨dx,hp⟩:=hk;exact⟨(),(.inl ⟨(),p,dx,(),hp,rfl,(),(),p,dx,m,l,fi,rfl,hp,hlf,(()),rfl,()⟩)⟩
   |lst b=>
    obtain⟨dx,hp⟩:=hk;exact⟨(),(.inr (.inl ⟨(),p,dx,(),hp,rfl,(),(),p,dx,b,l,fi,rfl,hp,hok,hlf,(()),rfl,()⟩))⟩
   |nea d=>
    obtain⟨dx,hp⟩:=hk;exact⟨(),(.inr (.inr (.inl ⟨(),p,dx,(),hp,rfl,(),(),p,dx,d,l,fi,rfl,hp,⟨hok,hlf⟩,(()),rfl,()⟩)))⟩
   |wrk=>
    obtain⟨dx,hp⟩:=hk;exact⟨(),(.inr (.inr (.inr (.inl ⟨(),p,dx,(),hp,rfl,(),(),p,dx,l,fi,rfl,hp,hlf.last,(()),rfl,()⟩))))⟩
   |wkd m=>
    obtain⟨dx,hp⟩:=hk;exact⟨(),(.inr (.inr (.inr (.inr (.inl ⟨(),p,dx,(),hp,rfl,(),(),p,dx,m,l,fi,rfl,hp,hok,hlf,(()),rfl,()⟩)))))⟩
   |nth w m=>
    obtain⟨dx,hp⟩:=hk;exact⟨(),(.inr (.inr (.inr (.inr (.inr (.inl ⟨(),p,dx,(),hp,Zw _ _,(),(),p,dx,w,m,l,fi,rfl,hp,hok.1,hok.2,hlf,(()),rfl,()⟩))))))⟩
   |one w=>
    obtain⟨dx,hp⟩:=hk;exact⟨(),(.inr (.inr (.inr (.inr (.inr (.inr (.inl ⟨(),p,dx,(),hp,rfl,(),(),p,dx,w,l,fi,rfl,hp,hok,hlf,(()),rfl,()⟩)))))))⟩
   |nil=>
    obtain⟨dx,hp⟩:=hk;exact⟨(),(.inr (.inr (.inr (.inr (.inr (.inr (.inr ⟨(),p,dx,(),hp,rfl,(),(),p,l,fi,rfl,(()),rfl,()⟩)))))))⟩
theorem IM:Dx P w base ZZ.bx 4 (YU K aB aE aF aH aD aA aG aI):=by
 refine ZZ.bx.dfs UH (by trivial) ?_;rintro _ _ _ _ s H _ Q E hr⟨t,rfl,hl,q⟩;refine⟨_,(fe (fJ (fG gb Y0 (fW [76])) (fg (fk (vL ZZ.as (FY ZZ) hr))) fN) (fe (fJ (fG gb Y0 (fW [76,87])) (fg (fk (yd ZZ.bc ZZ.du))) fN) (fe (fJ (gL (uW Y0 (fW [76,45]))) (fe (fq 1 (eD (pq ZZ) hr (A3 (mq zB Y0 (kW eI) oJ) eI (gi (v:=.int 30) ZZ.c9 ⟨()⟩))) UH.nd) (fg (fk (me (fG iZ Y1 eN) eN (m9 ZZ.as (FY ZZ).dfm hr (A1 Y1)))))) fN) (fe (fJ (gL (Da Y0 (fW [87]))) (fe (fq 2 (eD (pq ZZ) hr (A3 (mq zB Y0 oJ (kW (mH m6 eI))) eI (gi (v:=.int 31) ZZ.be ⟨()⟩))) UH.nd) (fg (fk (me (fG iZ Y2 eN) eN (m9 ZZ.ax (ZH ZZ) hr (A1 Y2)))))) fN) (fg (fk eN)))))),?_⟩
 extract_lets;have hz:t.length<=sizeLine:=by rw[eT];omega
 have hc1:=rm t (some 2) none;have hc2:=rm t none (some (-1));refine⟨(),rfl,(),je (λc=>?a0) (λc1=>⟨(),rfl,(),je (λc=>?a1) (λc2=>⟨(),rfl,t,[76,45],rfl,rfl,(),gn (λc=>?a2) (λc3=>⟨(),rfl,t,87,rfl,rfl,(),gn (λc=>?a3) (λc4=>?a4)⟩)⟩)⟩)⟩
 case a0=>
  have e:j9 t=some (.lst 0):=by unfold j9;rw[if_pos c]
  rw[e] at q;exact λxo dx nx ndx nex=>⟨xo,dx,0,rfl,fh,rfl,q _ _ (nB nx ndx) ⟨xo,rfl,dx,fh⟩⟩
 case a1=>
  have e:j9 t=some .wrk:=by unfold j9;rw[if_neg c1,if_pos c]
  rw[e] at q;exact λxo dx nx ndx nex=>q _ _ (AU nx ndx) ⟨xo,rfl,dx,fh⟩
 case a2=>
  have e:j9 t=(gI 1 30 (jz t (some 2) none)).map Mk.lst:=by unfold j9;rw[if_neg c1,if_neg c2,if_pos c]
  rw[e] at q;refine⟨(),(),t,rfl,hz,_,1,30,rfl,⋯,λH1 s1=>?_⟩;cases en:gI 1 30 (jz t (some 2) none) with
  |none=>
   rw[en] at q;exact⟨(),rfl,(),jM rfl (q _ _ s1 rfl)⟩
  |some b=>
   rw[en] at q;exact⟨(),rfl,(),hX rfl ⟨(),λxo dx nx ndx nex=>⟨xo,dx,(),fh,rfl,q _ _ (s1.trans (nB nx ndx)) ⟨xo,rfl,dx,fh⟩⟩⟩⟩
 case a3=>
  have e:j9 t=(gI 1 31 (jz t none (some (-1)))).map Mk.nea:=by unfold j9;rw[if_neg c1,if_neg c2,if_neg c3,if_pos c]
  rw[e] at q;refine⟨(),(),(),t,rfl,hz,_,1,31,rfl,⋯,λH1 s1=>?_⟩;cases en:gI 1 31 (jz t none (some (-1))) with
  |none=>
   rw[en] at q;exact⟨(),rfl,(),jM rfl (q _ _ s1 rfl)⟩
  |some b=>
   rw[en] at q;exact⟨(),rfl,(),hX rfl ⟨(),λxo dx nx ndx nex=>⟨xo,dx,(),fh,rfl,q _ _ (s1.trans (nB nx ndx)) ⟨xo,rfl,dx,fh⟩⟩⟩⟩
 case a4=>
  have e:j9 t=none:=by unfold j9;rw[if_neg c1,if_neg c2,if_neg c3,if_neg c4]
  rw[e] at q;exact q _ _ (Same.refl H) rfl
theorem FR:Dx P w base ZZ.cb 4 (IX K):=by
 refine ZZ.cb.dfs UQ (by trivial) ?_;rintro _ _ _ _ s H _ Q E hr⟨t,rfl,hl,q⟩;refine⟨_,(fe (fq 1 (eD (pq ZZ) hr (A3 Y0 eI (gi (v:=.int 7) ZZ.ak ⟨()⟩))) UQ.nd) (fg (fk (me (fG gb Y1 (gi (v:=.int 7) ZZ.ak ⟨()⟩)) (gi (v:=.int 0) ZZ.br ⟨()⟩) Y1)))),?_⟩;extract_lets;refine⟨(),t,0,7,rfl,⋯,λH1 s1=>?_⟩;cases en:gI 0 7 t with
 |none=>
  have e:lj t=none:=by unfold lj;rw[en];rfl
  rw[e] at q;exact⟨(),rfl,(),hX (fB λz=>nomatch z) ⟨(),q _ s1⟩⟩
 |some n=>
  have e:lj t=some (if n=7 then 0 else n):=by unfold lj;rw[en];rfl
  rw[e] at q;refine⟨(),rfl,(),gp (λc=>?_) (λc=>⟨(),?_⟩)⟩
  ·rw[if_pos c] at q;exact q _ s1
  ·rw[if_neg c] at q;exact q _ s1
theorem Zi:Dx P w base ZZ.bk 5 (Su K aB aE aF aH aD aA aG aI):=by
 refine ZZ.bk.dfs UR (by trivial) ?_;rintro _ _ _ _ s H _ Q E hr⟨t,rfl,hl,q⟩;refine⟨_,(fe (fJ (gL (Da Y0 (fW [76]))) (fe (fq 1 (eD (FR ZZ) hr (A1 (mq zB Y0 oJ (kW (mH m6 eI))))) UR.nd) (fg (fk (me (fG iZ Y1 eN) eN (m9 ZZ.au (PR ZZ) hr (A1 Y1)))))) fN) (fe (fq 2 (oS Y0 (fW [35])) UR.nd) (fe (fJ (fG jV (gM (k6 (K:=K)) ZZ.ag PySem.boot_len (A1 Y2)) eI) (fg (fk eN)) fN) (fe (fq 1 (eD (FR ZZ) hr (A1 (fv (gv (K:=K)) Y2 eI))) UR.nd) (fe (fq 3 (eD (pq ZZ) hr (A3 (fv (gv (K:=K)) Y2 eI) eI (gi (v:=.int 5) ZZ.dw ⟨()⟩))) UR.nd) (fe (fJ (tW (iF (fG iZ Y1 eN) (jp (fG iZ Y3 eN)))) (fg (fk eN)) fN) (fg (fk (m9 ZZ.a0 (Se ZZ) hr (A2 Y1 Y3)))))))))),?_⟩
 extract_lets;have hz:t.length<=sizeLine:=by rw[eT];omega
 have hc2:=rm t none (some (-1));have hsl:=qC 35 t;have hml:=n8 35 t;refine⟨(),rfl,t,76,rfl,rfl,(),gn (λc=>?a0) (λc1=>?a1)⟩
 case a0=>
  have e:mx t=(lj (jz t none (some (-1)))).map Mk.one:=by unfold mx;rw[if_pos c]
  rw[e] at q;refine⟨(),(),(),t,rfl,hz,(),⋯,λH1 s1=>?_⟩;cases en:lj (jz t none (some (-1))) with
  |none=>
   rw[en] at q;exact⟨(),rfl,(),jM rfl (q _ _ s1 rfl)⟩
  |some b=>
   rw[en] at q;exact⟨(),rfl,(),hX rfl ⟨(),λxo dx nx ndx nex=>⟨xo,dx,(),fh,rfl,q _ _ (s1.trans (nB nx ndx)) ⟨xo,rfl,dx,fh⟩⟩⟩⟩
 case a1=>
  refine⟨(),rfl,t,35,rfl,rfl,(by rw[eT];omega),λps hps=>?_⟩;have s0:=fj hps (.lst ((fO 35 t).map λq=>V.str (Tx q)));refine⟨(),ps,(),.inl (SqL.of fh),rfl,(),?_⟩;have two:(∃a b,fO 35 t=[a,b])∨(∀a b,fO 35 t≠[a,b]):=by
   by_cases z:∃a b,fO 35 t=[a,b]
   ·exact .inl z
   ·exact .inr λr s e=>z ⟨r,s,e⟩
  rcases two with ⟨a,b,e2⟩ | hno
  ·have e:mx t=EC (lj a) (gI 1 5 b):=by unfold mx;rw[if_neg c1,e2]
   rw[e] at q;have h1:=hml a (by rw[e2];simp);have h2:=hml b (by rw[e2];simp);rw[e2];refine hX rfl ⟨(),ps,_,(()),SqL.of fh,rfl,a,rfl,⋯,λH1 s1=>?_⟩;refine⟨(),ps,_,(()),SqL.of (s1 _ _ fh),rfl,b,1,5,rfl,⋯,λH2 s2=>?_⟩;rw[e2] at s0;cases ew:lj a with
   |none=>
    rw[ew] at q;exact⟨(),rfl,(),jM rfl (q _ _ (s0.trans (s1.trans s2)) rfl)⟩
   |some wd=>
    rw[ew] at q;refine⟨(),rfl,(),hX rfl ⟨(),rfl,(),?_⟩⟩;cases en:gI 1 5 b with
    |none=>
     rw[en] at q;exact jM rfl (q _ _ (s0.trans (s1.trans s2)) rfl)
    |some m=>
     rw[en] at q;exact hX rfl ⟨(),(),λxo dx nx ndx nex=>⟨xo,dx,_,(),fh,rfl,q _ _ (s0.trans (s1.trans (s2.trans (JN nx ndx)))) ⟨xo,rfl,dx,fh⟩⟩⟩
  ·have hlen:¬(fO 35 t).length=2:=λe=>by
    match h:fO 35 t,e with
    |[r,s],_=>exact hno r s h
   have e:mx t=none:=by
    unfold mx;rw[if_neg c1];split
    ·rename_i a b h;exact absurd h (hno a b)
    ·rfl
   rw[e] at q;refine jM ?_ (q _ _ s0 rfl);rw[fB λz=>hlen (by have z:=V.int.inj z;rw[aR] at z;omega)];rfl
theorem Gw:Dx P w base ZZ.c2 7 (LH K aB aE aF aH aD aA aG aI aM aO):=by
 refine ZZ.c2.dfs UL (by trivial) ?_;rintro _ _ _ _ s H _ Q E hr⟨l,lo,hi,wk,rfl,hb,hok,q⟩;refine⟨_,(fe (fJ (tW (iF (iR (gL (gM nJ ZZ.ab PyProof.Rows.boot_isinstance (A2 Y0 (lx ZZ.ae PyProof.Rows.boot_str))))) (jp (fG jR (gM Ab ZZ.ag PySem.boot_len (A1 Y0)) (gi (v:=.int 300) ZZ.ba ⟨()⟩))))) (fg mn) fN) (fe (fq 4 (oS Y0 (fW [44])) UL.nd) (fe (fq 5 eI UL.nd) (fe (fq 6 (gB aN) UL.nd) (fe (iw (iE ZZ.am (mq (oy (K:=K)) Y4 oJ (kW (gi (v:=.int 40) ZZ.aj ⟨()⟩)))) (kO (K:=K) (gx (gN 7 UL.nd) (gx (gN 8 UL.nd) jN))) (fe (fq 9 (eD (Cu ZZ) hr (A3 Y8 Y1 Y2)) UL.nd) (fg (fJ (fG iZ Y9 eN) (fe (fq 10 (mK (ET ((IM ZZ).at_ ZZ.a3) hr Y3 (A1 Y8)) (ET ((Zi ZZ).at_ ZZ.aq) hr Y3 (A1 Y8))) UL.nd) (fe (fJ (tW (iF (fG iZ (v_ 10) eN) (jp (fG gb (gM (k6 (K:=K)) ZZ.ag PySem.boot_len (A1 Y6)) (gi (v:=.int 20) ZZ.cv ⟨()⟩))))) (fg mn) fN) (fg (lI (lW Y6 (v_ 10)))))) (fg (fq 5 (fc mm Y5 Y9) UL.nd))))) PassesOwn.never) (fe (fJ (fG jR (gM (k6 (K:=K)) ZZ.ag PySem.boot_len (A1 Y4)) (gi (v:=.int 40) ZZ.aj ⟨()⟩)) (fg mn) fN) (fg (fk (gu (A2 Y5 Y6)))))))))),?_⟩
 extract_lets;have hl:=hok.len;have hml:=n8 44 l;refine⟨(),_,.str,.str,rfl,(by decide),rfl,(),hX rfl ⟨(),l,rfl,(by rw[eT];omega),(()),(),?_⟩⟩;rw[fB (show ¬(300:Int)<((l.length:Nat):Int) by omega)];refine gf ⟨(),rfl,l,44,rfl,rfl,(by rw[eT];omega),λps hps=>?_⟩;have s0:=fj hps (.lst ((fO 44 l).map λq=>V.str (Tx q)));refine⟨(zL 0),λmk hmk=>?_⟩;have s1:=fj hmk (.lst []);refine⟨(),(),ps,(),SqL.of (s1 _ _ fh),λpc hpc=>?_⟩
 have ecut:kr ((fO 44 l).map λq=>V.str (Tx q)) none (some 40)=(fO 44 l).map λq=>V.str (Tx q):=Cy (by rw[aR];exact hok.few);rw[ecut];have hne:pc≠mk:=λe=>by
  rw[e,fh] at hpc;cases hpc
 have s1b:=fj hpc (.lst ((fO 44 l).map λq=>V.str (Tx q)));refine⟨pc,rfl,⟨_,SqL.of fh⟩,wo (K:=K) (a:=pc) (xs:=(fO 44 l).map λq=>V.str (Tx q)) (λi σ H2=>∃(u1 u2 u3 u4:Option V) (qs:List Addr),σ=[some (.str (Tx l)),some (.int lo),some (.int hi),some (.ref (if wk=true then aO else aM)),some (.ref ps),some (.int (gz (ic lo hi ((fO 44 l).take i)))),some (.ref mk),u1,u2,u3,u4]/\Same (upd H ps (.lst ((fO 44 l).map λq=>V.str (Tx q)))) H2/\H2 pc=some (.lst ((fO 44 l).map λq=>V.str (Tx q)))/\H2 mk=some (.lst (qs.map V.ref))/\Ft (MkAt (⟨aB,aE,aF,aH,aD,aA,aG,aI⟩:Cs) H2) qs (iG wk lo hi ((fO 44 l).take i))) ⟨_,_,_,_,[],rfl,s1.trans s1b,fh,s1b _ _ fh,.nil⟩ (λi σ H2 _ ⟨_,_,_,_,_,_,_,h,_⟩=>SqL.of h) ?turn ?done⟩
 case turn=>
  rintro i x σ H2 T hx ⟨u1,u2,u3,u4,qs,rfl,s2,h2c,h2m,hq⟩ hT;rw[bC] at hx;cases ew:(fO 44 l)[i]? with
  |none=>rw[ew] at hx;cases hx
  |some w0=>
   rw[ew] at hx;obtain rfl:V.str (Tx w0)=x:=aZ hx;have hw:=hml w0 (bU ew);refine⟨T,(),SqT.of fh,rfl,_,(),(()),?_⟩;refine⟨(),(),(),w0,lo,hi,rfl,⋯,hb,λH3 s3=>?_⟩;cases em:gG lo hi w0 with
   |some m=>
    have et:(fO 44 l).take (i+1)=(fO 44 l).take i++[w0]:=by rw[b8,ew];rfl
    have s23:=(fj hT _).trans s3;refine⟨(),rfl,(),hX rfl ⟨(),(),(()),?_⟩⟩;exact⟨_,_,_,_,qs,by rw[et,RM em,pX];rfl,s2.trans s23,s23 _ _ h2c,s23 _ _ h2m,by rw[et,OR em];exact hq.keepM s23.keep⟩
   |none=>
    cases wk with
    |false=>
     have hso:(jT false w0).isSome=true:=by
      rcases hok.all w0 (bU ew) with h | h
      ·rw[em] at h;cases h
      ·exact h
     obtain⟨k,ek⟩:=dP.mp hso;have ek':j9 w0=some k:=ek;refine⟨(),rfl,(),jM rfl ?_⟩;refine .inl ⟨(),rfl,(),w0,rfl,⋯,λv H4 s4 hv=>?_⟩;rw[ek'] at hv;obtain⟨x,rfl,hx⟩:=hv;have s24:=(fj hT _).trans (s3.trans s4);have hq4:=hq.keepM s24.keep;have lq:qs.length=(iG false lo hi ((fO 44 l).take i)).length:=Paired.length hq;have l1:=GP false lo hi (fO 44 l) (i+1);have et:(fO 44 l).take (i+1)=(fO 44 l).take i++[w0]:=by rw[b8,ew];rfl
     rw[et,qW em ek,aY,bX] at l1;have hm20:=hok.most;refine⟨(),rfl,(),hX rfl ⟨(),mk,(),.inl (SqL.of (s24 _ _ h2m)),rfl,(),?_⟩⟩;refine gp (λc=>?_) (λc=>?_)
     ·rw[aR] at c;omega
     refine⟨(),.inl ⟨rfl,_,SqL.of (s24 _ _ h2m)⟩,(),mk,(()),s24 _ _ h2m,(by rw[aR,eT];omega),?_⟩;have kp:=vo (l':=qs.map V.ref++[.ref x]) (s24 _ _ h2m);exact⟨_,_,_,_,qs++[x],by rw[et,Gy em];rfl,mC hmk (s2.trans s24),by rw[fH hne];exact s24 _ _ h2c,by rw[bB];exact fh,by rw[et,qW em ek];exact Ft.app (hq4.keepM kp) (.cons (hx.keep kp) .nil)⟩
    |true=>
     have hso:(jT true w0).isSome=true:=by
      rcases hok.all w0 (bU ew) with h | h
      ·rw[em] at h;cases h
      ·exact h
     obtain⟨k,ek⟩:=dP.mp hso;have ek':mx w0=some k:=ek;refine⟨(),rfl,(),jM rfl ?_⟩;refine .inr ⟨(),rfl,(),w0,rfl,⋯,λv H4 s4 hv=>?_⟩;rw[ek'] at hv;obtain⟨x,rfl,hx⟩:=hv;have s24:=(fj hT _).trans (s3.trans s4);have hq4:=hq.keepM s24.keep;have lq:qs.length=(iG true lo hi ((fO 44 l).take i)).length:=Paired.length hq;have l1:=GP true lo hi (fO 44 l) (i+1);have et:(fO 44 l).take (i+1)=(fO 44 l).take i++[w0]:=by rw[b8,ew];rfl
     rw[et,qW em ek,aY,bX] at l1;have hm20:=hok.most;refine⟨(),rfl,(),hX rfl ⟨(),mk,(),.inl (SqL.of (s24 _ _ h2m)),rfl,(),?_⟩⟩;refine gp (λc=>?_) (λc=>?_)
     ·rw[aR] at c;omega
     refine⟨(),.inl ⟨rfl,_,SqL.of (s24 _ _ h2m)⟩,(),mk,(()),s24 _ _ h2m,(by rw[aR,eT];omega),?_⟩;have kp:=vo (l':=qs.map V.ref++[.ref x]) (s24 _ _ h2m);exact⟨_,_,_,_,qs++[x],by rw[et,Gy em];rfl,mC hmk (s2.trans s24),by rw[fH hne];exact s24 _ _ h2c,by rw[bB];exact fh,by rw[et,qW em ek];exact Ft.app (hq4.keepM kp) (.cons (hx.keep kp) .nil)⟩
 case done=>
  rintro σ H2 ⟨u1,u2,u3,u4,qs,rfl,s2,h2c,h2m,hq⟩;refine⟨(),ps,(),.inl (SqL.of (s2 _ _ fh)),(()),(),?_⟩;have hfew:=hok.few;rw[fB (show ¬(40:Int)<((((fO 44 l).map λq=>V.str (Tx q)).length:Nat):Int) by rw[aR];omega)];rw[aR,cQ] at hq ⊢;refine gf ⟨(),(),(zL 2),λp hp=>?_⟩;have s3:=fj hp (.tup [.int (gz (ic lo hi (fO 44 l))),.ref mk]);exact q p mk qs _ (none_of s0 hmk) (s0.trans (s2.trans s3)) fh (s3 _ _ h2m) (hq.keepM s3.keep)
theorem R4:Dx P w base ZZ.dh 8 (VE K aB aE aF aH aD aA aG aI):=by
 refine ZZ.dh.dfs UI (by trivial) ?_;rintro _ _ _ _ s H _ Q E hr⟨l,rfl,hok,q1,q2⟩;refine⟨_,(fe (fq 1 (eD (Gw ZZ) hr (aC Y0 (A3 eI (gi (v:=.int 31) ZZ.be ⟨()⟩) (gi (v:=.ref aM) ZZ.a3 rfl)))) UI.nd) (fe (fJ (fG gb Y0 (fW [42])) (fg (fk eN)) fN) (fe (fJ (fG gb (fv (f9 (K:=K)) Y1 eI) eI) (fg (fk (fv (f9 (K:=K)) Y1 eI))) fN) (fg (fk (fc p9 (gB (A1 (m9 ZZ.ar (Vl ZZ) hr (A1 (fv (f9 (K:=K)) Y1 eI))))) (fv (f9 (K:=K)) Y1 eI))))))),?_⟩
 extract_lets;refine⟨(),l,1,31,false,rfl,⟨by decide,by decide,by decide⟩,hok,λp m qs H1 hmn s1 hp hm hq=>?_⟩;have lq:qs.length<=20:=by
  have:=Paired.length hq;have:=hok.most;omega
 refine⟨(),rfl,(),je (λc=>q1 c _ s1) (λc=>?_)⟩;have q2:=q2 c;unfold nQ at q2;generalize iG false 1 31 (fO 44 l)=ms at hq q2;generalize gz (ic 1 31 (fO 44 l))=M at hp q2;refine⟨(),p,_,(()),SqT.of hp,rfl,rfl,(),gp (λc0=>⟨(),p,_,(()),SqT.of hp,rfl,q2 m qs _ hmn s1 hm ?_⟩) (λc0=>?_)⟩
 ·have e:lL false M=[]:=by unfold lL;rw[if_pos c0]
  rw[e];exact hq
 have e:lL false M=[.num M]:=by unfold lL;rw[if_neg c0];rfl
 rw[e] at q2;refine⟨(),p,_,(()),SqT.of hp,rfl,λxo dx nx ndx nex=>⟨xo,dx,(),fh,rfl,(zL 1),λl1 hl1=>?_⟩⟩;have n1:Same H1 (upd (upd (upd H1 dx (.own xo)) xo (.ins aB dx [])) xo (.ins aB dx [("mask",.int M)])):=nB nx ndx;have n2:=n1.trans (fj hl1 (.lst [.ref xo]));refine⟨(),p,_,(()),SqT.of (n2 _ _ hp),rfl,l1,m,(()),fh,n2 _ _ hm,(by rw[aR,eT];show 1+_<=_;omega),λl2 hl2=>?_⟩;have n3:=n2.trans (fj hl2 (.lst ([.ref xo]++qs.map V.ref)))
 exact q2 l2 (xo::qs) _ (none_of (s1.trans n2) hl2) (s1.trans n3) fh (.cons ⟨dx,(fj hl2 _) _ _ ((fj hl1 _) _ _ fh)⟩ (hq.keepM n3.keep))
theorem OT:Dx P w base ZZ.bz 8 (NA K aB aE aF aH aD aA aG aI):=by
 refine ZZ.bz.dfs US (by trivial) ?_;rintro _ _ _ _ s H _ Q E hr⟨l,rfl,hok,q1,q2⟩;refine⟨_,(fe (fq 1 (eD (Gw ZZ) hr (aC Y0 (A3 eI (gi (v:=.int 7) ZZ.ak ⟨()⟩) (gi (v:=.ref aO) ZZ.aq rfl)))) US.nd) (fe (fJ (fG gb Y0 (fW [42])) (fg (fk eN)) fN) (fe (fJ (fG gb (fv (f9 (K:=K)) Y1 eI) eI) (fg (fk (fv (f9 (K:=K)) Y1 eI))) fN) (fe (fq 2 (fc om (fc mm (fv (f9 (K:=K)) Y1 eI) (fc rD (fv (f9 (K:=K)) Y1 eI) (gi (v:=.int 7) ZZ.ak ⟨()⟩))) (gi (v:=.int 127) ZZ.b4 ⟨()⟩)) US.nd) (fg (fk (fc p9 (gB (A1 (m9 ZZ.ao (M5 ZZ) hr (A1 Y2)))) (fv (f9 (K:=K)) Y1 eI)))))))),?_⟩
 extract_lets;refine⟨(),l,0,7,true,rfl,⟨by decide,by decide,by decide⟩,hok,λp m qs H1 hmn s1 hp hm hq=>?_⟩;have lq:qs.length<=20:=by
  have:=Paired.length hq;have:=hok.most;omega
 refine⟨(),rfl,(),je (λc=>q1 c _ s1) (λc=>?_)⟩;have q2:=q2 c;unfold nQ at q2;generalize iG true 0 7 (fO 44 l)=ms at hq q2;generalize gz (ic 0 7 (fO 44 l))=M at hp q2;refine⟨(),p,_,(()),SqT.of hp,rfl,rfl,(),gp (λc0=>⟨(),p,_,(()),SqT.of hp,rfl,q2 m qs _ hmn s1 hm ?_⟩) (λc0=>?_)⟩
 ·have e:lL true M=[]:=by unfold lL;rw[if_pos c0]
  rw[e];exact hq
 have e:lL true M=[.wkd (ik M)]:=by unfold lL;rw[if_neg c0];rfl
 rw[e] at q2;refine⟨(),p,_,(()),SqT.of hp,rfl,(),p,_,(()),SqT.of hp,rfl,(()),(by show (0:Int)<=7;decide),(()),(()),?_⟩;refine⟨(),λxo dx nx ndx nex=>⟨xo,dx,(),fh,rfl,(zL 1),λl1 hl1=>?_⟩⟩;have n1:Same H1 (upd (upd (upd H1 dx (.own xo)) xo (.ins aD dx [])) xo (.ins aD dx [("mask",.int (ik M))])):=nB nx ndx;have n2:=n1.trans (fj hl1 (.lst [.ref xo]));refine⟨(),p,_,(()),SqT.of (n2 _ _ hp),rfl,l1,m,(()),fh,n2 _ _ hm,(by rw[aR,eT];show 1+_<=_;omega),λl2 hl2=>?_⟩
 have n3:=n2.trans (fj hl2 (.lst ([.ref xo]++qs.map V.ref)));exact q2 l2 (xo::qs) _ (none_of (s1.trans n2) hl2) (s1.trans n3) fh (.cons ⟨dx,(fj hl2 _) _ _ ((fj hl1 _) _ _ fh)⟩ (hq.keepM n3.keep))
theorem wX:Dx P w base ZZ.d9 3 (OA K):=by
 refine ZZ.d9.dfs UC (by trivial) ?_;rintro _ _ _ _ s H _ Q E hr⟨k,rfl,hk,q⟩;refine⟨_,(fe (fq 1 (fc ie Y0 eI) UC.nd) (fe (fq 2 (fc gs Y0 eI) UC.nd) (fe (fJ (fG gb Y1 (gi (v:=.int 12) ZZ.a9 ⟨()⟩)) (fg (fk (gu (A3 eI (gi (v:=.int 29) ZZ.da ⟨()⟩) Y2)))) fN) (fg (fk (gu (A3 (fc fV Y1 eI) (eD (pG ZZ) hr (A2 (gi (v:=.int 1) ZZ.cw ⟨()⟩) (fc fV Y1 eI))) Y2))))))),?_⟩;extract_lets
 refine⟨(),(()),zD9,?_⟩;refine⟨(),(()),zP9,?_⟩;refine⟨(),rfl,(),gp (λc=>?_) (λc=>?_)⟩
 ·refine⟨(),(zL 3),λp hp=>?_⟩;exact q p _ (fj hp _) (by unfold nK;rw[if_pos c];exact fh)
 ·refine⟨(),(()),(),(()),_,(),⟨⋯,⋯⟩,(),(zL 3),λp hp=>?_⟩;exact q p _ (fj hp _) (by unfold nK;rw[if_neg c];exact fh)
theorem Sz:Dx P w base ZZ.ea 3 (Ot K):=by
 refine ZZ.ea.dfs UU (by trivial) ?_;rintro _ _ _ _ s H _ Q E hr⟨h,m,rfl,hh,hm,q⟩;refine⟨_,(fe (fq 2 eI UU.nd) (fe (iw (lE (K:=K) (eD (Z8 ZZ) hr (A1 Y0))) (gN 3 UU.nd) (fg (fq 2 (fc mm Y2 (fc lG Y1 (fc ii (gi (v:=.int 60) ZZ.af ⟨()⟩) Y3))) UU.nd)) PassesOwn.never) (fg (fk Y2)))),?_⟩;extract_lets;have bh:=rk hh.1 hh.2;have bm:=rk hm.1 hm.2;refine⟨(),h,rfl,⟨hh.1,⋯⟩,λp H1 s1 h1=>⟨p,rfl,⟨_,SqL.of h1⟩,l9 (K:=K) (a:=p) (xs:=(mG h).map V.int) (λi σ H2=>∃(v3:Option V),σ=[some (.int h),some (.int m),some (.int (gz (((mG h).take i).map λz=>m*2^(60*z).toNat))),v3]/\Same H1 H2) ⟨(),Same.refl _⟩ (λi σ H2 _ ⟨_,_,s2⟩=>SqL.of (s2 _ _ h1)) ?turn ?done⟩⟩
 case done=>
  rintro σ H2 ⟨v3,rfl,s2⟩;rw[aR,cQ];exact⟨(),q _ H2 rfl (s1.trans s2)⟩
 case turn=>
  rintro i x σ H2 hx ⟨v3,rfl,s2⟩;rw[bC] at hx;cases ez:(mG h)[i]? with
  |none=>rw[ez] at hx;cases hx
  |some z=>
   rw[ez] at hx;obtain rfl:V.int z=x:=aZ hx;have et:gz (((mG h).take (i+1)).map λz=>m*2^(60*z).toNat)=Builtin.bitOr (gz (((mG h).take i).map λz=>m*2^(60*z).toNat)) (m*2^(60*z).toNat):=by rw[b8,ez,bB];exact pX _ _
   rw[et];have hz:=bU ez;rw[sH hh.1 hh.2] at hz;obtain⟨n,hn,_,rfl⟩:=flt_mem.mp hz;refine⟨(),(),(),(()),.inl zD9,(()),⟨?_,?_,?_⟩,(()),?_⟩
   ·omega
   ·omega
   ·omega
   ·exact⟨(),s2⟩
theorem K1:Dx P w base ZZ.eq 5 (JQ K aB aE aF aH aD aA aG aI):=by
 refine ZZ.eq.dfs Uu (by trivial) ?_;rintro _ _ _ _ s H _ Q E hr⟨dv,wv,kd,kw,l,fi,rfl,hd,hw,hlf,q⟩;refine⟨_,(fe (fJ (tW (kA (fG iZ Y0 eN) (kH (fG iZ Y1 eN)))) (fg (fk (eD (vU ZZ) hr (A1 Y2)))) fN) (fe (fq 4 eI Uu.nd) (fe (iw (iT (gu (A2 Y0 Y1))) (gN 5 Uu.nd) (fg (fJ (fG Q6 Y5 eN) (fg (fq 4 (fc mm Y4 (eD (Kx ZZ) hr (A3 Y5 Y2 Y3))) Uu.nd)) fN)) PassesOwn.never) (fg (fk Y4))))),?_⟩
 extract_lets;have loop:kd.isNone=false∨kw.isNone=false->gg kd kw l fi=jc kw (jc kd 0 l fi) l fi:=λh=>by
  unfold gg;rw[if_neg];rintro⟨h1,h2⟩;rcases h with h | h
  ·rw[h] at h1;cases h1
  ·rw[h] at h2;cases h2
 cases kd with
 |none=>
  have ed:dv=.non:=hd;subst ed;cases kw with
  |none=>
   have ew:wv=.non:=hw;subst ew;refine⟨(),rfl,(),?_⟩;show if decide (V.non=V.non)=true then _ else _
   rw[eY rfl];refine gk ⟨(),rfl,(),?_⟩;show if decide (V.non=V.non)=true then _ else _
   rw[eY rfl];exact gk ⟨(),l,rfl,hlf.1,q H (Same.refl _)⟩
  |some kw=>
   rw[loop (.inr rfl)] at q;refine⟨(),rfl,(),?_⟩;show if decide (V.non=V.non)=true then _ else _
   rw[eY rfl];obtain⟨pw,qw,rfl,lw,fw,ow⟩:=hw;refine gk ⟨(),rfl,(),gf ?_⟩;refine⟨(),(),(zL 2),λtt ht=>⟨tt,rfl,⟨_,SqT.of fh⟩,xD (K:=K) (a:=tt) (xs:=[V.non,(V.ref pw)]) (λi σ H2=>∃v5:Option V,σ=[some V.non,some (V.ref pw),some (.int l),some (.int fi),some (.int (match i with | 0=>0 | 1=>jc none 0 l fi | _=>jc (some kw) (jc none 0 l fi) l fi)),v5]/\Same (upd H tt (.tup [V.non,(V.ref pw)])) H2) ⟨(),Same.refl _⟩ (λi σ H2 _ ⟨_,_,s2⟩=>SqT.of (s2 _ _ fh)) ?turn ?done⟩⟩
   case done=>
    rintro σ H2 ⟨v5,rfl,s2⟩;exact⟨(),q H2 ((fj ht _).trans s2)⟩
   case turn=>
    rintro i x σ H2 hx ⟨v5,rfl,s2⟩;have sA:=(fj ht (.tup [V.non,(V.ref pw)])).trans s2
    match i,hx with
    |0,hx=>
     cases hx;refine⟨(),rfl,(),?_⟩;show if (!decide (V.non=V.non))=true then _ else _
     rw[eY rfl];exact gf ⟨(),s2⟩
    |1,hx=>
     cases hx;exact⟨(),rfl,(),gk ⟨(),(),(),(),pw,qw,kw,l,fi,rfl,SqL.of (sA _ _ lw),fw.keepM sA.keep,ow,hlf,(()),⟨(),s2⟩⟩⟩
    |i+2,hx=>cases hx
 |some kd=>
  rw[loop (.inl rfl)] at q;obtain⟨pd,qd,rfl,ld,fd,od⟩:=hd;refine⟨(),rfl,(),gf ?_⟩;cases kw with
  |none=>
   have ew:wv=.non:=hw;subst ew;refine⟨(),(),(zL 2),λtt ht=>⟨tt,rfl,⟨_,SqT.of fh⟩,xD (K:=K) (a:=tt) (xs:=[(V.ref pd),V.non]) (λi σ H2=>∃v5:Option V,σ=[some (V.ref pd),some V.non,some (.int l),some (.int fi),some (.int (match i with | 0=>0 | 1=>jc (some kd) 0 l fi | _=>jc none (jc (some kd) 0 l fi) l fi)),v5]/\Same (upd H tt (.tup [(V.ref pd),V.non])) H2) ⟨(),Same.refl _⟩ (λi σ H2 _ ⟨_,_,s2⟩=>SqT.of (s2 _ _ fh)) ?turn ?done⟩⟩
   case done=>
    rintro σ H2 ⟨v5,rfl,s2⟩;exact⟨(),q H2 ((fj ht _).trans s2)⟩
   case turn=>
    rintro i x σ H2 hx ⟨v5,rfl,s2⟩;have sA:=(fj ht (.tup [(V.ref pd),V.non])).trans s2
    match i,hx with
    |0,hx=>
     cases hx;exact⟨(),rfl,(),gk ⟨(),(),(),(),pd,qd,kd,l,fi,rfl,SqL.of (sA _ _ ld),fd.keepM sA.keep,od,hlf,(()),⟨(),s2⟩⟩⟩
    |1,hx=>
     cases hx;refine⟨(),rfl,(),?_⟩;show if (!decide (V.non=V.non))=true then _ else _
     rw[eY rfl];exact gf ⟨(),s2⟩
    |i+2,hx=>cases hx
  |some kw=>
   obtain⟨pw,qw,rfl,lw,fw,ow⟩:=hw;refine⟨(),(),(zL 2),λtt ht=>⟨tt,rfl,⟨_,SqT.of fh⟩,xD (K:=K) (a:=tt) (xs:=[(V.ref pd),(V.ref pw)]) (λi σ H2=>∃v5:Option V,σ=[some (V.ref pd),some (V.ref pw),some (.int l),some (.int fi),some (.int (match i with | 0=>0 | 1=>jc (some kd) 0 l fi | _=>jc (some kw) (jc (some kd) 0 l fi) l fi)),v5]/\Same (upd H tt (.tup [(V.ref pd),(V.ref pw)])) H2) ⟨(),Same.refl _⟩ (λi σ H2 _ ⟨_,_,s2⟩=>SqT.of (s2 _ _ fh)) ?turn ?done⟩⟩
   case done=>
    rintro σ H2 ⟨v5,rfl,s2⟩;exact⟨(),q H2 ((fj ht _).trans s2)⟩
   case turn=>
    rintro i x σ H2 hx ⟨v5,rfl,s2⟩;have sA:=(fj ht (.tup [(V.ref pd),(V.ref pw)])).trans s2
    match i,hx with
    |0,hx=>
     cases hx;exact⟨(),rfl,(),gk ⟨(),(),(),(),pd,qd,kd,l,fi,rfl,SqL.of (sA _ _ ld),fd.keepM sA.keep,od,hlf,(()),⟨(),s2⟩⟩⟩
    |1,hx=>
     cases hx;exact⟨(),rfl,(),gk ⟨(),(),(),(),pw,qw,kw,l,fi,rfl,SqL.of (sA _ _ lw),fw.keepM sA.keep,ow,hlf,(()),⟨(),s2⟩⟩⟩
    |i+2,hx=>cases hx
theorem Oi:Dm P w mg base ZZ.cc 4 (ZN K aJ):=by
 refine ZZ.cc.dfs KH (by trivial) ?_;rintro f _ _ _ s H _ Q E hr⟨p,dx,fa,m0,m1,m3,dv,wv,rfl,hp,hf,h0,h1,q⟩;refine⟨_,(fe (kB Y0 (fv (gv (K:=K)) Y1 (gi (v:=.int 0) ZZ.et ⟨()⟩))) (fe (kB Y0 (fv (gv (K:=K)) Y1 (gi (v:=.int 1) ZZ.e1 ⟨()⟩))) (fe (kB Y0 (fv (gv (K:=K)) Y1 (gi (v:=.int 2) ZZ.dx ⟨()⟩))) (fe (kB Y0 (fv (gv (K:=K)) Y1 (gi (v:=.int 3) ZZ.ez ⟨()⟩))) (fe (kB Y0 (fv (gv (K:=K)) Y1 (gi (v:=.int 4) ZZ.bl ⟨()⟩))) (fg (kB Y0 (eD (Sz ZZ) hr (A2 (jd (K:=K) Y0) (jd (K:=K) Y0)))))))))),?_⟩
 extract_lets;have hfp:fa≠p:=λe=>by rw[e,hp] at hf;cases hf
 have g0:H fa=some (.lst [.int m0,.int m1,dv,.int m3,wv]):=hf;have g1:(upd H p (.ins aJ dx (gd "minute_mask" (.int m0) []))) fa=some (.lst [.int m0,.int m1,dv,.int m3,wv]):=by rw[fH hfp];exact g0
 have g2:(upd (upd H p (.ins aJ dx (gd "minute_mask" (.int m0) []))) p (.ins aJ dx (gd "hour_mask" (.int m1) (gd "minute_mask" (.int m0) [])))) fa=some (.lst [.int m0,.int m1,dv,.int m3,wv]):=by rw[fH hfp];exact g1
 have g3:(upd (upd (upd H p (.ins aJ dx (gd "minute_mask" (.int m0) []))) p (.ins aJ dx (gd "hour_mask" (.int m1) (gd "minute_mask" (.int m0) [])))) p (.ins aJ dx (gd "day_marks" dv (gd "hour_mask" (.int m1) (gd "minute_mask" (.int m0) []))))) fa=some (.lst [.int m0,.int m1,dv,.int m3,wv]):=by rw[fH hfp];exact g2
 have g4:(upd (upd (upd (upd H p (.ins aJ dx (gd "minute_mask" (.int m0) []))) p (.ins aJ dx (gd "hour_mask" (.int m1) (gd "minute_mask" (.int m0) [])))) p (.ins aJ dx (gd "day_marks" dv (gd "hour_mask" (.int m1) (gd "minute_mask" (.int m0) []))))) p (.ins aJ dx (gd "month_mask" (.int m3) (gd "day_marks" dv (gd "hour_mask" (.int m1) (gd "minute_mask" (.int m0) [])))))) fa=some (.lst [.int m0,.int m1,dv,.int m3,wv]):=by rw[fH hfp];exact g3
 have g5:(upd (upd (upd (upd (upd H p (.ins aJ dx (gd "minute_mask" (.int m0) []))) p (.ins aJ dx (gd "hour_mask" (.int m1) (gd "minute_mask" (.int m0) [])))) p (.ins aJ dx (gd "day_marks" dv (gd "hour_mask" (.int m1) (gd "minute_mask" (.int m0) []))))) p (.ins aJ dx (gd "month_mask" (.int m3) (gd "day_marks" dv (gd "hour_mask" (.int m1) (gd "minute_mask" (.int m0) [])))))) p (.ins aJ dx (gd "weekday_marks" wv (gd "month_mask" (.int m3) (gd "day_marks" dv (gd "hour_mask" (.int m1) (gd "minute_mask" (.int m0) []))))))) fa=some (.lst [.int m0,.int m1,dv,.int m3,wv]):=by rw[fH hfp];exact g4
 have l5:∀(f:Str) (v:V),(g8 m0 m1 dv m3 wv 0).lookup f=some v->f≠"time_mask"->(gd "weekday_marks" wv (gd "month_mask" (.int m3) (gd "day_marks" dv (gd "hour_mask" (.int m1) (gd "minute_mask" (.int m0) []))))).lookup f=some v:=λf v h hne=>by
  unfold g8 at h;rw[gr,if_neg hne] at h;exact h
 refine⟨(),fa,_,(()),SqL.of g0,rfl,(),p,aJ,dx,(),hp,ZZ.ac.cl,ZZ.ah,(by show 0<1000;decide),(),fa,_,(()),SqL.of g1,rfl,(),p,aJ,dx,(),fh,ZZ.ac.cl,ZZ.al,(by show 1<1000;decide),(),fa,_,(()),SqL.of g2,rfl,(),p,aJ,dx,(),fh,ZZ.ac.cl,ZZ.a1,(by show 2<1000;decide),(),fa,_,(()),SqL.of g3,rfl,(),p,aJ,dx,(),fh,ZZ.ac.cl,ZZ.ai,(by show 3<1000;decide),(),fa,_,(()),SqL.of g4,rfl,(),p,aJ,dx,(),fh,ZZ.ac.cl,ZZ.ap,(by show 4<1000;decide),(),p,aJ,dx,_,(),fh,ZZ.ac.cl,ZZ.al,l5 _ _ (C5 ..) (by decide +kernel),(),p,aJ,dx,_,(),fh,ZZ.ac.cl,ZZ.ah,l5 _ _ (CG ..) (by decide +kernel),m1,m0,rfl,h1,h0,λt HT ht sT=>?_⟩
 refine⟨(),p,aJ,dx,(),sT _ _ fh,ZZ.ac.cl,ZZ.a2,(by show 5<1000;decide),q t _ ht fh λb o hb hne=>?_⟩;rw[fH hne];refine sT _ _ ?_;rw[fH hne,fH hne,fH hne,fH hne,fH hne];exact hb
theorem yW:Dm P w mg base ZZ.cn 6 (SF K aJ aB aE aF aH aD aA aG aI):=by
 refine ZZ.cn.dfs U1 (by trivial) ?_;rintro _ _ _ _ s H _ Q E hr⟨p,dx,m0,m1,m3,tm,k,dv,wv,kd,kw,rfl,hp,hk,hm,hd,hw,q⟩;refine⟨_,(fe (fq 2 (eD (wX ZZ) hr (A1 Y1)) U1.nd) (fe (fJ (iR (gL (eD (nU ZZ) hr (A2 (jd (K:=K) Y0) (fv (f9 (K:=K)) Y2 eI))))) (fg (fk eI)) fN) (fg (fk (eD (K1 ZZ) hr (aC (jd (K:=K) Y0) (A3 (jd (K:=K) Y0) (fv (f9 (K:=K)) Y2 eI) (fv (f9 (K:=K)) Y2 eI)))))))),?_⟩
 extract_lets;have ml:=mJ hk.1 hk.2;refine⟨(),k,rfl,hk,λt H1 s1 h1=>?_⟩;rw[sG] at h1;have hp1:=s1 _ _ hp;refine⟨(),p,aJ,dx,_,(),hp1,ZZ.ac.cl,ZZ.ai,F4 ..,(),t,_,(()),SqT.of h1,rfl,m3,iY k,rfl,⟨hm,⋯⟩,(),?_⟩;by_cases c:tb m3 (iY k).toNat=true
 ·rw[if_pos c] at q;rw[c];refine gf ⟨(),p,aJ,dx,_,(),hp1,ZZ.ac.cl,ZZ.a1,NE ..,(),p,aJ,dx,_,(),hp1,ZZ.ac.cl,ZZ.ap,Kj ..,(),t,_,(()),SqT.of h1,rfl,(),t,_,(()),SqT.of h1,rfl,dv,wv,kd,kw,gZ k,k%7,rfl,hd.keep s1,hw.keep s1,ml.2,λH' s'=>q H' (s1.trans s')⟩
 ·have c':tb m3 (iY k).toNat=false:=by simpa using c
  rw[if_neg c] at q;rw[c'];exact gk (q H1 s1)
theorem Yv:Dx P w base ZZ.di 9 (Wn K aB aE aF aH aD aA aG aI):=by
 refine ZZ.di.dfs UT (by trivial) ?_;rintro _ _ _ _ s H _ Q E hr⟨t,pl,rfl,h⟩;refine⟨_,(fe (fJ (fG gb Y1 (gi (v:=.int 2) ZZ.dx ⟨()⟩)) (fg (fk (eD (R4 ZZ) hr (A1 Y0)))) fN) (fe (fJ (fG gb Y1 (gi (v:=.int 4) ZZ.bl ⟨()⟩)) (fg (fk (eD (OT ZZ) hr (A1 Y0)))) fN) (fe (fq 2 (uO (gi (v:=.ref a_BOUNDS) ZZ.eu rfl) Y1) UT.nd) (fg (fk (eD (Yo ZZ) hr (A3 Y0 (fv (f9 (K:=K)) Y2 eI) (fv (f9 (K:=K)) Y2 eI)))))))),?_⟩
 extract_lets;rcases h with ⟨rfl,ko,hT,q⟩ | ⟨rfl,ko,hT,q⟩ | ⟨lo,hi,m,hp,hT,q⟩
 ·cases ko with
  |none=>
   have et:t=[42]:=hT.2.2;exact⟨(),rfl,(),gp (λ_=>⟨(),t,rfl,hT.2.1,(λ_ H' s'=>q _ H' s' rfl (λp e=>nomatch e)),(λc=>absurd et c)⟩) (λc=>absurd rfl c)⟩
  |some ks=>
   exact⟨(),rfl,(),gp (λ_=>⟨(),t,rfl,hT.2.1,(λe=>absurd e hT.2.2.1),(λ_ m qs H' hm s' hl hF=>q _ H' s' ⟨m,qs,rfl,hl,by rw[←hT.2.2.2.2];exact hF,λk hk=>(zP hT.2.2.2.1 k hk).2.2⟩ (λp e=>by cases e;exact hm))⟩) (λc=>absurd rfl c)⟩
 ·cases ko with
  |none=>
   have et:t=[42]:=hT.2.2;exact⟨(),rfl,(),gp (λc=>absurd c (by decide)) (λ_=>⟨(),rfl,(),gp (λ_=>⟨(),t,rfl,hT.2.1,(λ_ H' s'=>q _ H' s' rfl (λp e=>nomatch e)),(λc=>absurd et c)⟩) (λc=>absurd rfl c)⟩)⟩
  |some ks=>
   exact⟨(),rfl,(),gp (λc=>absurd c (by decide)) (λ_=>⟨(),rfl,(),gp (λ_=>⟨(),t,rfl,hT.2.1,(λe=>absurd e hT.2.2.1),(λ_ m qs H' hm s' hl hF=>q _ H' s' ⟨m,qs,rfl,hl,by rw[←hT.2.2.2.2];exact hF,λk hk=>(zP hT.2.2.2.1 k hk).2.2⟩ (λp e=>by cases e;exact hm))⟩) (λc=>absurd rfl c)⟩)⟩
 ·have hl:=hT.len;have hne:pl≠2/\pl≠4:=⋯;rcases hp with ⟨rfl,rfl,rfl⟩ | ⟨rfl,rfl,rfl⟩ | ⟨rfl,rfl,rfl⟩
  ·exact⟨(),rfl,(),gp (λc=>absurd c (by decide)) (λ_=>⟨(),rfl,(),gp (λc=>absurd c (by decide)) (λ_=>⟨(),a_BOUNDS,_,_,(),ZZ.bb,rfl,rfl,(),(),a_BOUNDS_0,_,(()),ZZ.bf _,rfl,(),a_BOUNDS_0,_,(()),ZZ.bf _,rfl,t,_,(),hl,⟨by decide,by decide,by decide⟩,hT.ok,λH' s'=>by rw[hT.is];exact q H' s'⟩)⟩)⟩
  ·exact⟨(),rfl,(),gp (λc=>absurd c (by decide)) (λ_=>⟨(),rfl,(),gp (λc=>absurd c (by decide)) (λ_=>⟨(),a_BOUNDS,_,_,(),ZZ.bb,rfl,rfl,(),(),a_BOUNDS_1,_,(()),ZZ.bg _,rfl,(),a_BOUNDS_1,_,(()),ZZ.bg _,rfl,t,_,(),hl,⟨by decide,by decide,by decide⟩,hT.ok,λH' s'=>by rw[hT.is];exact q H' s'⟩)⟩)⟩
  ·exact⟨(),rfl,(),gp (λc=>absurd c (by decide)) (λ_=>⟨(),rfl,(),gp (λc=>absurd c (by decide)) (λ_=>⟨(),a_BOUNDS,_,_,(),ZZ.bb,rfl,rfl,(),(),a_BOUNDS_3,_,(()),ZZ.bh _,rfl,(),a_BOUNDS_3,_,(()),ZZ.bh _,rfl,t,_,(),hl,⟨by decide,by decide,by decide⟩,hT.ok,λH' s'=>by rw[hT.is];exact q H' s'⟩)⟩)⟩
theorem Ic:Dx P w base ZZ.er 10 (HC K aB aE aF aH aD aA aG aI):=by
 refine ZZ.er.dfs Sj (by trivial) ?_;rintro _ _ _ _ s H _ Q E hr⟨t,pl,rfl,h⟩;refine⟨_,(fg (J1 (fg (fk (eD (Yv ZZ) hr (A2 Y0 Y1)))))),?_⟩;exact⟨(),(),t,pl,rfl,h⟩
theorem WS:Dx P w base ZZ.eb 11 (X5 K aB aE aF aH aD aA aG aI aJ):=by
 refine ZZ.eb.dfs UN (by trivial) ?_;rintro _ _ _ _ s H _ Q E hr⟨w0,w1,w2,w3,w4,m0,m1,m3,kd,kw,rfl,f0,f1,f3,d2,d4,hb,q⟩;refine⟨_,(fe (fJ (tW (iF (iR (gL (gM nJ ZZ.ab PyProof.Rows.boot_isinstance (A2 Y0 (lx ZZ.ae PyProof.Rows.boot_str))))) (jp (fG jR (gM Ab ZZ.ag PySem.boot_len (A1 Y0)) (gi (v:=.int 1600) ZZ.bs ⟨()⟩))))) (fg mn) fN) (fe (fq 1 (oS Y0 (fW [32])) UN.nd) (fe (fJ (tW (iF (fG jV (gM (k6 (K:=K)) ZZ.ag PySem.boot_len (A1 Y1)) (gi (v:=.int 5) ZZ.dy ⟨()⟩)) (jp (fG (mP (K:=K)) (fW []) Y1)))) (fg mn) fN) (fg (fk (m9 ZZ.ac (Oi ZZ) hr (A1 (Sf ["place","word"] [] [] (iE ZZ.am Y1) (λ_ _ _ _ _ _=>kO (K:=K) (n:=2) (gx (gN 0 (show ((["place","word"]:List Str)++([]:List Str)).Nodup by decide +kernel)) (gx (gN 1 (show ((["place","word"]:List Str)++([]:List Str)).Nodup by decide +kernel)) jN))) (λ_ _ _ _ _ _=>nL) (λ_ _ _ _ _ _=>(eD (Ic ZZ) hr (A2 Y1 Y0))))))))))),?_⟩
 extract_lets;have n32:∀w∈[w0,w1,w2,w3,w4],32∉w:=λw hw=>by
  simp only[aX,cF,or_false] at hw;rcases hw with rfl | rfl | rfl | rfl | rfl
  ·exact f0.sp
  ·exact f1.sp
  ·exact d2.1.1
  ·exact f3.sp
  ·exact d4.1.1
 have nn:∀w∈[w0,w1,w2,w3,w4],w≠[]:=λw hw=>by
  simp only[aX,cF,or_false] at hw;rcases hw with rfl | rfl | rfl | rfl | rfl
  ·exact f0.ne
  ·exact f1.ne
  ·exact d2.1.2
  ·exact f3.ne
  ·exact d4.1.2
 have hs:=qh 32 [w0,w1,w2,w3,w4] (dX _ _) n32;obtain⟨L,eL⟩:∃L,L=gK 32 [w0,w1,w2,w3,w4]:=⟨()⟩;have hl:L.length<=1600:=by
  have:=f0.len;have:=f1.len;have:=f3.len;have:=d2.2.1.len;have:=d4.2.1.len;rw[eL];show (w0++32::(w1++32::(w2++32::(w3++32::w4)))).length<=1600;simp only[aY,bZ];omega
 rw[←eL] at hs ⊢;refine⟨(),_,.str,.str,rfl,(by decide),rfl,(),hX rfl ⟨(),L,rfl,(by rw[eT];omega),(()),(),?_⟩⟩;rw[fB (show ¬(1600:Int)<((L.length:Nat):Int) by omega)];refine gf ⟨(),rfl,L,32,rfl,rfl,(by rw[eT];omega),λps hps=>?_⟩;rw[hs];have s0:=fj hps (.lst ([w0,w1,w2,w3,w4].map λq=>V.str (Tx q)));refine⟨(),ps,(),.inl (SqL.of fh),rfl,(),Aj rfl ⟨(),ps,(),.inl (SqL.of fh),rfl,rfl,(),?_⟩⟩;show if kS (.str (Tx [])) ([w0,w1,w2,w3,w4].map λq=>V.str (Tx q))=true then _ else _
 rw[aE4 nn];refine gf ⟨(),ps,rfl,⟨_,SqL.of fh⟩,Kn (xs:=[w0,w1,w2,w3,w4].map λq=>V.str (Tx q)) (λD i l H=>i=0/\l=[]∨(∃l',H D=some (.lst l'))/\RR (⟨aB,aE,aF,aH,aD,aA,aG,aI⟩:Cs) m0 m1 m3 (gO false kd) (gO true kw) D i l H) ?u1 ?u2 (zL 5) (λD _=>.inl ⟨rfl,rfl⟩) (SqL.of fh) ?st ?dn⟩
 case u1=>
  rintro D i l HX l' (h | ⟨hl,h⟩)
  ·exact .inl h
  ·exact .inr ⟨⟨_,fh⟩,h.upd hl⟩
 case u2=>
  rintro D i l HX HY s (h | ⟨⟨l',hl⟩,h⟩)
  ·exact .inl h
  ·exact .inr ⟨⟨l',s _ _ hl⟩,h.keep s⟩
 case st=>
  intro i x l D H2 E' F' hx hR hD s2 hz hE hF;have hR':RR (⟨aB,aE,aF,aH,aD,aA,aG,aI⟩:Cs) m0 m1 m3 (gO false kd) (gO true kw) D i l H2:=by
   rcases hR with ⟨rfl,rfl⟩ | h
   ·rfl
   ·exact h.2
  have up:∀{H5:Hp},Same H2 H5->∃l',H5 D=some (.lst l'):=λs=>⟨_,s _ _ hz⟩;have fr:∀{p:Addr},H2 p=none->p≠D:=λh e=>by rw[e,hz] at h;cases h
  match i,hx,hR' with
  |0,hx,e=>cases hx;exact⟨(),(),w0,0,rfl,.inr (.inr ⟨0,59,m0,.inl ⟨rfl,rfl,rfl⟩,f0,λH' s'=>hE _ _ s' (.inr ⟨up s',by rw[e];rfl⟩)⟩)⟩
  |1,hx,e=>cases hx;exact⟨(),(),w1,1,rfl,.inr (.inr ⟨0,23,m1,.inr (.inl ⟨rfl,rfl,rfl⟩),f1,λH' s'=>hE _ _ s' (.inr ⟨up s',by rw[e];rfl⟩)⟩)⟩
  |2,hx,e=>cases hx;exact⟨(),(),w2,2,rfl,.inl ⟨rfl,kd,d2,λv H' s' hv hn=>hE _ _ s' (.inr ⟨up s',v,by rw[e];rfl,hv,λp ep=>fr (hn p ep)⟩)⟩⟩
  |3,hx,⟨dv,e,hd⟩=>cases hx;exact⟨(),(),w3,3,rfl,.inr (.inr ⟨1,12,m3,.inr (.inr ⟨rfl,rfl,rfl⟩),f3,λH' s'=>hE _ _ s' (.inr ⟨up s',dv,by rw[e];rfl,hd.keep s'⟩)⟩)⟩
  |4,hx,⟨dv,e,hd⟩=>cases hx;exact⟨(),(),w4,4,rfl,.inr (.inl ⟨rfl,kw,d4,λv H' s' hv hn=>hE _ _ s' (.inr ⟨up s',dv,v,by rw[e];rfl,hd.keep s',hv,λp ep=>fr (hn p ep)⟩)⟩)⟩
  |i+5,hx,_=>cases hx
 case dn=>
  intro D H2 l hR hD s2 hz;rcases hR with ⟨e,_⟩ | ⟨_,hR⟩
  ·cases e
  obtain⟨dv,wv,rfl,hd,hw⟩:=hR;intro x dx nx ndx nex;have n1:=AU (a:=.own x) (b:=.ins aJ dx []) nx ndx;refine⟨x,dx,D,m0,m1,m3,dv,wv,rfl,fh,n1 _ _ hz,⟨f0.nn,hb.1⟩,⟨f1.nn,hb.2⟩,λtm H' htm hx' hs'=>⟨rfl,?_⟩⟩;have sX:Same H2 H':=λb o hb'=>hs' b o (n1 _ _ hb') (λe=>by rw[e,nx] at hb';cases hb');exact q x dx dv wv tm H' htm (s0.trans (s2.trans sX)) hx' (hd.1.keep sX) (hw.1.keep sX)
theorem am4:Dm P w mg base ZZ.co 7 (Mb K aJ aB aE aF aH aD aA aG aI):=by
 refine ZZ.co.dfs U3 (by trivial) ?_;rintro _ _ _ _ s H _ Q E hr⟨p,dx,m0,m1,m3,tm,mo,dv,wv,kd,kw,rfl,hp,hn,hd,hw,q⟩;refine⟨_,(fe (fq 2 (eD (NU ZZ) hr (A1 Y1)) U3.nd) (fe (fq 3 (eD (uo ZZ) hr (A1 (fv (f9 (K:=K)) Y2 eI))) U3.nd) (fe (fJ (iR (gL (eD (nU ZZ) hr (A2 (jd (K:=K) Y0) (fv (f9 (K:=K)) Y3 eI))))) (fg (fk (fW [109,111,110,116,104]))) fN) (fe (fJ (iR (gL (eD (nU ZZ) hr (A2 (kq ZZ.ac.cl (yW ZZ) hr Y0 (A1 (eD (vK ZZ) hr (A2 (fv (f9 (K:=K)) Y3 eI) (fv (f9 (K:=K)) Y3 eI))))) (fv (f9 (K:=K)) Y3 eI))))) (fg (fk (fW [100,97,121]))) fN) (fe (fJ (iR (gL (eD (nU ZZ) hr (A2 (jd (K:=K) Y0) (fv (f9 (K:=K)) Y2 eI))))) (fg (fk (fW [104,111,117,114]))) fN) (fe (fJ (iR (gL (eD (nU ZZ) hr (A2 (jd (K:=K) Y0) (fv (f9 (K:=K)) Y2 eI))))) (fg (fk (fW [109,105,110,117,116,101]))) fN) (fg (fk eN)))))))),?_⟩
 extract_lets;refine⟨(),mo,rfl,λt H1 s1 h1=>⟨(),t,_,(()),SqT.of (h1),rfl,(),λy m k t2 H2 ok e s2 h2=>?_⟩⟩;have s12:=s1.trans s2;have hp2:=s12 _ _ hp;have q':=q y m k;refine⟨(),p,aJ,dx,_,(),hp2,ZZ.ac.cl,ZZ.ai,F4 ..,(),t2,_,(()),SqT.of (h2),rfl,m3,m,rfl,⟨hn.2.2,by have:=ok.1;omega⟩,(),?_⟩;cases c1:tb m3 m.toNat with
 |false=>
  have z:=q' H2 ok e s12;rw[ny c1] at z;exact gk z
 |true=>
  have mk:=nM (y:=y) ok.1.1 ok.1.2;have kl:=qH (y:=y) ok.1.1 ok.1.2;refine gf ⟨(),p,dx,(),hp2,uu ..,(),t2,_,(()),SqT.of (h2),rfl,(),t2,_,(()),SqT.of (h2),rfl,y,m,rfl,ok.1,λH3 s3=>?_⟩;refine⟨p,dx,m0,m1,m3,tm,kindOf y m,dv,wv,kd,kw,rfl,s3 _ _ hp2,kl,hn.2.2,hd.keep (s12.trans s3),hw.keep (s12.trans s3),λH4 s4=>?_⟩;rw[mk.1,mk.2,if_pos c1,qc ok e];have s24:=s3.trans s4;have sA:=s12.trans s24;refine⟨(),t2,_,(()),SqT.of (s24 _ _ h2),rfl,_,k,rfl,⟨sW (qI ok) (ph hd) (ph hw),by have:=ok.2.1;omega⟩,(),?_⟩
  cases c2:tb (gg kd kw (fK y m) ((mo / 1440-k+1+6)%7)) k.toNat with
  |false=>
   have z:=q' H4 ok e sA;rw[ni c1 c2] at z;exact gk z
  |true=>
   refine gf ⟨(),p,aJ,dx,_,(),s24 _ _ hp2,ZZ.ac.cl,ZZ.al,C5 ..,(),t,_,(()),SqT.of ((s2.trans s24) _ _ h1),rfl,m1,(),⟨hn.2.1,⋯⟩,(),?_⟩;cases c3:tb m1 (mo%1440 / 60).toNat with
   |false=>
    have z:=q' H4 ok e sA;rw[oX c1 c2 c3] at z;exact gk z
   |true=>
    refine gf ⟨(),p,aJ,dx,_,(),s24 _ _ hp2,ZZ.ac.cl,ZZ.ah,CG ..,(),t,_,(()),SqT.of ((s2.trans s24) _ _ h1),rfl,m0,(),⟨hn.1,⋯⟩,(),?_⟩;cases c4:tb m0 (mo%1440%60).toNat with
    |false=>
     have z:=q' H4 ok e sA;rw[oF c1 c2 c3 c4] at z;exact gk z
    |true=>
     have z:=q' H4 ok e sA;rw[nk c1 c2 c3 c4] at z;exact gf z
theorem Wt:Dx P w base ZZ.cd 1 (alA K):=by
 refine ZZ.cd.dfs Ky (by trivial) ?_;rintro _ _ _ _ s H _ Q E hr⟨N,rfl,q⟩;refine⟨_,(fe (fJ (fG gb Y1 eI) (fg (fk (gu (A2 (fc gm Y0 eI) eI)))) fN) (fg (fk (gu (A2 Y0 (fc gm Y1 eI)))))),?_⟩;extract_lets;refine⟨(),rfl,(),gp (λc=>?_) (λc=>?_)⟩
 ·refine⟨(),(()),(zL 2),λt ht=>q t _ (fj ht _) ?_⟩;rw[show (N-1) / 12=N / 12-1 by omega,show (N-1)%12+1=12 by omega];exact fh
 ·refine⟨(),(),(()),(zL 2),λt ht=>q t _ (fj ht _) ?_⟩;rw[show (N-1) / 12=N / 12 by omega,show (N-1)%12+1=N%12+1-1 by omega];exact fh
theorem Zh:Dx P w base ZZ.ec 5 (Of K):=by
 refine ZZ.ec.dfs UD (by trivial) ?_;rintro _ _ _ _ s H _ Q E hr⟨mo,rfl,q⟩;refine⟨_,(fe (fq 1 (eD (uo ZZ) hr (A1 (fc ie Y0 (gi (v:=.int 1440) ZZ.ad ⟨()⟩)))) UD.nd) (fg (fk (gu (A2 (fv (f9 (K:=K)) Y1 eI) (fv (f9 (K:=K)) Y1 eI)))))),?_⟩;extract_lets;refine⟨(),(()),zD9,mo / 1440,rfl,λy m k p H1 ok e s1 hp=>?_⟩;refine⟨(),p,_,(()),SqT.of hp,rfl,(),p,_,(()),SqT.of hp,rfl,(zL 2),λt ht=>?_⟩
 have hm:=ok.1;have e1:(12*y+m-1) / 12=y:=⋯;have e2:(12*y+m-1)%12+1=m:=⋯;have u:=jq (12*y+m-1);unfold ju at u;have d:gj (12*y+m-1)=db y+ahead y m:=by unfold gj;rw[e1,e2]
 rw[e1,e2,d] at u;have hk:=ok.2;have e':db y+ahead y m+k-1=mo / 1440:=e;refine q (12*y+m-1) t _ (s1.trans (fj ht _)) (by rw[d];omega) (by rw[u];omega) ?_;rw[e1,e2];exact fh
theorem WC:Dx P w base ZZ.c3 1 (Tr K):=by
 refine ZZ.c3.dfs UB (by trivial) ?_;rintro _ _ _ _ s H _ Q E hr⟨d,ts,rfl,hS,hl,ht,q⟩;refine⟨_,(fe (fq 1 eI UB.nd) (fe (iw (iE ZZ.am Y0) (kO (K:=K) (gx (gN 2 UB.nd) (gx (gN 3 UB.nd) jN))) (fg (fq 1 (fc mm Y1 (fc BO Y3 (fc ii (gi (v:=.int 1440) ZZ.ad ⟨()⟩) Y2))) UB.nd)) PassesOwn.never) (fg (fk Y1)))),?_⟩;extract_lets;refine⟨(),d,rfl,⟨_,hS⟩,wo (K:=K) (a:=d) (xs:=ts.map V.int) (λi σ H2=>∃(u1 u2:Option V),σ=[some (.ref d),some (.int (lZ (λj=>ts.getD j 0) i)),u1,u2]/\Same H H2) ⟨_,(),Same.refl _⟩ (λi σ H2 _ ⟨_,_,_,s2⟩=>s2.seq hS) ?_ ?_⟩
 ·rintro i x σ H2 T hx ⟨u1,u2,rfl,s2⟩ hT;rw[bC] at hx;cases ew:ts[i]? with
  |none=>rw[ew] at hx;cases hx
  |some z=>
   rw[ew] at hx;obtain rfl:V.int z=x:=aZ hx;have hz:=ht z (bU ew);have hi:=(cC.mp ew).1;have ez:ts.getD i 0=z:=by rw[eF,ew];rfl
   have ee:lZ (λj=>ts.getD j 0) (i+1)=Builtin.bitOr (lZ (λj=>ts.getD j 0) i) (z*2^(1440*i)):=by
    show Builtin.bitOr _ (ts.getD i 0*_)=_;rw[ez]
   refine⟨T,(),SqT.of fh,rfl,_,(),(()),?_⟩;refine⟨(),(),(),(()),.inl zD9,(()),⟨⋯,⋯,?_⟩,(()),?_⟩
   ·have:=hz.1;have:=hz.2;have e:((z.natAbs:Nat):Int)<((2^1440:Nat):Int):=by rw[jJ];omega
    exact Int.ofNat_lt.mp e
   ·rw[show (1440*(i:Int)).toNat=1440*i by omega];exact⟨_,_,by rw[ee];rfl,s2.trans (fj hT _)⟩
 ·rintro σ H2 ⟨u1,u2,rfl,s2⟩;rw[aR];exact⟨(),q H2 s2⟩
theorem Qa:Dx P w base ZZ.ey 1 (VT K):=by
 refine ZZ.ey.dfs JR (by trivial) ?_;rintro _ _ _ _ s H _ Q E hr⟨m,k,rfl,hm,hk,hj,q⟩;refine⟨_,(fg (fk (fc gm (zJ (fc om Y0 (mH m6 Y0))) eI))),?_⟩;refine⟨(),(),(),(()),rfl,(),rfl,(()),?_⟩;show Q (.int (((Builtin.Int.intBits (Builtin.bitAnd m (-m)):Nat):Int)-1)) H;rw[QL hm hk hj,VG,show (((k+1:Nat):Int)-1)=k by omega];exact q
theorem Nr:Dx P w base ZZ.b0 7 (L5 K aB aE aF aH aD aA aG aI aJ):=by
 refine ZZ.b0.dfs Ux (by trivial) ?_;rintro _ _ _ _ s H _ Q E hr⟨tw,p,dx,m0,m1,m3,tm,d,dv,wv,kd,kw,rfl,hp,hn,hd,hw,hsh,q⟩;refine⟨_,(fe (fq 2 (eD (uo ZZ) hr (A1 Y1)) Ux.nd) (fe (fq 3 (eD (vK ZZ) hr (A2 (fv (f9 (K:=K)) Y2 eI) (fv (f9 (K:=K)) Y2 eI))) Ux.nd) (fe (fq 4 (fc rD (kq ZZ.ac.cl (yW ZZ) hr Y0 (A1 Y3)) (fv (f9 (K:=K)) Y2 eI)) Ux.nd) (fe (fJ (fG gb Y4 eI) (fg (fk (fc gm (fc fV Y1 (fv (f9 (K:=K)) (eD (wX ZZ) hr (A1 Y3)) eI)) (fv (f9 (K:=K)) Y2 eI)))) fN) (fg (fk (fc gm (fc fV Y1 (eD (Qa ZZ) hr (A1 Y4))) eI))))))),?_⟩
 extract_lets;refine⟨(),d,rfl,λy m k t H1 ok e s1 h1=>?_⟩;have mk:=nM (y:=y) ok.1.1 ok.1.2;have kl:=qH (y:=y) ok.1.1 ok.1.2;refine⟨(),t,_,(()),SqT.of (h1),rfl,(),t,_,(()),SqT.of (h1),rfl,y,m,rfl,ok.1,λH2 s2=>?_⟩;have s12:=s1.trans s2;refine⟨(),p,dx,(),s12 _ _ hp,uu ..,(),p,dx,m0,m1,m3,tm,kindOf y m,dv,wv,kd,kw,rfl,s12 _ _ hp,kl,hn.2.2,hd.keep s12,hw.keep s12,λH3 s3=>?_⟩;have s13:=s12.trans s3;rw[mk.1,mk.2,qc ok e]
 obtain⟨D,eD⟩:∃D,D=(if tb m3 m.toNat=true then gg kd kw (fK y m) ((d-k+1+6)%7) else 0):=⟨()⟩;rw[←eD];have nnD:0<=gg kd kw (fK y m) ((d-k+1+6)%7):=sW (qI ok) (ph hd) (ph hw);have D0:0<=D/\tb D k.toNat=false:=by
  rw[eD];rcases hsh y m k ok e with ⟨_,z⟩ | ⟨_,z,z2⟩
  ·rw[if_neg (by rw[z];decide)];exact⟨aS 0,gQ _⟩
  ·rw[if_pos z];exact⟨nnD,z2⟩
 have DL:D<2^((fK y m).toNat+1):=by
  rw[eD];split
  ·exact FU (qI ok) (ph hd) (ph hw)
  ·exact gS _
 have day:∀j:Nat,k+j<=fK y m->tb D (k.toNat+j)=false->qz m3 kd kw (d+j) tw:=λj hj hb y' m' k' ok' e'=>by
  have hk0:=ok.2.1;obtain⟨rfl,rfl,rfl⟩:=oE (show il y m (k+j) from ⟨ok.1,⋯,hj⟩) ok' (by rw[e',←e];unfold gJ;omega);rcases hsh y m k ok e with ⟨z0,z⟩ | ⟨z0,z,z2⟩
  ·exact .inl ⟨z0,z⟩
  ·refine .inr ⟨z0,z,?_⟩;rw[eD,if_pos z] at hb;rw[show d+(j:Int)-(k+(j:Int))+1+6=d-k+1+6 by omega,show (k+(j:Int)).toNat=k.toNat+j by omega];exact hb
 have hk:=ok.2;refine⟨(),t,_,(()),SqT.of ((s2.trans s3) _ _ h1),rfl,(()),(by show (0:Int)<=k;omega),?_⟩;refine⟨(),rfl,(),gp (λc=>?_) (λc=>?_)⟩
 ·refine⟨(),(),kindOf y m,rfl,kl,λt2 H4 s4 h4=>?_⟩;rw[sG,mk.1,mk.2] at h4;refine⟨t2,_,(()),SqT.of h4,rfl,(()),(),t,_,(()),SqT.of ((s2.trans (s3.trans s4)) _ _ h1),rfl,(()),q _ _ ⋯ (λd' a b=>?_) (s13.trans s4)⟩;have z:=day (d'-d).toNat ⋯ (by rw[←pJ D0.1,c,gQ]);rw[show d+((d'-d).toNat:Int)=d' by omega] at z;exact z
 ·have X0:0<D / 2^k.toNat:=by
   have:0<=D / 2^k.toNat:=Int.ediv_nonneg D0.1 (bN (gS _));omega
  obtain⟨l,hl,hj⟩:=Gq X0;have l1:1<=l:=by
   rcases Nat.eq_zero_or_pos l with z | z
   ·rw[z,pJ D0.1,Nat.add_zero,D0.2] at hl;cases hl
   ·exact z
  have hl2:tb D (k.toNat+l)=true:=by rw[←pJ D0.1];exact hl
  have hle:k.toNat+l<=(fK y m).toNat:=by
   rcases cL (fK y m).toNat (k.toNat+l) with w' | w'
   ·rw[lJ DL w'] at hl2;cases hl2
   ·exact w'
  refine⟨(),(),_,l,rfl,X0,hl,hj,(()),(()),q _ _ ⋯ (λd' a b=>?_) s13⟩;have z:=day (d'-d).toNat ⋯ (by rw[←pJ D0.1];exact hj _ ⋯);rw[show d+((d'-d).toNat:Int)=d' by omega] at z;exact z
theorem Zn:Dx P w base ZZ.ed 8 (Mu K aB aE aF aH aD aA aG aI aJ):=by
 refine ZZ.ed.dfs WG (by trivial) ?_;rintro _ _ _ _ s H _ Q E hr⟨p,dx,tw,m0,m1,m3,tm,d,dv,wv,kd,kw,rfl,hp,hn,hd,hw,hsh,q⟩;refine⟨_,(fe (fJ (fG gb Y2 (fW [109,105,110,117,116,101])) (fg (fk Y1)) fN) (fe (fJ (fG gb Y2 (fW [104,111,117,114])) (fg (fk (fc gm (fc fV (fc gm Y1 (fc gs Y1 (gi (v:=.int 60) ZZ.af ⟨()⟩))) (gi (v:=.int 60) ZZ.af ⟨()⟩)) eI))) fN) (fg (fk (fc gm (fc fV (fc ii (gi (v:=.int 1440) ZZ.ad ⟨()⟩) (eD (Nr ZZ) hr (A2 Y0 (fc ie Y1 (gi (v:=.int 1440) ZZ.ad ⟨()⟩))))) (gi (v:=.int 1440) ZZ.ad ⟨()⟩)) eI))))),?_⟩
 extract_lets;refine⟨(),rfl,(),je (λc=>?_) (λc=>?_)⟩
 ·exact⟨(),q _ _ (aS _) (λz=>absurd c z) (λt a b=>by rw[show t=d by omega];exact hsh) (Same.refl _)⟩
 refine⟨(),rfl,(),je (λc2=>?_) (λc2=>?_)⟩
 ·subst c2;exact⟨(),(),(()),zP9,(()),(()),(()),q _ _ ⋯ (λ_=>by omega) (λt a b=>QU hsh ⋯ ⋯) (Same.refl _)⟩
 ·exact⟨(),(),(()),zD9,tw,p,dx,m0,m1,m3,tm,d / 1440,dv,wv,kd,kw,rfl,hp,hn,hd,hw,Km hsh c c2,λr H1 hr1 hr2 s1=>⟨(()),.inl zD9,(()),(()),q _ _ ⋯ (λ_=>by omega) (λt a b=>WE (hr2 _ ⋯ ⋯)) s1⟩⟩
theorem Z2:Dx P w base ZZ.cp 1 (Ie K):=by
 refine ZZ.cp.dfs LO (by trivial) ?_;rintro _ _ _ _ s H _ Q E hr⟨p,vs',sts,a,b,tm,rfl,hp,hP,hl,q⟩;refine⟨_,(fg (fJ (tW (kA (fG (uE hr.units) Y0 (gB aN)) (kH (fG gb (fv (f9 (K:=K)) (fv (gv (K:=K)) Y0 (mH m6 eI)) eI) Y3)))) (fg (kL (gu (A3 (fv (f9 (K:=K)) (fv (gv (K:=K)) Y0 (mH m6 eI)) eI) Y2 Y3)) (Yn Y0 (mH m6 eI)))) (fg (lI (lW Y0 (gu (A3 Y1 Y2 Y3))))))),?_⟩;refine⟨(),(zL 0),λl hl0=>⟨p,l,vs',rfl,rfl,SqL.of ((fj hl0 _) _ _ hp),SqL.of fh,(),?_⟩⟩
 have s0:=fj hl0 (.lst []);have hp0:=s0 _ _ hp;have app:∀{H1:Hp} (t:Addr),Same H H1->H1 t=none->∀z:gX,Paired (kZ (upd (upd H1 t (.tup [.int z.1,.int z.2.1,.str (Tx z.2.2)])) p (.lst (vs'++[.ref t])))) (vs'++[.ref t]) (sts++[z]):=λ{H1} t s1 ht z=>by
  have tp:t≠p:=λe=>by rw[e,s1 _ _ hp] at ht;cases ht
  have g:∀b xs,H b=some (.tup xs)->upd (upd H1 t (.tup [.int z.1,.int z.2.1,.str (Tx z.2.2)])) p (.lst (vs'++[.ref t])) b=some (.tup xs):=λb xs hb=>by
   rw[fH (λe=>by rw[e,hp] at hb;cases hb)];exact (s1.trans (fj ht _)) _ _ hb
  exact oR (Paired.mapP hP λ_ _ y=>pV g y) ⟨t,rfl,by rw[fH tp,fh]⟩
 have oth:∀{H1:Hp} (t:Addr) (o u:HO),Same H H1->H1 t=none->∀q o',q≠p->H q=some o'->upd (upd H1 t o) p u q=some o':=λ{H1} t o u s1 ht q o' nq hq=>by
  rw[fH nq];exact (s1.trans (fj ht o)) _ _ hq
 by_cases c:vs'=[]
 ·subst c;cases hP;refine gf (gf ⟨(),.inl ⟨rfl,_,SqL.of hp0⟩,(),(),(),(zL 3),λt ht=>⟨p,(()),(fj ht _) _ _ hp0,(by show 0<sizeLine;decide),q _ _ fh (app t s0 ht (a,b,tm)) (oth t _ _ s0 ht)⟩⟩)
 obtain⟨l0,v,rfl⟩:=RC c;obtain⟨st0,z,rfl,hP0,t0,rfl,ht0⟩:=CL hP;rw[Ep] at q;rw[eY c];have ht00:=s0 _ _ ht0;refine gk ⟨(),(),p,_,(()),SqL.of hp0,Hn,t0,_,(()),SqT.of ht00,rfl,(),rfl,(),je (λce=>?_) (λce=>?_)⟩
 ·rw[if_pos ce] at q;refine⟨(),(),p,_,(()),SqL.of hp0,Hn,t0,_,(()),SqT.of ht00,rfl,(),(),(zL 3),λt ht=>?_⟩;have s1:=fj ht (.tup [.int z.1,.int b,.str (Tx tm)]);have tp:t≠p:=λe=>by rw[e,hp0] at ht;cases ht
  refine⟨(),(),p,_,(()),s1 _ _ hp0,NS,?_⟩;rw[Im];have g:∀b' xs,H b'=some (.tup xs)->upd (upd (upd H l (.lst [])) t (.tup [.int z.1,.int b,.str (Tx tm)])) p (.lst (l0++[.ref t])) b'=some (.tup xs):=λb' xs hb=>by
   rw[fH (λe=>by rw[e,hp] at hb;cases hb)];exact (s0.trans s1) _ _ hb
  exact q _ _ fh (oR (Paired.mapP hP0 λ_ _ y=>pV g y) ⟨t,rfl,by rw[fH tp,fh]⟩) (oth t _ _ s0 ht)
 ·rw[if_neg ce] at q;exact⟨(),.inl ⟨rfl,_,SqL.of hp0⟩,(),(),(),(zL 3),λt ht=>⟨p,(()),(fj ht _) _ _ hp0,(by rw[eT];omega),q _ _ fh (app t s0 ht (a,b,tm)) (oth t _ _ s0 ht)⟩⟩
theorem QE:Dx P w base ZZ.ee 9 (Zg K aB aE aF aH aD aA aG aI aJ):=by
 refine ZZ.ee.dfs UF (by trivial) ?_;rintro _ _ _ _ s H _ Q E hr⟨p,b,e,m0,m1,m3,kd,kw,rfl,hR,hE,hbe,q⟩;refine⟨_,(fe (fq 3 (gB aN) UF.nd) (fe (fq 4 Y1 UF.nd) (fe (nF (fG jo Y4 Y2) (fe (fq 5 (kq ZZ.ac.cl (am4 ZZ) hr Y0 (A1 Y4)) UF.nd) (fe (fq 6 (gM Gj ZZ.d0 PyProof.Rows.boot_min (A2 (eD (Zn ZZ) hr (A3 Y0 Y4 Y5)) Y2)) UF.nd) (fe (lI (eD (Z2 ZZ) hr (aC Y3 (A3 Y4 Y6 Y5)))) (fg (fq 4 (fc fV Y6 eI) UF.nd))))) PassesOwn.never) (fg (fk Y3))))),?_⟩
 extract_lets;have hg:=hR.ok;obtain⟨dx,dv,wv,hp,hn,hb,hd,hw⟩:=hR;refine⟨(zL 0),λl hl=>⟨(),?_⟩⟩;refine nv (λσ H2=>∃(mo:Int) (us:List V) (sts:List gX) (u5 u6:Option V),σ=[some (.ref p),some (.int b),some (.int e),some (.ref l),some (.int mo),u5,u6]/\H2 l=some (.lst us)/\Paired (kZ H2) us sts/\Same H H2/\b<=mo/\(mo<=e->(sts.length:Int)<=2*(mo / 60-b / 60)+kC sts)/\(e<b->us=[])/\(mo<=e+1∨mo=b)/\us.length<=10000000/\jB m0 m1 m3 kd kw b sts mo) (λσ _=>match σ[4]? with | some (some (V.int mo))=>(e+1-mo).toNat | _=>0) ⟨b,[],[],_,(),fh,.nil,fj hl _,aS _,(λ_=>by rw[Int.sub_self];decide),(λ_=>rfl),.inr rfl,bM _,rfl⟩ ?_
 rintro σ H2 ⟨mo,us,sts,u5,u6,rfl,h2,hP,s2,hbm,hlen,hemp,hend,hsz,hcov⟩;refine⟨(),(),(()),(),gn (λc=>?_) (λc=>?_)⟩
 ·refine⟨_,λ_ _ h=>h,?_⟩;refine⟨(),p,dx,(),s2 _ _ hp,JK ..,(),p,dx,m0,m1,m3,gC m1 m0,mo,dv,wv,kd,kw,rfl,s2 _ _ hp,hn,hd.keep s2,hw.keep s2,λy m k H3 ok ed s3=>?_⟩;have s23:=s2.trans s3;obtain⟨tw,etw,hday⟩:=NY (λz=>hE mo hbm c (Dy hn hb hg ok ed z));have hwd:jl m0 m1 m3 kd kw mo (.str (Tx tw)):=λy' m' k' ok' e'=>by
   obtain⟨rfl,rfl,rfl⟩:=oE ok ok' (ed.trans e'.symm);exact etw
  rw[etw];refine⟨(),(),(),p,dx,tw,m0,m1,m3,gC m1 m0,mo,dv,wv,kd,kw,rfl,s23 _ _ hp,hn,hd.keep s23,hw.keep s23,hwd,λr H4 hr1 hr2 hr3 s4=>⟨(),_,(),?_⟩⟩;obtain⟨la,ela⟩:∃la,la=if e<r then e else r:=⟨()⟩
  show i7 _ (V.int (if e<r then e else r)) _ _ _;rw[←ela];have hla:mo<=la/\la<=e/\(la<e->la=r):=by
   rw[ela];split<;>omega
  have hlen':=hlen c;have pl:=oa hP;have l1:=Hg sts;have g34:∀b' xs,H2 b'=some (.tup xs)->H4 b'=some (.tup xs):=λb' xs z=>s4 _ _ (s3 _ _ z);refine⟨(),(),(),(),l,us,sts,mo,la,tw,rfl,s4 _ _ (s3 _ _ h2),Paired.mapP hP (λ_ _ z=>pV g34 z),⋯,λH5 us' h5 hP5 oth=>?_⟩;refine⟨(),(()),?_⟩;have cv:=Ej (tw:=tw) hcov hla.1 (λt a b=>hr3 t a (by rcases (show la<e∨la=e by omega) with w' | w';(· have:=hla.2.2 w';omega);(· rw[ela] at b;split at b<;>omega))) ⟨y,m,k,ok,ed⟩ (JT etw)
  have al:=(EA sts mo la tw).1;have pl5:=oa hP5;refine⟨_,(by show (e+1-(la+1)).toNat<(e+1-mo).toNat;omega),rfl,la+1,us',_,_,(),h5,hP5,λq' o hq=>oth q' o (λz=>by rw[z,hl] at hq;cases hq) (s4 _ _ (s23 _ _ hq)),⋯,(λz=>Tw hlen' hla.1 λn=>?_),(λz=>?_),.inl ⋯,⋯,cv⟩
  ·have:=hr2 n;have:=hla.2.2 ⋯;omega
  ·omega
 ·exact⟨(),q l us sts H2 hl s2 h2 hP hsz (λz=>by rw[show e+1=mo by omega];exact hcov) hemp⟩
theorem alV:Dm P w mg base ZZ.cq 7 (C4 K aJ aB aE aF aH aD aA aG aI):=by
 refine ZZ.cq.dfs U2 (by trivial) ?_;rintro _ _ _ _ s H _ Q E hr⟨p,dx,m0,m1,m3,tm,k,dv,wv,kd,kw,rfl,hp,hk,hm,hd,hw,q⟩;refine⟨_,(ke (fq 2 (kq ZZ.ac.cl (yW ZZ) hr Y0 (A1 Y1)) U2.nd) (ke (fq 3 (fv (f9 (K:=K)) (eD (wX ZZ) hr (A1 Y1)) eI) U2.nd) (fg (fk (oG ["days","self"] [2,0] (sx ZZ.aa (A2 eI (fc fV Y3 eI))) (λ_ _ _ _ _ _=>nL) (λ_ _ _ _ _ _=>(me (gL (eD (nU ZZ) hr (A2 Y1 Y0))) (jd (K:=K) Y2) eI))))))),?_⟩
 extract_lets;refine⟨λσ' H'=>σ'=[some (.ref p),some (.int k),some (.int (gW m3 kd kw k)),none]/\Same H H',⟨(),p,dx,(),hp,uu ..,(),p,dx,m0,m1,m3,tm,k,dv,wv,kd,kw,rfl,hp,hk,hm,hd,hw,λH1 s1=>⟨rfl,s1⟩⟩,?_⟩;rintro σ' H1 ⟨rfl,s1⟩;have ml:=(mJ hk.1 hk.2).2.1;refine⟨λσ' H'=>σ'=[some (.ref p),some (.int k),some (.int (gW m3 kd kw k)),some (.int (gZ k))]/\Same H1 H',⟨(),k,rfl,hk,λt H2 s2 h2=>⟨t,_,(()),SqT.of (by rw[sG] at h2;exact h2),rfl,rfl,s2⟩⟩,?_⟩
 rintro σ' H2 ⟨rfl,s2⟩;refine⟨(),(()),_,(),⟨by decide,by decide,⋯,⋯⟩,qm (λi l=>l=((List.range i).map (gy tm m3 kd kw k)).map V.int) (by show (gZ k+1-1).toNat<=sizeLine;rw[eT];omega) rfl ?_ ?_⟩
 ·intro i l D H3 E' F' hi hR hD s3 hl hE hF;subst hR;have hp3:=(s1.trans (s2.trans s3)) _ _ hp;have et:(1+(i:Int)).toNat=i+1:=⋯;have fZ:∀v:Int,v=gy tm m3 kd kw k i->E' (.int v) H3:=λv ev=>hE _ _ (Same.refl _) (by rw[ev,List.range_succ,bB,bB];rfl);refine⟨(),(),gW m3 kd kw k,(),⟨Jc hd hw hk.1 hk.2,⋯⟩,(),?_⟩;rw[et];by_cases c:tb (gW m3 kd kw k) (i+1)=true
  ·rw[c];exact gk ⟨(),p,aJ,dx,_,(),hp3,ZZ.ac.cl,ZZ.a2,anM ..,fZ tm (by unfold gy;rw[if_pos c])⟩
  ·rw[show tb (gW m3 kd kw k) (i+1)=false by simpa using c];exact gf (fZ 0 (by unfold gy;rw[if_neg c]))
 ·intro D H3 l hR hD s3 hl;subst hR;refine q D H3 (s1.trans (s2.trans s3)) ?_;rw[hl];unfold jA;rw[show (gZ k+1-1).toNat=(gZ k).toNat by omega]
theorem Qq{HA:Hp}{f c' a p:Addr}{qual:Str}{params:Arguments}{body:Expr}{scope:Scope}{pm ctv:Value}{o0:Obj}{u0:Value}{m0 m1 m3:Int}{kd kw:Ko}(S:iA "kind" "row" scope)
  (hb:∀(s:Shared) (u:Value),BindsTo s (PySem.W.kla_fn "<lambda>" qual params body scope [("row",a)] pm (.ref c') ctv) ⟨[u],[]⟩ [("kind",u)])
  (hB:∀(A:Around) (outer:List Env) (s:Shared) (H1:Hp),Room 7 (j6 P w K mg base ["kind","row"] qual scope s.heap.objs.size f c' [("row",a)] A outer s H1).A->L2.E (j6 P w K mg base ["kind","row"] qual scope s.heap.objs.size f c' [("row",a)] A outer s H1) body (yO aJ "on_days" (C4 K aJ aB aE aF aH aD aA aG aI) [] E0 (rj 1) (jr (rj 0) jQ)))
  (hf:HA f=some (iq f (oz qual params body scope "row" a pm c' ctv))) (hc:HA c'=some (lQ c' qual)) (ha:HA a=some (iq a o0)) (ho:o0.data=.cell (some u0)) (r0:RelV (.ref p) u0)
  (hR:RowR (⟨aB,aE,aF,aH,aD,aA,aG,aI⟩:Cs) aJ (gF HA a) p m0 m1 m3 kd kw):yb P w K mg base 8 HA f (gy (gC m1 m0) m3 kd kw):=by
 refine⟨⟨_,_,_,_,hf⟩,λH1 k Q s1 k0 k1 q=>?_⟩;intro A outer s us hr e0 rv;obtain⟨u,rfl,ru⟩:∃u,us=[u]/\RelV (.int k) u:=by
  cases rv with
  |cons r rn=>cases rn;exact⟨(),r⟩
 obtain⟨dx,dv,wv,hp,hn,hb2,hd,hw⟩:=hR;have se:Same (gF HA a) (gF H1 a):=λb o e=>by
  obtain⟨nb,e⟩:=sU e;rw[ig nb];exact s1 _ _ e
 refine K2 S hr e0 (hb s u) ru (s1 _ _ hf) (s1 _ _ hc) (s1 _ _ ha) ho r0 (hB A outer s (gF H1 a) (hr.deeper _)) ?_;refine⟨(),p,dx,(),se _ _ hp,Oj ..,(),p,dx,m0,m1,m3,gC m1 m0,k,dv,wv,kd,kw,rfl,se _ _ hp,⟨k0,k1⟩,hn.2.2,hd.keep se,hw.keep se,λD H' s' hD na=>q D _ (λb o e=>?_) ?_⟩
 ·by_cases z:b=a
  ·rw[z] at e ⊢;rw[s1 _ _ ha] at e;rw[fh];exact e
  ·rw[fH z];exact s' _ _ (by rw[ig z];exact e)
 ·rw[fH (λz=>by rw[z,na] at hD;cases hD)];exact hD
theorem NL:Dx P w base ZZ.c4 9 (K4 P w mg base K):=by
 refine ZZ.c4.dfs Qw (by trivial) ?_;rintro f _ _ _ s H _ Q E hr⟨kn,f,kd,kvs,g,H0,rfl,hk,hkn,hK,hl,hg,h0,s0,hD,q⟩;refine⟨_,(fe (fJ (tU hr Y2 Y0) (fg (uI hr Y0 Y2 (eD (WC ZZ) hr (A1 (Zf (k:=8) hr Y1 (A1 Y2)))))) fN) (fg (fk (Na hr Y0 Y2)))),?_⟩;extract_lets;refine⟨(),(),kn,(),DGet.k (k:=.inl kd) hkn,(),?_⟩;cases e:iB kvs (.inl kd) with
 |none=>
  have hF:=Vw s0 hD.1;refine gk ⟨(),f,rfl,hF,(),hF,hD.2 H kd _ s0 hk.1 hk.2 λD H2 s2 h2=>⟨D,jA g kd,rfl,SqL.of h2,Q2 g hk.1 hk.2,L9 hg,λH3 s3=>?_⟩⟩;have s23:=s2.trans s3;refine⟨(),(),kn,(),.inl ⟨kvs,.inl kd,s23 _ _ hkn,rfl,by rw[eT];omega,rfl⟩,?_⟩;exact⟨(),(),kn,(),.inl ⟨_,.inl kd,.inl fh,rfl,(by rw[Bj,if_pos rfl];rfl)⟩,q _ _ fh (Jl hK kd) (wV _ _ _) λb o n hb=>by rw[fH n];exact s23 _ _ hb⟩
 |some v=>
  have ev:=hK kd v e;subst ev;exact gf ⟨(),(),kn,(),.inl ⟨_,.inl kd,.inl hkn,rfl,e.symm⟩,q kvs H hkn hK ⋯ λ_ _ _ hb=>hb⟩
theorem UY:Dx P w base ZZ.ef 10 (Ow P w mg base K):=by
 refine ZZ.ef.dfs Uv (by trivial) ?_;rintro f _ _ _ s H _ Q E hr⟨f,mo,g,rfl,hg,hD,q,q0⟩;refine⟨_,(fe (fq 2 (eD (Zh ZZ) hr (A1 Y1)) Uv.nd) (fe (fq 3 NW Uv.nd) (fe (iw (lO ZZ.aa (A1 (gi (v:=.int 492) ZZ.cj ⟨()⟩))) (gN 4 Uv.nd) (fe (fq 5 (fc ii (gi (v:=.int 1440) ZZ.ad ⟨()⟩) (eD (CS ZZ) hr (A3 (fv (f9 (K:=K)) Y2 eI) (fv (f9 (K:=K)) Y2 eI) eI))) Uv.nd) (fe (fq 6 (gM Gj ZZ.d0 PyProof.Rows.boot_min (A2 (fc gm Y1 Y5) (gi (v:=.int 44640) ZZ.bi ⟨()⟩))) Uv.nd) (fe (fq 7 (fc om (eD (NL ZZ) hr (A3 Y3 Y0 (eD (vK ZZ) hr (A2 (fv (f9 (K:=K)) Y2 eI) (fv (f9 (K:=K)) Y2 eI))))) (fc gm (fc BO eI Y6) eI)) Uv.nd) (fe (fJ (fG jV Y7 eI) (fg (fk (fc gm (fc fV Y5 (zJ Y7)) eI))) fN) (fg (fq 2 (eD (Wt ZZ) hr (A2 (fv (f9 (K:=K)) Y2 eI) (fv (f9 (K:=K)) Y2 eI))) Uv.nd)))))) PassesOwn.never) (fg (fk eN))))),?_⟩
 extract_lets;have hc:=og hg;refine⟨(),mo,rfl,λM0 t0 H1 s1 a1 a2 ht0=>λkn hkn=>?_⟩;have hkH:H kn=none:=by
  cases z:H kn with
  |none=>rfl
  |some o=>rw[s1 _ _ z] at hkn;cases hkn
 have sk:=fj hkn (.dK []);refine⟨(),by decide,by decide,kE (λi σ H2=>∃(tt:Addr) (kvs:List (gc×V)) (u4 u5 u6 u7:Option V),σ=[some (.ref f),some (.int mo),some (.ref tt),some (.ref kn),u4,u5,u6,u7]/\H2 tt=some (.tup [.int ((M0-i) / 12),.int ((M0-i)%12+1)])/\H2 kn=some (.dK kvs)/\qt g kvs/\kvs.length<=i/\Same H H2/\∀t,SM (M0-i+1)<=t->t<=mo->¬ip g t) ⟨t0,[],_,_,_,(),by rw[show M0-((0:Nat):Int)=M0 by omega];exact sk _ _ ht0,fh,λ_ _ z=>(by cases z),aQ _,s1.trans sk,λt h1 h2=>by rw[show M0-((0:Nat):Int)=M0 by omega] at h1;unfold SM at h1;omega⟩ ?turn ?done⟩
 case done=>
  rintro σ H2 ⟨tt,kvs,u4,u5,u6,u7,rfl,htt,hk2,hK,hl,s2,hno⟩;exact q0 H2 s2 (HG hc a1 a2 λt h1 h2=>hno t (by rw[show M0-((492:Int).toNat:Int)+1=M0-491 by omega];exact h1) h2)
 case turn=>
  rintro i σ H2 hi ⟨tt,kvs,u4,u5,u6,u7,rfl,htt,hk2,hK,hl,s2,hno⟩;obtain⟨M,eM⟩:∃M,M=M0-(i:Int):=⟨()⟩;rw[←eM] at htt hno;have hi2:i<492:=hi;have lm:=lg M;have a1':SM M0<=mo:=a1;have hMm:SM M<=mo:=bO (hc.mono (show M<=M0 by omega)) a1';have hc4:SM (M+1)-SM M<=44640:=by
   have:=vh M 1;have e1:M+((1:Nat):Int)=M+1:=rfl;rw[e1] at this;omega
  refine⟨(),tt,_,(()),SqT.of (htt),rfl,(),tt,_,(()),SqT.of (htt),rfl,(M / 12),(M%12+1),1,rfl,⟨⟨⋯,⋯⟩,⋯,by have h:28<=fK (M / 12) (M%12+1):=lm.1;omega⟩,λH3 s3=>⟨(()),.inl zD9,?_⟩⟩;have eS:1440*(db (M / 12)+ahead (M / 12) (M%12+1)+1-1)=SM M:=by unfold SM gj;omega
  show i7 _ (V.int (1440*(db (M / 12)+ahead (M / 12) (M%12+1)+1-1))) _ _ _;rw[eS];refine⟨(),(),(()),_,(),?_⟩;show i7 _ (V.int (if 44640<mo-SM M then 44640 else mo-SM M)) _ _ _;rw[aKX];have s23:=s2.trans s3;refine⟨(),(),(),tt,_,(()),SqT.of (s3 _ _ htt),rfl,(),tt,_,(()),SqT.of (s3 _ _ htt),rfl,(M / 12),(M%12+1),rfl,⟨⋯,⋯⟩,λH4 s4=>?_⟩;have s24:=s23.trans s4;refine⟨kn,f,gP M,kvs,g,H,rfl,p4 M,s4 _ _ (s3 _ _ hk2),hK,⋯,hg,hkH,s24,hD,λkvs' H5 h5 hK5 hl5 k5=>?_⟩
  have s5:Same H H5:=λb o hb=>k5 b o (λz=>by rw[z,hkH] at hb;cases hb) (s24 _ _ hb);have nt:tt≠kn:=λz=>by rw[z,hk2] at htt;cases htt
  have ht5:H5 tt=_:=k5 tt _ nt (s4 _ _ (s3 _ _ htt));refine⟨(),(()),⟨by show (0:Int)<=min (mo-SM M) 44640;omega,by show min (mo-SM M) 44640<=1000000;omega,by decide⟩,(()),(()),?_⟩;refine⟨(),rfl,(),ol (λc=>?_) (λc=>?_)⟩
  ·have X0:0<Builtin.bitAnd (WM g M) (2*2^(min (mo-SM M) 44640).toNat-1):=by
    have p1:=gS (min (mo-SM M) 44640).toNat;have:0<=Builtin.bitAnd (WM g M) (2*2^(min (mo-SM M) 44640).toNat-1):=nD (hc.nn M) ⋯;have c':¬Builtin.bitAnd (WM g M) (2*2^(min (mo-SM M) 44640).toNat-1)=0:=c;omega
   obtain⟨l,el,hl',hj⟩:=V6 X0;obtain⟨b1,b2,b3⟩:=JZ hc hc4 hMm hno hl' hj;have far:=vh (M0-491) 492;have up:=hc.mono (show M0-491<=M by omega);rw[show M0-491+((492:Nat):Int)=M0+1 by omega] at far;have a2':mo<SM (M0+1):=a2;refine⟨(),(),rfl,(),rfl,(()),(()),?_⟩;have ee:SM M+(Builtin.Int.intBits (Builtin.bitAnd (WM g M) (2*2^(min (mo-SM M) 44640).toNat-1)):Int)-1=SM M+l:=⋯;show Q (.int (SM M+(Builtin.Int.intBits (Builtin.bitAnd (WM g M) (2*2^(min (mo-SM M) 44640).toNat-1)):Int)-1)) H5
   rw[ee];exact q _ H5 s5 b1 b2 b3 ⋯
  ·refine⟨(),tt,_,(()),SqT.of (ht5),rfl,(),tt,_,(()),SqT.of (ht5),rfl,M,rfl,λt6 H6 s6 h6=>?_⟩;refine⟨t6,kvs',_,_,_,(),by rw[show M0-((i+1:Nat):Int)=M-1 by omega];exact h6,s6 _ _ h5,hK5,⋯,s5.trans s6,?_⟩;rw[show M0-((i+1:Nat):Int)+1=M by omega];exact XD hc hc4 hMm hno c
theorem LA:Df P w K mg base "last_to" 11 ["row","moment"] (Lj K aB aE aF aH aD aA aG aI aJ aK aL):=by
 refine ZZ.es.dfs Uy (by trivial) ?_;rintro _ A outer s H _ Q E hr⟨p,mo,m0,m1,m3,kd,kw,rfl,hR,hT,q⟩;refine⟨_,(fe (fq 2 (XI "row" 0 (UY ZZ) hr (A2 (AG ZZ.dz) Y1)) Uy.nd) (fe (fJ (fG iZ Y2 eN) (fg (fk (gu (A2 eN (gB aN))))) fN) (fg (fk (gu (A2 Y2 (eD (QE ZZ) hr (A3 Y0 (fc fV Y2 eI) Y1)))))))),?_⟩;extract_lets;delta rM pA Dk jr;refine KR (tN:=aK) hT.1 hT.2 (λf' HL hL=>⟨(),(),λha o0 u0 ho r0=>?_⟩)
 obtain⟨hf0,sN,⟨c',ctv,hf,hc⟩,t1⟩:=hL;have nf:f'≠_:=λz=>by rw[z,ha] at hf;cases hf
 have nc:c'≠_:=λz=>by rw[z,ha] at hc;cases hc
 have hg:=hR.ok;have tab:∀{H'},Same HL H'->m8 H' aK aL:=λs=>AM s ⟨t1,Co sN hT.2⟩;refine⟨f',mo,gy (gC m1 m0) m3 kd kw,rfl,hg,?hD,λe H' s' ev h1 h2 h3=>⟨s' _ _ fh,?_⟩,λH' s' hno=>⟨s' _ _ fh,?_⟩⟩
 case hD=>
  refine Qq ZZ ?hS ?hB1 ?hB2 ((fH nf).trans hf) ((fH nc).trans hc) fh ho r0 (RowR.keepN (sN.trans (kJ (yU ha (Same.refl _)))) hR)
  case hS=>exact⟨rfl,rfl,rfl,by decide +kernel,rfl,rfl,by decide +kernel,by decide +kernel⟩
  case hB1=>exact λs u=>.of_eq rfl
  case hB2=>exact λA outer s H1 hr=>kq ZZ.ac.cl (alV ZZ) hr (v_ 1) (aC (v_ 0) aN)
 ·have sE:=yU ha s';have sNE:=sN.trans (kJ sE);refine⟨(),rfl,(),gn (λc=>by cases c) (λ_=>?_)⟩;refine⟨(),(),(),(()),(),p,(e+1),mo,m0,m1,m3,kd,kw,rfl,RowR.keepN sNE hR,λt a b=>h2 t ⋯ b,⋯,λl us sts H2 hl s2 hl2 hP hsz hcv hemp=>⟨(zL 2),λt ht=>?_⟩⟩;have s3:=s2.trans (fj ht (.tup [.int e,.ref l]));exact q t l us _ (.int e) (sNE.trans (kJ s3)) (tab (sE.trans s3)) (Bs sNE hl) fh (fj ht _ _ _ hl2) (.inl ⟨e,rfl,ev,⟨h1,h2⟩,(λz=>hemp ⋯),hsz,sts,Paired.mapP hP (λ_ _ z=>pV (λb xs hb=>fj ht _ _ _ hb) z),(hcv ⋯)⟩)
 ·have sE:=yU ha s';have sNE:=sN.trans (kJ sE);refine⟨(),rfl,(),gn (λ_=>?_) (λc=>absurd rfl c)⟩;refine⟨(zL 0),λl hl=>⟨(zL 2),λt ht=>?_⟩⟩;have s3:=(fj hl (.lst [])).trans (fj ht (.tup [.non,.ref l]));exact q t l [] _ .non (sNE.trans (kJ s3)) (tab (sE.trans s3)) (Bs sNE hl) fh (fj ht _ _ _ fh) (.inr ⟨rfl,rfl,hno⟩)
theorem DY:Dx P w base ZZ.ce 1 (Pk K):=by
 refine ZZ.ce.dfs OW (by trivial) ?_;rintro _ _ _ _ s H _ Q E hr⟨a,k,rfl,⟨ns,hS⟩,⟨h0,h9⟩,q⟩;refine⟨_,(fe (fJ (fG qQ Y1 (gM (k6 (K:=K)) ZZ.ag PySem.boot_len (A1 Y0))) (fg (fk (fv (gv (K:=K)) Y0 Y1))) fN) (fg (fk (fc gs (fc ii (fc oP (fc fV Y1 eI) eI) eI) eI)))),?_⟩;extract_lets;refine⟨(),(),a,(),.inl hS,(()),(),?_⟩;refine gn (λc=>?_) (λc=>?_)
 ·rw[aR] at c;have hk:k.toNat<ns.length:=⋯;have ek:k=((k.toNat:Nat):Int):=⋯;have e:jb (ns.map V.int) k=some (.int ns[k.toNat]):=by
   have z:jb (ns.map V.int) ((k.toNat:Nat):Int)=some (.int ns[k.toNat]):=qv (by rw[bC,bW hk];rfl);rw[←ek] at z;exact z
  refine⟨(),(),a,_,(()),hS,e,?_⟩;exact q _
 ·refine⟨(),(()),(()),⟨by decide,by decide,(by show (k+2).natAbs<2^64;omega)⟩,(()),.inr zD9,(()),zP9,?_⟩;exact q _
theorem XC:Dx P w base ZZ.dj 1 (Om K):=by
 refine ZZ.dj.dfs Uj (by trivial) ?_;rintro _ _ _ _ s H _ Q E hr⟨n,rfl,q⟩;refine⟨_,(fe (fq 1 (fc gs (fc ii (fc fV (fc gs Y0 (fc oP eI eI)) eI) eI) eI) Uj.nd) (fe (fq 2 (fc gs (fc ii Y1 (fc fV (fc gs Y1 eI) eI)) eI) Uj.nd) (fg (fk (fc gs (fc ii Y2 (fc fV (fc gs Y2 eI) eI)) eI))))),?_⟩;extract_lets;refine⟨(),(()),⟨by decide,by decide,by decide⟩,(()),(by rw[Rc];show (0:Int)<_;decide),(()),(()),.inr zD9,(()),zP9,?_⟩
 refine⟨(),(),(()),zP9,(()),(()),GJ (by decide) (by decide),(()),zP9,?_⟩;refine⟨(),(),(()),zP9,(()),(()),GJ (by decide) (by decide),(()),zP9,?_⟩;exact q _ (cG _ (by decide)) (dF _ (by decide))
theorem pM:Dx P w base ZZ.cr 2 (Jo K):=by
 refine ZZ.cr.dfs U9 (by trivial) ?_;rintro _ _ _ _ s H _ Q E hr⟨c,a,b,ss,rfl,hS,hz,hl,q⟩;refine⟨_,(fe (fq 3 (gB aN) U9.nd) (fe (fq 2 (qk Y2 (jm (hV qQ (gM EB ZZ.d1 PyProof.Rows.boot_abs (A1 Y0)) (fc oP eI eI)))) U9.nd) (fe (iw (lE (K:=K) Y1) (gN 4 U9.nd) (fg (fJ (gL Y2) (fe (fq 0 (eD (XC ZZ) hr (A1 Y0)) U9.nd) (fg (lI (lW Y3 (fc gs (fc ie Y0 eI) Y4))))) (fe (lI (lW Y3 (fc gs Y0 Y4))) (fg (fq 0 (fc ie Y0 Y4) U9.nd))))) PassesOwn.never) (fg (fk Y3))))),?_⟩
 extract_lets;refine⟨(zL 0),λfl hfl=>?_⟩;refine⟨(),(),ye (λ_=>?_) (λ_=>⟨(),(),(()),⟨by decide,by decide,by decide⟩,(()),?_⟩)⟩
 all_goals
  refine⟨(),a,rfl,⟨_,(fj hfl _).seq hS⟩,l9 (K:=K) (a:=a) (xs:=ss.map V.int) (λi σ H2=>∃(c':Int) (b':Bool) (u:Option V) (ds:List Int),σ=[some (.int c'),some (.ref a),some (.bl b'),some (.ref fl),u]/\Same H H2/\H2 fl=some (.lst (ds.map V.int))/\Digs ds (ss.take i)) ⟨_,_,_,[],rfl,fj hfl _,fh,.nil⟩ (λi σ H2 _ ⟨_,_,_,_,_,s2,_⟩=>s2.seq hS) ?_ ?_⟩
  ·rintro i x σ H2 hx ⟨c',b',u,ds,rfl,s2,hf,hd⟩;rw[bC] at hx;cases e:ss[i]? with
   |none=>rw[e] at hx;cases hx
   |some z=>
    rw[e] at hx;obtain rfl:V.int z=x:=aZ hx;have hzz:=hz z (bU e);have et:ss.take (i+1)=ss.take i++[z]:=by rw[b8,e];rfl
    have hdl:(ds.map V.int).length<sizeLine:=by
     have q1:=hd.len;rw[dE] at q1;rw[aR,eT];omega
    have app:∀d:Int,(ds.map V.int)++[V.int d]=(ds++[d]).map V.int:=λd=>by rw[bB];rfl
    refine⟨(),(),?_⟩;cases b' with
    |true=>
     refine gk ⟨(),(),λr hr0 hr1=>?_⟩;refine⟨(),.inl ⟨rfl,_,SqL.of hf⟩,(),(()),zD9,(),(()),hzz.1,fl,(()),hf,hdl,?_⟩;refine⟨_,_,_,ds++[r / 8%z],rfl,mC hfl s2,by rw[app];exact fh,?_⟩;rw[et];exact hd.snoc (cG _ (Int.ne_of_gt hzz.1)) (dF _ hzz.1)
    |false=>
     refine gf ⟨(),.inl ⟨rfl,_,SqL.of hf⟩,(),(),(()),hzz.1,fl,(()),hf,hdl,?_⟩;refine⟨(),(),(()),hzz,?_⟩;refine⟨_,_,_,ds++[c'%z],rfl,mC hfl s2,by rw[app];exact fh,?_⟩;rw[et];exact hd.snoc (cG _ (Int.ne_of_gt hzz.1)) (dF _ hzz.1)
  ·rintro σ H2 ⟨c',b',u,ds,rfl,s2,hf,hd⟩;rw[aR,cQ] at hd;exact⟨(),q ds fl H2 s2 hf hd⟩
theorem vt:Dx P w base ZZ.dk 1 (Nq K):=by
 refine ZZ.dk.dfs Ua (by trivial) ?_;rintro _ _ A _ s H _ Q E hr⟨p,fm,fi,la,st,lo,hi,rfl,hp,hb,q⟩;refine⟨_,(fe (kL Y0 (AV (gx (gN 3 Ua.nd) (gx (gN 4 Ua.nd) (gx (gN 5 Ua.nd) (gx (gN 6 Ua.nd) jN)))))) (fe (fq 4 (fc fV Y1 (fc gs Y4 (fc fV (fc gm Y2 Y1) eI))) Ua.nd) (fe (fq 5 (fc fV Y4 (fc gs Y5 (fc fV (fc gm Y2 Y4) eI))) Ua.nd) (fe (fq 6 (fc fV eI (fc gs Y6 eI)) Ua.nd) (fe (fJ (fG gb Y3 eI) (fg (fk (gu (A2 (fW [42]) (gT oq ZZ.an PyProof.Rows.boot_list (A1 (gT C2 ZZ.aa eZ (A2 Y1 (fc fV Y2 eI))))))))) fN) (fe (fJ (fG gb Y3 eI) (fg (fk (gu (A2 (fc jI (fW [42,47]) (gT jD ZZ.ae PyProof.Rows.boot_str (A1 Y6))) (gT oq ZZ.an PyProof.Rows.boot_list (A1 (gT rZ ZZ.aa eZ (A3 Y1 (fc fV Y2 eI) Y6)))))))) fN) (fe (fJ (fG gb Y3 eI) (fg (fk (gu (A2 (gT jD ZZ.ae PyProof.Rows.boot_str (A1 Y4)) (gB (A1 Y4)))))) fN) (fe (fJ (fG gb Y3 eI) (fg (fk (gu (A2 (fc jI (fc jI (gT jD ZZ.ae PyProof.Rows.boot_str (A1 Y4)) (fW [45])) (gT jD ZZ.ae PyProof.Rows.boot_str (A1 Y5))) (gT oq ZZ.an PyProof.Rows.boot_list (A1 (gT C2 ZZ.aa eZ (A2 Y4 (fc fV Y5 eI))))))))) fN) (fe (fJ (fG gb Y3 eI) (fg (fk (gu (A2 (fc jI (fc jI (fc jI (fc jI (gT jD ZZ.ae PyProof.Rows.boot_str (A1 Y4)) (fW [45])) (gT jD ZZ.ae PyProof.Rows.boot_str (A1 Y5))) (fW [47])) (gT jD ZZ.ae PyProof.Rows.boot_str (A1 Y6))) (gT oq ZZ.an PyProof.Rows.boot_list (A1 (gT rZ ZZ.aa eZ (A3 Y4 (fc fV Y5 eI) Y6)))))))) fN) (fg (fk (gu (A2 (fc jI (fc jI (gT jD ZZ.ae PyProof.Rows.boot_str (A1 Y4)) (fW [47])) (gT jD ZZ.ae PyProof.Rows.boot_str (A1 Y6))) (gT oq ZZ.an PyProof.Rows.boot_list (A1 (gT rZ ZZ.aa eZ (A3 Y4 (fc fV Y2 eI) Y6))))))))))))))))),?_⟩
 extract_lets;have p1:0<hi-lo+1:=⋯;have m0:=cG fi (show (hi-lo+1)≠0 by omega);have m1:=dF fi p1;refine⟨(),p,(),hp,rfl,_,(),_,(),_,(),(()),?_⟩;refine⟨(),(),(),(),(()),(()),(()),p1,(()),?_⟩;obtain⟨A,eA⟩:∃A,A=lo+fi%(hi-lo+1):=⟨()⟩;have a1:lo<=A/\A<=hi:=⋯;show i7 4 (V.int (lo+fi%(hi-lo+1))) _ _ _;rw[←eA];have p2:0<hi-A+1:=⋯;have n0:=cG la (show (hi-A+1)≠0 by omega);have n1:=dF la p2;refine⟨(),(),(),(),(()),(()),(()),p2,(()),?_⟩
 obtain⟨B,eB⟩:∃B,B=A+la%(hi-A+1):=⟨()⟩;have b1:A<=B/\B<=hi:=⋯;show i7 5 (V.int (A+la%(hi-A+1))) _ _ _;rw[←eB];have s0:=cG st (show (99:Int)≠0 by decide);have s1:=dF st (show (0:Int)<99 by decide);refine⟨(),(()),zP9,(()),?_⟩;obtain⟨S,eS⟩:∃S,S=1+st%99:=⟨()⟩;have ss:1<=S/\S<=99:=⋯;show i7 6 (V.int (1+st%99)) _ _ _;rw[←eS];have sm:∀z:Int,0<=z->z<=99->z.toNat<10^500/\[V.int z]=[V.int (z.toNat:Nat)]:=λz h1 h2=>⟨bA (show z.toNat<100 by omega) (by decide +kernel),by rw[bK h1]⟩
 have nl:∀z:Int,0<=z->z<=99->(num z.toNat).length<=2:=λz h1 h2=>(oK _ ⋯).2.2.2;have na:∀z:Int,0<=z->z<=99->g9 (num z.toNat):=λz h1 h2=>EO _ ⋯;have z4':∀{n m:Nat},n<=20->m<=20->n+m<=sizeLine:=λ{n m} h1 h2=>by rw[eT];omega
 have hA0:0<=A:=bO hb.1 a1.1;have hA31:A<=63:=bO a1.2 hb.2.2;have hB0:0<=B:=bO hA0 b1.1;have hB31:B<=63:=bO b1.2 hb.2.2;have hl31:lo<=63:=bO hb.2.1 hb.2.2;have hh0:0<=hi:=bO hb.1 hb.2.1;have hS0:0<S:=Int.lt_of_lt_of_le (by decide) ss.1;have hSm:S<=1000:=bO ss.2 (by decide);have hSx:S<1073741824:=Int.lt_of_le_of_lt ss.2 (by decide);have up:∀{z:Int},z<=63->z<=1000/\z<=99:=λh=>⟨bO h (by decide),bO h (by decide)⟩
 have dn:∀{z:Int},0<=z-> -1<=z:=λh=>bO (by decide) h;have tn:∀{n:Nat},n<=1001->n<=100000:=λh=>bL h (by decide);have t2:∀{n:Nat},n<=2->n<=20/\n+1<=20:=λh=>⟨bL h (by decide),bL (Nat.add_le_add_right h 1) (by decide)⟩;have t5:∀{n m:Nat},n<=2->m<=2->n+1+m<=20/\n+1+m+1<=20:=λh h'=>⟨bL (Nat.add_le_add (Nat.add_le_add_right h 1) h') (by decide),bL (Nat.add_le_add_right (Nat.add_le_add (Nat.add_le_add_right h 1) h') 1) (by decide)⟩
 have qA:=sm A hA0 (up hA31).2;have qB:=sm B hB0 (up hB31).2;have qS:=sm S (bN hS0) ss.2;have lA:=nl A hA0 (up hA31).2;have lB:=nl B hB0 (up hB31).2;have lS:=nl S (bN hS0) ss.2;have cA:=na A hA0 (up hA31).2;have cB:=na B hB0 (up hB31).2;have cS:=na S (bN hS0) ss.2;have GT:g9 [42]:=jw rfl;have c45:g9 [45]:=jw rfl;have c47:g9 [47]:=jw rfl;clear m0 m1 n0 n1 p1 p2 eA eB s0 s1 eS;refine⟨(),rfl,(),gp (λc=>?g0) (λ_=>⟨(),rfl,(),gp (λc=>?g1) (λ_=>⟨(),rfl,(),gp (λc=>?g2) (λ_=>⟨(),rfl,(),gp (λc=>?g3) (λ_=>⟨(),rfl,(),gp (λc=>?g4) (λ_=>?g5)⟩)⟩)⟩)⟩)⟩
 case g0=>
  have n2:=nS (a:=lo) (b:=hi) (s:=1) hb.1 (up hb.2.2).1 (by decide);refine⟨(),(),(()),_,(),λr hr=>⟨r,lo,hi+1,1,(Builtin.Range.rangeSize lo (hi+1) 1).toNat,rfl,fh,oO hb.1 (up hl31).1 (dn hh0) (up hb.2.2).1 (by decide) (by decide),n2.2,tn n2.1,λu hu=>⟨(zL 2),λt ht=>?_⟩⟩⟩;exact q t u [42] (iJ lo hi 1) _ ((fj hr _).trans ((fj hu _).trans (fj ht _))) fh ((fj ht _) _ _ (by rw[l6,bY];exact fh)) (i0 hb.1 hb.2.1 hb.2.2) GT
 case g1=>
  have n2:=nS (a:=lo) (b:=hi) (s:=S) hb.1 (up hb.2.2).1 hS0;refine⟨(),S.toNat,qS.2,qS.1,(()),z4' (by decide) (t2 lS).1,(),(),(()),(),_,_,(),⟨hS0,hSx⟩,λr hr=>⟨r,lo,hi+1,S,(Builtin.Range.rangeSize lo (hi+1) S).toNat,rfl,fh,oO hb.1 (up hl31).1 (dn hh0) (up hb.2.2).1 hS0 hSm,n2.2,tn n2.1,λu hu=>⟨(zL 2),λt ht=>?_⟩⟩⟩;exact q t u _ (iJ lo hi S) _ ((fj hr _).trans ((fj hu _).trans (fj ht _))) fh ((fj ht _) _ _ (by rw[l6,bY];exact fh)) (i3 hb.1 hb.2.1 hb.2.2 ss) (jP (jw rfl) cS)
 case g2=>
  refine⟨(),A.toNat,qA.2,qA.1,(),(zL 1),λu hu=>⟨(zL 2),λt ht=>?_⟩⟩;exact q t u _ [A] _ ((fj hu _).trans (fj ht _)) fh ((fj ht _) _ _ fh) (i1 hb.1 a1.1 a1.2 hb.2.2) cA
 case g3=>
  have n2:=nS (a:=A) (b:=B) (s:=1) hA0 (up hB31).1 (by decide);refine⟨(),A.toNat,qA.2,qA.1,(()),z4' (t2 lA).1 (by decide),(),B.toNat,qB.2,qB.1,(()),z4' (by rw[aY];exact (t2 lA).2) (t2 lB).1,(),(),(()),_,(),λr hr=>⟨r,A,B+1,1,(Builtin.Range.rangeSize A (B+1) 1).toNat,rfl,fh,oO hA0 (up hA31).1 (dn hB0) (up hB31).1 (by decide) (by decide),n2.2,tn n2.1,λu hu=>⟨(zL 2),λt ht=>?_⟩⟩⟩;exact q t u _ (iJ A B 1) _ ((fj hr _).trans ((fj hu _).trans (fj ht _))) fh ((fj ht _) _ _ (by rw[l6,bY];exact fh)) (by rw[d7];exact i2 hb.1 a1.1 b1.1 b1.2 hb.2.2) (jP (jP cA c45) cB)
 case g4=>
  have n2:=nS (a:=A) (b:=B) (s:=S) hA0 (up hB31).1 hS0;refine⟨(),A.toNat,qA.2,qA.1,(()),z4' (t2 lA).1 (by decide),(),B.toNat,qB.2,qB.1,(()),z4' (by rw[aY];exact (t2 lA).2) (t2 lB).1,(()),z4' (by rw[aY,aY];exact (t5 lA lB).1) (by decide),(),S.toNat,qS.2,qS.1,(()),z4' (by rw[aY,aY,aY];exact (t5 lA lB).2) (t2 lS).1,(),(),(()),(),_,_,(),⟨hS0,hSx⟩,λr hr=>⟨r,A,B+1,S,(Builtin.Range.rangeSize A (B+1) S).toNat,rfl,fh,oO hA0 (up hA31).1 (dn hB0) (up hB31).1 hS0 hSm,n2.2,tn n2.1,λu hu=>⟨(zL 2),λt ht=>?_⟩⟩⟩
  have e5:((num A.toNat++[45])++num B.toNat++[47])++num S.toNat=(num A.toNat++45::num B.toNat)++47::num S.toNat:=by simp
  exact q t u _ (iJ A B S) _ ((fj hr _).trans ((fj hu _).trans (fj ht _))) fh ((fj ht _) _ _ (by rw[l6,bY];exact fh)) (by rw[e5];exact i5 hb.1 a1.1 b1.1 b1.2 hb.2.2 ss) (jP (jP (jP (jP cA c45) cB) c47) cS)
 case g5=>
  have n2:=nS (a:=A) (b:=hi) (s:=S) hA0 (up hb.2.2).1 hS0;refine⟨(),A.toNat,qA.2,qA.1,(()),z4' (t2 lA).1 (by decide),(),S.toNat,qS.2,qS.1,(()),z4' (by rw[aY];exact (t2 lA).2) (t2 lS).1,(),(),(()),(),_,_,(),⟨hS0,hSx⟩,λr hr=>⟨r,A,hi+1,S,(Builtin.Range.rangeSize A (hi+1) S).toNat,rfl,fh,oO hA0 (up hA31).1 (dn hh0) (up hb.2.2).1 hS0 hSm,n2.2,tn n2.1,λu hu=>⟨(zL 2),λt ht=>?_⟩⟩⟩;exact q t u _ (iJ A hi S) _ ((fj hr _).trans ((fj hu _).trans (fj ht _))) fh ((fj ht _) _ _ (by rw[l6,bY];exact fh)) (by rw[d7];exact i4 hb.1 a1.1 a1.2 hb.2.2 ss) (jP (jP cA c47) cS)
theorem Ai:Dx P w base ZZ.cf 3 (Rt K):=by
 refine ZZ.cf.dfs Ug (by trivial) ?_;rintro _ _ _ _ s H _ Q E hr⟨c,lo,hi,bm,rfl,hb,q⟩;refine⟨_,(fe (fq 4 (fc fV (fc gm Y2 Y1) eI) Ug.nd) (fe (fq 5 (eD (pM ZZ) hr (A3 Y0 (fc p9 (gB (A1 eI)) (fc yG (gB (aC eI (A3 Y4 Y4 eI))) eI)) Y3)) Ug.nd) (fe (fq 6 (gB aN) Ug.nd) (fe (fq 7 (gB aN) Ug.nd) (fe (iw (lO ZZ.aa (A1 (fc fV eI (fv (gv (K:=K)) Y5 eI)))) (gN 8 Ug.nd) (fe (kL (eD (vt ZZ) hr (A3 (mq (oy (K:=K)) Y5 (kW (fc fV eI (fc ii eI Y8))) (kW (fc fV eI (fc ii eI Y8)))) Y1 Y2)) (kO (K:=K) (gx (gN 9 Ug.nd) (gx (gN 10 Ug.nd) jN)))) (fe (lI (lW Y6 Y9)) (fg (fq 7 (fc W7 Y7 (v_ 10)) Ug.nd)))) PassesOwn.never) (fg (fk (gu (A2 (rh (fW [44]) Y6) Y7))))))))),?_⟩
 extract_lets;have hwd:(0:Int)<hi-lo+1/\hi-lo+1<1073741824:=⋯;refine⟨(),(),(()),(()),?_⟩;obtain⟨W,eW⟩:∃W,W=hi-lo+1:=⟨()⟩;show i7 4 (V.int (hi-lo+1)) _ _ _;rw[←eW];have e13:∀z∈([3,6,W,W,99,6,W,W,99,6,W,W,99]:List Int),0<z/\z<1073741824:=λz hz=>by
  simp only[aX,cF,or_false] at hz;omega
 refine⟨(),(zL 1),λx1 n1=>⟨(),(),(zL 4),λx2 n2=>⟨x2,3,(),rfl,fh,(by decide),(by decide),(zL 12),λx3 n3=>⟨x1,x3,(()),(fj n3 _) _ _ ((fj n2 _) _ _ fh),fh,(zL 13),λls hls=>⟨(),c,ls,bm,[3,6,W,W,99,6,W,W,99,6,W,W,99],rfl,SqL.of fh,e13,(by show 13<=63;decide),λds p H3 s3 hp hd=>?_⟩⟩⟩⟩⟩;have s13:Same H H3:=(fj n1 _).trans ((fj n2 _).trans ((fj n3 _).trans ((fj hls _).trans s3)));obtain⟨d0,e0,k0,k1⟩:=mU (i:=0) hd rfl
 refine⟨(zL 0),λT hT=>⟨(zL 0),λN0 hN0=>?_⟩⟩;have s1:=(fj hT (.lst [])).trans (fj hN0 (.lst []));have hTN:T≠N0:=λe=>by rw[←e,fh] at hN0;cases hN0
 refine⟨(),p,_,(()),SqL.of (s1 _ _ hp),lY e0,(()),(),?lo,?hi,kE (λi σ H2=>∃(v8 v9 v10:Option V) (N:Addr) (ws:List (List Nat)) (nss:List (List Int)),σ=[some (.int c),some (.int lo),some (.int hi),some (.bl bm),some (.int W),some (.ref p),some (.ref T),some (.ref N),v8,v9,v10]/\T≠N/\Same H3 H2/\H2 T=some (.lst (ws.map λx=>V.str (Tx x)))/\H2 N=some (.lst (nss.flatten.map V.int))/\Paired (kP lo hi) ws nss/\ws.length=i) ⟨_,_,_,N0,[],[],rfl,hTN,s1,by rw[fH hTN];exact fh,fh,.nil,rfl⟩ ?turn ?done⟩
 case lo=>omega
 case hi=>omega
 case turn=>
  rintro i σ H2 hi' ⟨v8,v9,v10,N,ws,nss,rfl,tn,s2p,h2,h3,hP,lw⟩;have hi3:i<3:=⋯;obtain⟨w1,w2,w3,w4,ec,_⟩:∃w1 w2 w3 w4:Int,kr (ds.map V.int) (some (1+4*(0+(i:Int)))) (some (5+4*(0+(i:Int))))=[.int w1,.int w2,.int w3,.int w4]/\True:=by
   obtain⟨w1,w2,w3,w4,ec,_⟩:=Ly (j:=1+4*i) (s0:=6) (s1:=W) (s2:=W) (s3:=99) hd (by match i,hi3 with | 0,_=>rfl | 1,_=>rfl | 2,_=>rfl) (show 1+4*(0+(i:Int))=((1+4*i:Nat):Int) by omega) (show 5+4*(0+(i:Int))=((1+4*i:Nat):Int)+4 by omega)
   exact⟨w1,w2,w3,w4,ec,trivial⟩
  refine⟨(),(),(()),.inl zD9,(()),(),(),(()),.inl zD9,(()),(),p,(),SqL.of (s2p _ _ hp),λpc hpc=>?_⟩;rw[ec];have s5:=fj hpc (.lst [V.int w1,V.int w2,V.int w3,V.int w4]);refine⟨(),(),pc,w1,w2,w3,w4,lo,hi,rfl,SqL.of fh,⟨hb.1,⋯,⋯⟩,λt u tw ns H6 s6 ht hu it _=>?_⟩;have s26:Same H2 H6:=s5.trans s6;refine⟨t,(),SqT.of ht,rfl,_,(),(()),?_⟩;have hT6:H6 T=some (.lst (ws.map λx=>V.str (Tx x))):=s26 _ _ h2
  have hN6:H6 N=some (.lst (nss.flatten.map V.int)):=s26 _ _ h3;have ia:=pC hP;refine⟨(),.inl ⟨rfl,_,SqL.of hT6⟩,(),T,(()),hT6,(by rw[aR,eT];omega),?_⟩;have hne2:u≠T:=λe=>by
   rw[e,hT6] at hu;have hz:=it.2.2.2.1;cases ws with
   |nil=>cases ns with
    |nil=>exact hz rfl
    |cons x y=>cases hu
   |cons x y=>cases ns with
    |nil=>exact hz rfl
    |cons x' y'=>cases hu
  refine⟨(),(),N,u,(()),SqL.of (by rw[fH (Ne.symm tn)];exact hN6),SqL.of (by rw[fH hne2];exact hu),(by rw[aR,aR,eT];have:=it.2.2.2.2;omega),λN' hN'=>?_⟩;have hN'T:T≠N':=λe=>by rw[←e,fh] at hN';cases hN'
  refine⟨_,_,_,N',ws++[tw],nss++[ns],rfl,hN'T,?_,?_,?_,oR hP it,by rw[aY,bX,lw]⟩
  ·exact (mC hT (s2p.trans s26)).trans (fj hN' _)
  ·rw[fH hN'T,bB];exact fh
  ·rw[List.flatten_append,List.flatten_singleton,bB];exact fh
 case done=>
  rintro σ H2 ⟨v8,v9,v10,N,ws,nss,rfl,tn,s2p,h2,h3,hP,lw⟩;have ia:=pC hP;have hlen:=pz ws λx hx=>(ia.1 x hx).2.2;have hne:ws≠[]:=λe=>by rw[e] at lw;simp at lw;omega
  refine⟨rfl,(),44,T,ws,rfl,rfl,SqL.of h2,⋯,(),(zL 2),λt ht=>?_⟩;exact q t N _ nss.flatten _ (s13.trans (s2p.trans (fj ht _))) fh ((fj ht _) _ _ h3) ia.2.1 (L7 hP hne) (by have:=ia.2.2;omega) (BN hP hne ⋯)
theorem sr:Dx P w base ZZ.c5 1 (Jz K):=by
 refine ZZ.c5.dfs Sd (by trivial) ?_;rintro _ _ _ _ s H _ Q E hr⟨y,rfl,q⟩;refine⟨_,(fg (fk (fc fV (fc gm (fc fV (fc ii eI Y0) (fc ie (fc fV Y0 eI) eI)) (fc ie (fc fV Y0 eI) eI)) (fc ie (fc fV Y0 eI) eI)))),?_⟩;have e:db y=365*y+(y+3) / 4-(y+99) / 100+(y+399) / 400:=by rw[mE];omega
 rw[e] at q;exact⟨(),(()),.inl zD9,(),(()),(()),zD9,(()),(),(()),(()),zD9,(()),(),(()),(()),zD9,(()),q⟩
theorem Nh:Dx P w base ZZ.cs 3 (OI K):=by
 refine ZZ.cs.dfs Uc (by trivial) ?_;rintro _ _ _ _ s H _ Q E hr⟨c,bm,rfl,q⟩;refine⟨_,(fe (fq 2 (eD (pM ZZ) hr (A3 Y0 (gB (qx [2401,4,366,3,3,1440,8])) eB)) Uc.nd) (fe (fJ (tW (iF (tW (kA (iR (gL Y1)) (kH (fG pB (gM EB ZZ.d1 PyProof.Rows.boot_abs (A1 Y0)) (fc oP eI eI))))) (jp (fG gb (fv (gv (K:=K)) Y2 eI) eI)))) (fg (fk (fc gm (fc gs Y0 (fc fV (fc ii eI (fc oP eI eI)) eI)) (fc oP eI eI)))) fN) (fe (fq 3 (fc gm (fv (gv (K:=K)) Y2 eI) eI) Uc.nd) (fe (fq 4 (fc gm (fc fV (eD (sr ZZ) hr (A1 Y3)) (fv (gv (K:=K)) (gB (aC eI (A3 eI eI (fv (gv (K:=K)) Y2 eI)))) (fv (gv (K:=K)) Y2 eI))) (fv (gv (K:=K)) Y2 eI)) Uc.nd) (fg (fk (fc fV (fc ii eI Y4) (fv (gv (K:=K)) (gB (A3 eI eI (fv (gv (K:=K)) Y2 eI))) (fv (gv (K:=K)) Y2 eI))))))))),?_⟩
 extract_lets;have e7:∀z∈([2401,4,366,3,3,1440,8]:List Int),0<z/\z<1073741824:=by decide
 refine⟨(),(zL 7),λls hls=>⟨c,ls,true,[2401,4,366,3,3,1440,8],rfl,SqL.of fh,e7,(by decide),λds p H1 s0 hp hd=>?_⟩⟩;have s1:=(fj hls (.lst [V.int 2401,V.int 4,V.int 366,V.int 3,V.int 3,V.int 1440,V.int 8])).trans s0;obtain⟨d0,d1,d2,d3,d4,d5,d6,rfl,k1,k4⟩:∃d0 d1 d2 d3 d4 d5 d6:Int,ds=[d0,d1,d2,d3,d4,d5,d6]/\(0<=d1/\d1<4)/\0<=d4/\d4<3:=by cases hd with | cons g0 r=>cases r with | cons g1 r=>cases r with | cons g2 r=>cases r with | cons g3 r=>cases r with | cons g4 r=>cases r with | cons g5 r=>cases r with | cons g6 r=>cases r;exact⟨_,_,_,_,_,_,(),g1,g4⟩
 obtain⟨ee,hee⟩:=FC (zs:=[0,59,365,d2]) (i:=d1) k1.1 k1.2;obtain⟨tt,htt⟩:=FC (zs:=[0,1439,d5]) (i:=d4) k4.1 k4.2;refine⟨(),(),?_⟩;cases bm with
 |true=>
  refine gf (gf ⟨(),p,_,(()),SqL.of (hp),rfl,rfl,(),gp (λ_=>?a) (λ_=>?b)⟩)
  case a=>exact⟨(),(()),⟨by decide,by decide,by decide⟩,(()),.inl zD9,(()),(()),(by rw[vH];show (0:Int)<_;decide),(()),⟨by decide,by decide,by decide⟩,(()),q _ _ s1⟩
  case b=>exact⟨(),p,_,(()),SqL.of (hp),rfl,(()),(),(),⟨(),p,_,(()),SqL.of (hp),rfl,(zL 4),λl1 h1=>⟨(),p,_,(()),SqL.of ((fj h1 _) _ _ hp),rfl,l1,_,(()),SqL.of fh,hee,(()),(),p,_,(()),SqL.of ((fj h1 _) _ _ hp),rfl,(()),(),(()),.inl zD9,(),p,_,(()),SqL.of ((fj h1 _) _ _ hp),rfl,(zL 3),λl2 h2=>⟨(),p,_,(()),SqL.of ((fj h2 _) _ _ ((fj h1 _) _ _ hp)),rfl,l2,_,(()),SqL.of fh,htt,(()),q _ _ (s1.trans ((fj h1 _).trans (fj h2 _)))⟩⟩⟩⟩
 |false=>
  refine gk ⟨(),(),(()),⟨by decide,by decide,by decide⟩,(()),(),gn (λ_=>gk ?a0) (λ_=>⟨(),p,_,(()),SqL.of (hp),rfl,rfl,(),gp (λ_=>?a) (λ_=>?b)⟩)⟩
  case a0=>exact⟨(),(()),⟨by decide,by decide,by decide⟩,(()),.inl zD9,(()),(()),(by rw[vH];show (0:Int)<_;decide),(()),⟨by decide,by decide,by decide⟩,(()),q _ _ s1⟩
  case a=>exact⟨(),(()),⟨by decide,by decide,by decide⟩,(()),.inl zD9,(()),(()),(by rw[vH];show (0:Int)<_;decide),(()),⟨by decide,by decide,by decide⟩,(()),q _ _ s1⟩
  case b=>exact⟨(),p,_,(()),SqL.of (hp),rfl,(()),(),(),⟨(),p,_,(()),SqL.of (hp),rfl,(zL 4),λl1 h1=>⟨(),p,_,(()),SqL.of ((fj h1 _) _ _ hp),rfl,l1,_,(()),SqL.of fh,hee,(()),(),p,_,(()),SqL.of ((fj h1 _) _ _ hp),rfl,(()),(),(()),.inl zD9,(),p,_,(()),SqL.of ((fj h1 _) _ _ hp),rfl,(zL 3),λl2 h2=>⟨(),p,_,(()),SqL.of ((fj h2 _) _ _ ((fj h1 _) _ _ hp)),rfl,l2,_,(()),SqL.of fh,htt,(()),q _ _ (s1.trans ((fj h1 _).trans (fj h2 _)))⟩⟩⟩⟩
theorem aqR:Dx P w base ZZ.dl 3 (KU K):=by
 refine ZZ.dl.dfs U8 (by trivial) ?_;rintro _ _ _ _ s H _ Q E hr⟨c,bm,rfl,q⟩;refine⟨_,(fe (fq 2 (eD (pM ZZ) hr (A3 Y0 (fc p9 (gB (A2 eI eI)) (fc yG (gB (qx [8,6,31,31,99])) eI)) Y1)) U8.nd) (fe (fq 3 (gB aN) U8.nd) (fe (fq 4 (gB aN) U8.nd) (fe (iw (lO ZZ.aa (A1 (fc fV eI (fv (gv (K:=K)) Y2 eI)))) (gN 5 U8.nd) (fe (kL (mq (oy (K:=K)) Y2 (kW (fc fV eI (fc ii eI Y5))) (kW (fc fV eI (fc ii eI Y5)))) (AV (gx (gN 6 U8.nd) (gx (gN 7 U8.nd) (gx (gN 8 U8.nd) (gx (gN 9 U8.nd) (gx (gN 10 U8.nd) jN))))))) (fe (kL (eD (vt ZZ) hr (A3 (gB (aC Y7 (A3 Y8 Y9 (v_ 10)))) eI eI)) (kO (K:=K) (gx (gN 11 U8.nd) (gx (gN 12 U8.nd) jN)))) (ke (fq 13 (gu (A3 (fW [110,117,109]) (v_ 12) eI)) U8.nd) (ke (fJ (fG gb Y6 eI) (fg (kL (gu (A2 (fW [76]) (gu (A3 (fW [108,97,115,116]) eI eI)))) (kO (K:=K) (gx (gN 11 U8.nd) (gx (gN 13 U8.nd) jN))))) fN) (ke (fJ (fG gb Y6 eI) (fg (sq 11 13 (A2 (fc jI (fW [76,45]) (gT jD ZZ.ae PyProof.Rows.boot_str (A1 (fc fV eI (fc gs Y8 eI))))) (gu (A3 (fW [108,97,115,116]) (fc fV eI (fc gs Y8 eI)) eI))) U8.nd)) fN) (ke (fJ (fG gb Y6 eI) (fg (sq 11 13 (A2 (fc jI (gT jD ZZ.ae PyProof.Rows.boot_str (A1 (fc fV eI Y8))) (fW [87])) (gu (A3 (fW [110,101,97,114]) (fc fV eI Y8) eI))) U8.nd)) fN) (ke (fJ (fG gb Y6 eI) (fg (kL (gu (A2 (fW [76,87]) (gu (A3 (fW [119,111,114,107]) eI eI)))) (kO (K:=K) (gx (gN 11 U8.nd) (gx (gN 13 U8.nd) jN))))) fN) (fe (lI (lW Y3 (v_ 11))) (fg (lI (lW Y4 (v_ 13)))))))))))) PassesOwn.never) (fe (fJ (tW (iF (fG gb (fv (gv (K:=K)) Y2 eI) eI) (jp (fG (B3 hr.units) Y3 (gB (A1 (fW [42]))))))) (fg (fk (gu (A2 (fW [42]) eN)))) fN) (fg (fk (gu (A2 (rh (fW [44]) Y3) Y4))))))))),?_⟩
 extract_lets;have e17:∀z∈([3,3,8,6,31,31,99,8,6,31,31,99,8,6,31,31,99]:List Int),0<z/\z<1073741824:=by decide +kernel
 refine⟨(),(zL 2),λx1 n1=>⟨(zL 5),λx2 n2=>⟨x2,3,(),rfl,fh,(by decide),(by decide),(zL 15),λx3 n3=>⟨x1,x3,(()),(fj n3 _) _ _ ((fj n2 _) _ _ fh),fh,(zL 17),λls hls=>⟨(),c,ls,bm,[3,3,8,6,31,31,99,8,6,31,31,99,8,6,31,31,99],rfl,SqL.of fh,e17,(by show 17<=63;decide),λds p H3 s3 hp hd=>?_⟩⟩⟩⟩⟩;have s13:Same H H3:=(fj n1 _).trans ((fj n2 _).trans ((fj n3 _).trans ((fj hls _).trans s3)));obtain⟨d0,e0,_,_⟩:=mU (i:=0) hd rfl
 obtain⟨d1,e1,k0,k1⟩:=mU (i:=1) hd rfl;refine⟨(zL 0),λT hT=>⟨(zL 0),λS hSn=>?_⟩⟩;have s1:=(fj hT (.lst [])).trans (fj hSn (.lst []));have hTS:T≠S:=λe=>by rw[←e,fh] at hSn;cases hSn
 have hSn':H3 S=none:=by rw[fH (Ne.symm hTS)] at hSn;exact hSn
 refine⟨(),p,_,(()),SqL.of (s1 _ _ hp),lY e1,(()),(),?lo,?hi,kE (DP false c bm p T S H3) ⟨_,_,_,_,_,_,_,_,_,[],[],[],rfl,s1,by rw[fH hTS];exact fh,fh,.nil,(λk hk=>nomatch hk),(λw hw=>nomatch hw),rfl,rfl,.nil⟩ ?turn ?done⟩
 case lo=>omega
 case hi=>omega
 case turn=>
  rintro i σ H2 hi' ⟨v5,v6,v7,v8,v9,v10,v11,v12,v13,ws,us,ks,rfl,s2p,h2,h3,hW,hO,hA,lw,lu,hPM⟩;have hi3:i<3:=⋯;obtain⟨w1,w2,w3,w4,w5,ec,k3⟩:=CT (j:=2+5*i) (s0:=8) (s1:=6) (s2:=31) (s3:=31) (s4:=99) hd (by match i,hi3 with | 0,_=>rfl | 1,_=>rfl | 2,_=>rfl) (show 2+5*(0+(i:Int))=((2+5*i:Nat):Int) by omega) (show 7+5*(0+(i:Int))=((2+5*i:Nat):Int)+5 by omega)
  refine⟨(),(),(()),.inl zD9,(()),(),(),(()),.inl zD9,(()),(),p,(),SqL.of (s2p _ _ hp),λpc hpc=>?_⟩;rw[ec];refine⟨pc,(),SqL.of fh,rfl,_,(),_,(),_,(),_,(),(()),?_⟩;have s5:=fj hpc (.lst [V.int w1,V.int w2,V.int w3,V.int w4,V.int w5]);refine⟨(),(),(),(),(zL 4),λqa hqa=>⟨qa,w2,w3,w4,w5,1,31,rfl,SqL.of fh,⟨by decide,by decide,by decide⟩,λt u0 tw ns H6 s6 ht hu it mZ=>?_⟩⟩
  have s26:Same H2 H6:=s5.trans ((fj hqa _).trans s6);refine⟨t,(),SqT.of ht,rfl,_,(),(()),?_⟩;have hin:=it.2.2.1;have hlen':=it.2.2.2.2;have hpos:=xM it.2.2.2.1 (λn hn=>by have:=hin n hn;omega);refine⟨(mT false c bm p T S i w1 w2 w3 w4 w5 u0 H2),⟨(),(zL 3),λmk hmk=>⟨tw,.num (fu ns),mk,rfl,s26.trans (fj hmk _),⟨it.2.1,rfl,it.1,hpos⟩,⟨rfl,rfl,bN hpos⟩,mZ,⟨mk,_,_,(),lH (jh (s26 _ _ h2) hmk) (jh (s26 _ _ h3) hmk) fh,rfl,u0,ns,rfl,lH (EH hu it.2.2.2.1 (s26 _ _ h2) (YO ws)) (EH hu it.2.2.2.1 (s26 _ _ h3) (K3 us)) (fj hmk _ _ _ hu),rfl,hin⟩⟩⟩,?_⟩
  rintro σ' H7 ⟨tw',k',mk,rfl,s7,hcs,hok,ha,hmk⟩;refine⟨(mT false c bm p T S i w1 w2 w3 w4 w5 u0 H2),?_,?_⟩
  ·refine⟨(),rfl,(),gp (λc=>?_) (λ_=>⟨tw',k',mk,rfl,s7,hcs,hok,ha,hmk⟩)⟩;refine⟨(zL 3),λu hu=>⟨(zL 2),λt2 ht2=>⟨t2,(),SqT.of fh,rfl,_,(),(()),?_⟩⟩⟩;exact⟨[76],.lst 0,u,rfl,s7.trans ((fj hu _).trans (fj ht2 _)),⟨GR.2,GR.1⟩,⟨rfl,rfl,by decide,by decide⟩,jw rfl,⟨u,_,_,(),lH (jh (s7 _ _ h2) hu) (jh (s7 _ _ h3) hu) (fj ht2 _ _ _ fh),rfl,rfl⟩⟩
  rintro σ' H7 ⟨tw',k',mk,rfl,s7,hcs,hok,ha,hmk⟩;refine⟨(mT false c bm p T S i w1 w2 w3 w4 w5 u0 H2),?_,?_⟩
  ·obtain⟨n1,n2,n3,n4,n5,n6⟩:=aGC w3;refine⟨(),rfl,(),gp (λc=>?_) (λ_=>⟨tw',k',mk,rfl,s7,hcs,hok,ha,hmk⟩)⟩;refine⟨(),(()),zP9,(()),(1+w3%30).toNat,n2,n1,(()),n3,(),(()),zP9,(()),(zL 3),λu hu=>?_⟩;exact⟨_,(),⟨_,.lst (1+w3%30),u,rfl,s7.trans (fj hu _),n4,n5,n6,⟨u,_,_,(),lH (jh (s7 _ _ h2) hu) (jh (s7 _ _ h3) hu) fh,rfl,rfl⟩⟩⟩
  rintro σ' H7 ⟨tw',k',mk,rfl,s7,hcs,hok,ha,hmk⟩;refine⟨(mT false c bm p T S i w1 w2 w3 w4 w5 u0 H2),?_,?_⟩
  ·obtain⟨n1,n2,n3,n4,n5,n6⟩:=LI k3.1 k3.2;refine⟨(),rfl,(),gp (λc=>?_) (λ_=>⟨tw',k',mk,rfl,s7,hcs,hok,ha,hmk⟩)⟩;refine⟨(),(()),(1+w3).toNat,n2,n1,(()),n3,(),(()),(zL 3),λu hu=>?_⟩;exact⟨_,(),⟨_,.nea (1+w3),u,rfl,s7.trans (fj hu _),n4,n5,n6,⟨u,_,_,(),lH (jh (s7 _ _ h2) hu) (jh (s7 _ _ h3) hu) fh,rfl,rfl⟩⟩⟩
  rintro σ' H7 ⟨tw',k',mk,rfl,s7,hcs,hok,ha,hmk⟩;refine⟨(mT false c bm p T S i w1 w2 w3 w4 w5 u0 H2),?_,?_⟩
  ·refine⟨(),rfl,(),gp (λc=>?_) (λ_=>⟨tw',k',mk,rfl,s7,hcs,hok,ha,hmk⟩)⟩;refine⟨(zL 3),λu hu=>⟨(zL 2),λt2 ht2=>⟨t2,(),SqT.of fh,rfl,_,(),(()),?_⟩⟩⟩;exact⟨[76,87],.wrk,u,rfl,s7.trans ((fj hu _).trans (fj ht2 _)),⟨DK.2,DK.1⟩,⟨rfl,rfl,trivial⟩,jw rfl,⟨u,_,_,(),lH (jh (s7 _ _ h2) hu) (jh (s7 _ _ h3) hu) (fj ht2 _ _ _ fh),rfl⟩⟩
  rintro σ' H7 ⟨tw',k',mk,rfl,s7,hcs,hok,ha,hmk⟩;have hT6:H7 T=some (.lst (ws.map λx=>V.str (Tx x))):=s7 _ _ h2;have hS6:H7 S=some (.lst (us.map V.ref)):=s7 _ _ h3;refine⟨(),.inl ⟨rfl,_,SqL.of hT6⟩,(),T,(()),hT6,(by rw[aR,eT];omega),?_⟩;have hS7:(upd H7 T (.lst ((ws.map λx=>V.str (Tx x))++[.str (Tx tw')]))) S=some (.lst (us.map V.ref)):=by rw[fH (Ne.symm hTS)];exact hS6
  refine⟨(),.inl ⟨rfl,_,SqL.of hS7⟩,(),S,(()),hS7,(by rw[aR,eT];omega),?_⟩;refine⟨_,_,_,_,_,_,_,_,_,ws++[tw'],us++[mk],ks++[k'],rfl,mC hSn' (mC hT (s2p.trans s7)),?_,(by rw[bB];exact fh),uZ hW hcs,(λk hk=>(bP.mp hk).elim (hO k) λz=>by rw[bJ.mp z];exact hok),(λw hw=>(bP.mp hw).elim (hA w) λz=>by rw[bJ.mp z];exact ha),(by rw[aY,bX,lw]),(by rw[aY,bX,lu]),?_⟩
  ·rw[fH hTS,bB];exact fh
  ·rw[CH,D9,bB];exact oR (Paired.mapP hPM λ_ _ z=>z.keep (BY s7)) hmk
 case done=>
  rintro σ H2 ⟨v5,v6,v7,v8,v9,v10,v11,v12,v13,ws,us,ks,rfl,s2p,h2,h3,hW,hO,hA,lw,lu,hPM⟩;have hlen:=pz ws λx hx=>(hW.cl x hx).2.2;have hne:ws≠[]:=λe=>by rw[e] at lw;simp at lw;omega
  have star:∀{H4:Hp},Same H2 H4->∀t,H4 t=none->Q (.ref t) (upd H4 t (.tup [.str (Tx [42]),.non])):=λs4 t ht=>q t [42] .non none _ (s13.trans (s2p.trans (s4.trans (fj ht _)))) fh (rq false) (.inl ⟨rfl,rfl⟩);refine⟨(),p,_,(()),SqL.of (s2p _ _ hp),lY e0,rfl,(),gp (λ_=>gk ⟨(zL 2),star (Same.refl _)⟩) (λ_=>⟨(),(zL 1),λl1 hl1=>?_⟩)⟩;have sl:=fj hl1 (.lst [V.str (Tx [42])]);refine⟨T,l1,ws,[[42]],rfl,rfl,SqL.of (sl _ _ h2),SqL.of fh,hA,(λw hw=>by rw[bJ.mp hw];exact jw rfl),(),gn (λ_=>⟨(zL 2),star sl⟩) (λnst=>?_)⟩
  refine⟨rfl,(),44,T,ws,rfl,rfl,SqL.of (sl _ _ h2),⋯,(),(zL 2),λt ht=>?_⟩;have sF:=sl.trans (fj ht (.tup [.str (Tx (gK 44 ws)),.ref S]));exact q t _ (.ref S) (some ks) _ (s13.trans (s2p.trans sF)) fh (rK hW hne ⋯ hO (λz=>nst (EL hW z))) (.inr ⟨S,_,ks,rfl,rfl,sF _ _ h3,Paired.mapP hPM (λ_ _ z=>(z.keep B0).keep sF),λk hk=>(hO k hk).2.2⟩)
theorem M3:Dx P w base ZZ.b1 3 (QK K):=by
 refine ZZ.b1.dfs Uo (by trivial) ?_;rintro _ _ _ _ s H _ Q E hr⟨c,bm,rfl,q⟩;refine⟨_,(fe (fq 2 (eD (pM ZZ) hr (A3 Y0 (fc p9 (gB (A2 eI eI)) (fc yG (gB (qx [6,6,8,8,99])) eI)) Y1)) Uo.nd) (fe (fq 3 (gB aN) Uo.nd) (fe (fq 4 (gB aN) Uo.nd) (fe (iw (lO ZZ.aa (A1 (fc fV eI (fv (gv (K:=K)) Y2 eI)))) (gN 5 Uo.nd) (fe (kL (mq (oy (K:=K)) Y2 (kW (fc fV eI (fc ii eI Y5))) (kW (fc fV eI (fc ii eI Y5)))) (AV (gx (gN 6 Uo.nd) (gx (gN 7 Uo.nd) (gx (gN 8 Uo.nd) (gx (gN 9 Uo.nd) (gx (gN 10 Uo.nd) jN))))))) (fe (kL (eD (vt ZZ) hr (A3 (gB (aC Y7 (A3 Y8 Y9 (v_ 10)))) eI eI)) (kO (K:=K) (gx (gN 11 Uo.nd) (gx (gN 12 Uo.nd) jN)))) (ke (fq 13 (gu (A3 (fW [119,101,101,107]) (oG [] [] (lE (K:=K) (v_ 12)) (λ_ _ _ _ _ _=>nL) (λ_ _ _ _ _ _=>(fc gs Y0 eI))) eI)) Uo.nd) (ke (fJ (tW (iF (fG gb Y6 eI) (jp (fG gb Y6 eI)))) (fg (sq 11 13 (A2 (fc jI (fc jI (gT jD ZZ.ae PyProof.Rows.boot_str (A1 Y8)) (fW [35])) (gT jD ZZ.ae PyProof.Rows.boot_str (A1 (fc fV eI (fc gs Y9 eI))))) (gu (A3 (fW [110,116,104]) (fc gs Y8 eI) (fc fV eI (fc gs Y9 eI))))) Uo.nd)) fN) (ke (fJ (fG gb Y6 eI) (fg (sq 11 13 (A2 (fc jI (gT jD ZZ.ae PyProof.Rows.boot_str (A1 Y8)) (fW [76])) (gu (A3 (fW [101,110,100,105,110,103]) (fc gs Y8 eI) eI))) Uo.nd)) fN) (fe (lI (lW Y3 (v_ 11))) (fg (lI (lW Y4 (v_ 13)))))))))) PassesOwn.never) (fe (fJ (tW (iF (fG gb (fv (gv (K:=K)) Y2 eI) eI) (jp (fG (B3 hr.units) Y3 (gB (A1 (fW [42]))))))) (fg (fk (gu (A2 (fW [42]) eN)))) fN) (fg (fk (gu (A2 (rh (fW [44]) Y3) Y4))))))))),?_⟩
 extract_lets;have e17:∀z∈([3,3,6,6,8,8,99,6,6,8,8,99,6,6,8,8,99]:List Int),0<z/\z<1073741824:=by decide +kernel
 refine⟨(),(zL 2),λx1 n1=>⟨(zL 5),λx2 n2=>⟨x2,3,(),rfl,fh,(by decide),(by decide),(zL 15),λx3 n3=>⟨x1,x3,(()),(fj n3 _) _ _ ((fj n2 _) _ _ fh),fh,(zL 17),λls hls=>⟨(),c,ls,bm,[3,3,6,6,8,8,99,6,6,8,8,99,6,6,8,8,99],rfl,SqL.of fh,e17,(by show 17<=63;decide),λds p H3 s3 hp hd=>?_⟩⟩⟩⟩⟩;have s13:Same H H3:=(fj n1 _).trans ((fj n2 _).trans ((fj n3 _).trans ((fj hls _).trans s3)));obtain⟨d0,e0,_,_⟩:=mU (i:=0) hd rfl
 obtain⟨d1,e1,k0,k1⟩:=mU (i:=1) hd rfl;refine⟨(zL 0),λT hT=>⟨(zL 0),λS hSn=>?_⟩⟩;have s1:=(fj hT (.lst [])).trans (fj hSn (.lst []));have hTS:T≠S:=λe=>by rw[←e,fh] at hSn;cases hSn
 have hSn':H3 S=none:=by rw[fH (Ne.symm hTS)] at hSn;exact hSn
 refine⟨(),p,_,(()),SqL.of (s1 _ _ hp),lY e1,(()),(),?lo,?hi,kE (DP true c bm p T S H3) ⟨_,_,_,_,_,_,_,_,_,[],[],[],rfl,s1,by rw[fH hTS];exact fh,fh,.nil,(λk hk=>nomatch hk),(λw hw=>nomatch hw),rfl,rfl,.nil⟩ ?turn ?done⟩
 case lo=>omega
 case hi=>omega
 case turn=>
  rintro i σ H2 hi' ⟨v5,v6,v7,v8,v9,v10,v11,v12,v13,ws,us,ks,rfl,s2p,h2,h3,hW,hO,hA,lw,lu,hPM⟩;have hi3:i<3:=⋯;obtain⟨w1,w2,w3,w4,w5,ec,k3⟩:=CT (j:=2+5*i) (s0:=6) (s1:=6) (s2:=8) (s3:=8) (s4:=99) hd (by match i,hi3 with | 0,_=>rfl | 1,_=>rfl | 2,_=>rfl) (show 2+5*(0+(i:Int))=((2+5*i:Nat):Int) by omega) (show 7+5*(0+(i:Int))=((2+5*i:Nat):Int)+5 by omega)
  refine⟨(),(),(()),.inl zD9,(()),(),(),(()),.inl zD9,(()),(),p,(),SqL.of (s2p _ _ hp),λpc hpc=>?_⟩;rw[ec];refine⟨pc,(),SqL.of fh,rfl,_,(),_,(),_,(),_,(),(()),?_⟩;have s5:=fj hpc (.lst [V.int w1,V.int w2,V.int w3,V.int w4,V.int w5]);refine⟨(),(),(),(),(zL 4),λqa hqa=>⟨qa,w2,w3,w4,w5,0,7,rfl,SqL.of fh,⟨by decide,by decide,by decide⟩,λt u0 tw ns H6 s6 ht hu it mZ=>?_⟩⟩
  have s26:Same H2 H6:=s5.trans ((fj hqa _).trans s6);refine⟨t,(),SqT.of ht,rfl,_,(),(()),?_⟩;have hin:=it.2.2.1;have hlen':=it.2.2.2.2;have hpos:=xM it.2.2.2.1 (λn hn=>by have:=hin n hn;omega);refine⟨(mT true c bm p T S i w1 w2 w3 w4 w5 u0 H2),?_,?_⟩
  ·refine⟨(),u0,rfl,⟨_,SqL.of hu⟩,DF (xs:=ns.map V.int) (λi z=>z=((ns.take i).map λd=>V.int (d%7))) (by rw[aR,eT];omega) rfl (SqL.of hu) ?_ ?_⟩
   ·intro i v z D H4 E' F' hv hR hD s4 hz hE hF;subst hR;rw[bC] at hv;cases ez:ns[i]? with
    |none=>rw[ez] at hv;cases hv
    |some d=>
     rw[ez] at hv;obtain rfl:V.int d=v:=aZ hv;exact⟨(),(()),zP9,hE _ _ (Same.refl _) (by rw[b8,ez,bB];rfl)⟩
   ·intro D H4 z hR hD s4 hz;subst hR;rw[aR,cQ] at hz;have hz':H4 D=some (.lst ((ns.map λd=>d%7).map V.int)):=by rw[hz,bY];rfl
    have hlt:=vJ (n:=8) (λz hz=>by have:=hin z hz;omega);have e256:(2:Int)^8=256:=by decide
    have w7:=Ea hpos (show fu ns<=255 by omega);have em:=T7 hin;refine⟨(zL 3),λmk hmk=>⟨tw,.wkd (ik (fu ns)),mk,rfl,s26.trans (s4.trans (fj hmk _)),⟨it.2.1,rfl,fu ns,it.1,⟨hpos,⋯⟩,rfl⟩,⟨rfl,rfl,w7.2.1,w7.2.2⟩,mZ,⟨mk,_,_,(),lH (jh ((s26.trans s4) _ _ h2) hmk) (jh ((s26.trans s4) _ _ h3) hmk) fh,rfl,D,(),lH (jh (s26 _ _ h2) hD) (jh (s26 _ _ h3) hD) (fj hmk _ _ _ hz'),em,λn hn=>?_⟩⟩⟩;obtain⟨d,_,rfl⟩:=bD.mp hn
    omega
  rintro σ' H7 ⟨tw',k',mk,rfl,s7,hcs,hok,ha,hmk⟩;refine⟨(mT true c bm p T S i w1 w2 w3 w4 w5 u0 H2),?_,?_⟩
  ·obtain⟨⟨p1,p2,p3⟩,⟨n1,n2,n3⟩,n4,n5,n6⟩:=Os (v:=w4) k3.1 k3.2;refine⟨(),rfl,(),gp (λc=>gk ?_) (λ_=>⟨(),rfl,(),gp (λc=>?_) (λ_=>⟨tw',k',mk,rfl,s7,hcs,hok,ha,hmk⟩)⟩)⟩
   all_goals
    refine⟨(),w3.toNat,p2,p1,(()),p3,(),(()),zP9,(()),(1+w4%5).toNat,n2,n1,(()),n3,(),(()),zP9,(),(()),zP9,(()),(zL 3),λu hu=>?_⟩;exact⟨_,(),⟨_,.nth (w3%7) (1+w4%5),u,rfl,s7.trans (fj hu _),n4,n5,n6,⟨u,_,_,(),lH (jh (s7 _ _ h2) hu) (jh (s7 _ _ h3) hu) fh,rfl,rfl,rfl⟩⟩⟩
  rintro σ' H7 ⟨tw',k',mk,rfl,s7,hcs,hok,ha,hmk⟩;refine⟨(mT true c bm p T S i w1 w2 w3 w4 w5 u0 H2),?_,?_⟩
  ·obtain⟨n1,n2,n3,n4,n5,n6⟩:=Oh k3.1 k3.2;refine⟨(),rfl,(),gp (λc=>?_) (λ_=>⟨tw',k',mk,rfl,s7,hcs,hok,ha,hmk⟩)⟩;refine⟨(),w3.toNat,n2,n1,(()),n3,(),(()),zP9,(zL 3),λu hu=>?_⟩;exact⟨_,(),⟨_,.one (w3%7),u,rfl,s7.trans (fj hu _),n4,n5,n6,⟨u,_,_,(),lH (jh (s7 _ _ h2) hu) (jh (s7 _ _ h3) hu) fh,rfl,rfl⟩⟩⟩
  rintro σ' H7 ⟨tw',k',mk,rfl,s7,hcs,hok,ha,hmk⟩;have hT6:H7 T=some (.lst (ws.map λx=>V.str (Tx x))):=s7 _ _ h2;have hS6:H7 S=some (.lst (us.map V.ref)):=s7 _ _ h3;refine⟨(),.inl ⟨rfl,_,SqL.of hT6⟩,(),T,(()),hT6,(by rw[aR,eT];omega),?_⟩;have hS7:(upd H7 T (.lst ((ws.map λx=>V.str (Tx x))++[.str (Tx tw')]))) S=some (.lst (us.map V.ref)):=by rw[fH (Ne.symm hTS)];exact hS6
  refine⟨(),.inl ⟨rfl,_,SqL.of hS7⟩,(),S,(()),hS7,(by rw[aR,eT];omega),?_⟩;refine⟨_,_,_,_,_,_,_,_,_,ws++[tw'],us++[mk],ks++[k'],rfl,mC hSn' (mC hT (s2p.trans s7)),?_,(by rw[bB];exact fh),uZ hW hcs,(λk hk=>(bP.mp hk).elim (hO k) λz=>by rw[bJ.mp z];exact hok),(λw hw=>(bP.mp hw).elim (hA w) λz=>by rw[bJ.mp z];exact ha),(by rw[aY,bX,lw]),(by rw[aY,bX,lu]),?_⟩
  ·rw[fH hTS,bB];exact fh
  ·rw[CH,D9,bB];exact oR (Paired.mapP hPM λ_ _ z=>z.keep (BY s7)) hmk
 case done=>
  rintro σ H2 ⟨v5,v6,v7,v8,v9,v10,v11,v12,v13,ws,us,ks,rfl,s2p,h2,h3,hW,hO,hA,lw,lu,hPM⟩;have hlen:=pz ws λx hx=>(hW.cl x hx).2.2;have hne:ws≠[]:=λe=>by rw[e] at lw;simp at lw;omega
  have star:∀{H4:Hp},Same H2 H4->∀t,H4 t=none->Q (.ref t) (upd H4 t (.tup [.str (Tx [42]),.non])):=λs4 t ht=>q t [42] .non none _ (s13.trans (s2p.trans (s4.trans (fj ht _)))) fh (rq true) (.inl ⟨rfl,rfl⟩);refine⟨(),p,_,(()),SqL.of (s2p _ _ hp),lY e0,rfl,(),gp (λ_=>gk ⟨(zL 2),star (Same.refl _)⟩) (λ_=>⟨(),(zL 1),λl1 hl1=>?_⟩)⟩;have sl:=fj hl1 (.lst [V.str (Tx [42])]);refine⟨T,l1,ws,[[42]],rfl,rfl,SqL.of (sl _ _ h2),SqL.of fh,hA,(λw hw=>by rw[bJ.mp hw];exact jw rfl),(),gn (λ_=>⟨(zL 2),star sl⟩) (λnst=>?_)⟩
  refine⟨rfl,(),44,T,ws,rfl,rfl,SqL.of (sl _ _ h2),⋯,(),(zL 2),λt ht=>?_⟩;have sF:=sl.trans (fj ht (.tup [.str (Tx (gK 44 ws)),.ref S]));exact q t _ (.ref S) (some ks) _ (s13.trans (s2p.trans sF)) fh (rK hW hne ⋯ hO (λz=>nst (EL hW z))) (.inr ⟨S,_,ks,rfl,rfl,sF _ _ h3,Paired.mapP hPM (λ_ _ z=>(z.keep B0).keep sF),λk hk=>(hO k hk).2.2⟩)
theorem arJ:Dx P w base ZZ.dm 1 (T4 K):=by
 refine ZZ.dm.dfs Ue (by trivial) ?_;rintro _ _ _ _ s H _ Q E hr⟨d,l,fi,rfl,hl,hd,q⟩;refine⟨_,(fe (iw (lO ZZ.aa (A1 eI)) (gN 3 Ue.nd) (fg (iw (lE (K:=K) (gB (A2 (fc gm Y0 Y3) (fc fV Y0 Y3)))) (gN 4 Ue.nd) (fg (fJ (tW (kA (tG jo jo eI Y4 Y1) (kH (tG jo jo eI (fc gs (fc gm (fc fV Y2 Y4) eI) eI) eI)))) (fg (fk Y4)) fN)) PassesOwn.never)) PassesOwn.never) (fg (fk eI))),?_⟩
 extract_lets;rw[←Ol hl hd] at q;refine⟨(),by decide,by decide,kE (λi σ H2=>∃v3 v4:Option V,σ=[some (.int d),some (.int l),some (.int fi),v3,v4]/\Same H H2/\k7 l fi [d-0,d+0,d-1,d+1,d-2,d+2]=k7 l fi ([d-0,d+0,d-1,d+1,d-2,d+2].drop (2*i))) ⟨_,(),Same.refl _,rfl⟩ ?turn ?done⟩
 case done=>
  rintro σ H2 ⟨v3,v4,rfl,s2,e⟩;rw[e] at q;exact q H2 s2
 case turn=>
  rintro i σ H2 hi ⟨v3,v4,rfl,s2,e⟩;have hi3:i<3:=hi;refine⟨(),(),(()),(),(),(()),(zL 2),λL hL=>?_⟩;have sL:=fj hL (.lst [V.int (d-(0+(i:Int))),V.int (d+(0+(i:Int)))]);refine⟨L,rfl,⟨_,SqL.of fh⟩,l9 (K:=K) (a:=L) (xs:=[V.int (d-(0+(i:Int))),V.int (d+(0+(i:Int)))]) (λj σ Hc=>∃v4:Option V,σ=[some (.int d),some (.int l),some (.int fi),some (.int (0+(i:Int))),v4]/\Same H2 Hc/\Hc L=some (.lst [V.int (d-(0+(i:Int))),V.int (d+(0+(i:Int)))])/\k7 l fi [d-0,d+0,d-1,d+1,d-2,d+2]=k7 l fi ([d-0,d+0,d-1,d+1,d-2,d+2].drop (2*i+j))) ⟨(),sL,fh,e⟩ (λj σ Hc _ ⟨_,_,_,z,_⟩=>SqL.of z) ?tn ?dn⟩
  case dn=>
   rintro σ Hc ⟨v4,rfl,sc,_,e⟩;exact⟨_,(),s2.trans sc,e⟩
  case tn=>
   rintro j x σ Hc hx ⟨v4,rfl,sc,hc,e⟩;obtain⟨z,rfl,hz⟩:=NC hi3 hx;rw[hz] at e;have eh:k7 l fi (z::[d-0,d+0,d-1,d+1,d-2,d+2].drop (2*i+(j+1)))=if lT l fi z=true then z else k7 l fi ([d-0,d+0,d-1,d+1,d-2,d+2].drop (2*i+(j+1))):=rfl
   rw[eh] at e;have no:lT l fi z=false->∃v4:Option V,[some (V.int d),some (.int l),some (.int fi),some (.int (0+(i:Int))),some (.int z)]=[some (V.int d),some (.int l),some (.int fi),some (.int (0+(i:Int))),v4]/\Same H2 Hc/\Hc L=some (.lst [V.int (d-(0+(i:Int))),V.int (d+(0+(i:Int)))])/\k7 l fi [d-0,d+0,d-1,d+1,d-2,d+2]=k7 l fi ([d-0,d+0,d-1,d+1,d-2,d+2].drop (2*i+(j+1))):=λn=>⟨(),sc,hc,by rw[e,if_neg (by rw[n];decide)]⟩
   have t1:=cG (fi+z-1) (show (7:Int)≠0 by decide);refine⟨(),(()),(),gn (λc1=>⟨(),(()),(),gn (λc2=>⟨(),(),(()),(()),(()),zP9,(()),(),gn (λc3=>⟨(()),(),gn (λc4=>?hit) (λc4=>?m4)⟩) (λc3=>?m3)⟩) (λc2=>?m2)⟩) (λc1=>?m1)⟩
   case hit=>
    have y:lT l fi z=true:=by unfold lT;rw[eY c1,eY c2,eY c3,eY c4];rfl
    rw[if_pos y] at e;rw[e] at q;exact⟨(),q Hc (s2.trans sc)⟩
   case m1=>exact⟨(),gf (gf (no (by unfold lT;rw[fB c1];rfl)))⟩
   case m2=>exact gf (no (by unfold lT;rw[fB c2,cM];rfl))
   case m3=>exact⟨(),gf (no (by unfold lT;rw[fB c3];exact cM _))⟩
   case m4=>exact no (by unfold lT;rw[fB c4,cM];exact cM _)
theorem Lc:Dx P w base ZZ.ct 2 (SI K):=by
 refine ZZ.ct.dfs Ub (by trivial) ?_;rintro f _ _ _ s H _ Q E hr⟨v,k,d,l,fi,rfl,hk,ok,hl,hd,q⟩;refine⟨_,(fe (kL Y0 (kO (K:=K) (gx (gN 4 Ub.nd) (gx (gN 5 Ub.nd) (gx (gN 6 Ub.nd) jN))))) (fe (fq 7 (fc gs (fc gm (fc fV Y3 Y1) eI) eI) Ub.nd) (fe (fJ (fG gb Y4 (fW [110,117,109])) (fg (fk (hV (mP (K:=K)) Y1 Y5))) fN) (fe (fJ (fG gb Y4 (fW [108,97,115,116])) (fg (fk (hV gb Y1 (fc gm Y2 Y5)))) fN) (fe (fJ (fG gb Y4 (fW [110,101,97,114])) (fg (fk (j5 (hV jo Y5 Y2) (jm (hV gb Y1 (eD (arJ ZZ) hr (A3 Y5 Y2 Y3))))))) fN) (fe (fJ (fG gb Y4 (fW [119,111,114,107])) (fg (fk (hV gb Y1 (gM IB ZZ.d2 PyProof.Rows.boot_max (A1 (oG ["_law_first"] [3] (sx ZZ.aa (A2 (fc gm Y2 eI) (fc fV Y2 eI))) (λ_ _ _ _ _ _=>(F7 (tG jo jo eI (fc gs (fc gm (fc fV Y1 Y0) eI) eI) eI))) (λ_ _ _ _ _ _=>Y0))))))) fN) (fe (fJ (fG gb Y4 (fW [119,101,101,107])) (fg (fk (hV (mP (K:=K)) Y7 Y5))) fN) (fe (fJ (fG gb Y4 (fW [110,116,104])) (fg (fk (j5 (hV gb Y7 Y5) (jm (hV gb (fc ie (fc gm Y1 eI) eI) (fc gm Y6 eI)))))) fN) (fg (fk (j5 (hV gb Y7 Y5) (jm (hV jR (fc fV Y1 eI) Y2))))))))))))),?_⟩
 extract_lets;obtain⟨u,x,y,tw,rfl,hu,hk⟩:=hk;refine⟨(),u,(),SqT.of hu,rfl,_,(),_,(),(()),?_⟩;refine⟨(),(),(()),(()),(()),zP9,?_⟩;cases k with
 |num m=>
  obtain⟨rfl,a,ns,rfl,ha,rfl,hns⟩:=hk;refine⟨(),rfl,(),je (λ_=>⟨(),(),a,(),.inl (SqL.of ha),rfl,(bV.mpr λx hx=>by obtain⟨n,_,rfl⟩:=bD.mp hx;rfl),?_⟩) (λc=>absurd rfl c)⟩;have e:tb (Mk.due (.num (fu ns)) l fi) d.toNat=kS (.int d) (ns.map V.int):=by
   rw[Rx ok hl hd,jE,sI];refine rA λn hn=>?_;have h1:=hns n hn;have h2:=hd.1;exact decide_eq_decide.mpr ⟨λh=>by omega,λh=>by omega⟩
  have q1:=q H (Same.refl _);rw[e] at q1;exact q1
 |lst b=>
  obtain⟨rfl,rfl⟩:=hk;have q1:=q H (Same.refl _);rw[Jh ok hl hd,←mF] at q1;exact⟨(),rfl,(),hU (by decide) (⟨(),rfl,(),je (λ_=>⟨(),(),(),(()),rfl,q1⟩) (λc=>absurd rfl c)⟩)⟩
 |nea x=>
  obtain⟨rfl,rfl⟩:=hk;have e:=Dq (f:=fi) ok hl hd;refine⟨(),rfl,(),hU (by decide) (⟨(),rfl,(),hU (by decide) (⟨(),rfl,(),je (λ_=>⟨(),(),(()),(),gn (λc=>?_) (λc=>?_)⟩) (λc=>absurd rfl c)⟩)⟩)⟩
  ·have q1:∀H',Same H H'->Q (.bl (decide (d=nw x l fi))) H':=λH' s=>by
    have z:=q H' s;rw[e,eY c,cY] at z;exact z
   refine⟨(),(),(),(),x,l,fi,rfl,hl,⟨ok.1,c⟩,λH' s=>⟨rfl,?_⟩⟩;have z:=q1 H' s;rw[←mF] at z;exact z
  ·have q1:=q H (Same.refl _);rw[e,fB c,cZ] at q1;exact q1
 |nth wd m=>
  obtain⟨rfl,rfl,rfl⟩:=hk;have q1:=q H (Same.refl _);rw[IF ok.1 ok.2 hl hd] at q1;refine⟨(),rfl,(),hU (by decide) (⟨(),rfl,(),hU (by decide) (⟨(),rfl,(),hU (by decide) (⟨(),rfl,(),hU (by decide) (⟨(),rfl,(),hU (by decide) (⟨(),rfl,(),je (λ_=>⟨(),(),rfl,(),gp (λc=>?_) (λc=>?_)⟩) (λc=>absurd rfl c)⟩)⟩)⟩)⟩)⟩)⟩
  ·rw[eY c,cY,←mF] at q1;exact⟨(),(()),(()),zD9,(),(()),rfl,q1⟩
  ·rw[fB c,cZ] at q1;exact q1
 |wrk=>
  obtain rfl:=hk;have q1:=λH' s=>q H' s;rw[aGM hl hd] at q1;have lf:=hl;obtain⟨⟨l28,oi⟩,f0,f6⟩:=hl;refine⟨(),rfl,(),hU (by decide) (⟨(),rfl,(),hU (by decide) (⟨(),rfl,(),hU (by decide) (⟨(),rfl,(),je (λ_=>⟨(),(),(()),(),(()),_,(),⟨⋯,⋯,⋯,⋯⟩,qm (λi z=>z=(([l-2,l-1,l].take i).filter λk=>decide (1<=(fi+k-1)%7)&&decide ((fi+k-1)%7<=5)).map V.int) (by rw[eT];omega) rfl ?_ ?_⟩) (λc=>absurd rfl c)⟩)⟩)⟩)⟩
  ·intro i z D H3 E' F' hi hR hD s3 hz hE hF;subst hR;have hi3:i<3:=⋯;have ek:(([l-2,l-1,l]:List Int).take (i+1))=[l-2,l-1,l].take i++[l-2+(i:Int)]:=by
    match i,hi3 with
    |0,_=>rw[show l-2+((0:Nat):Int)=l-2 by omega];rfl
    |1,_=>rw[show l-2+((1:Nat):Int)=l-1 by omega];rfl
    |2,_=>rw[show l-2+((2:Nat):Int)=l by omega];rfl
   rw[ek,List.filter_append,bB] at hE hF;refine⟨(),(),(()),(()),(()),zP9,(()),(),gn (λc1=>⟨(()),(),gn (λc2=>⟨(),hE _ _ (Same.refl _) ?e⟩) (λc2=>hF _ (Same.refl _) ?f)⟩) (λc1=>⟨(),gf (hF _ (Same.refl _) ?g)⟩)⟩
   case e=>rw[List.filter_cons_of_pos (by rw[eY c1,eY c2];rfl)];rfl
   case f=>rw[List.filter_cons_of_neg (by rw[fB c2,cM];decide)];exact (cU _).symm
   case g=>rw[List.filter_cons_of_neg (by rw[fB c1];exact a8)];exact (cU _).symm
  ·intro D H3 z hR hD s3 hz;subst hR;rw[show (l+1-(l-2)).toNat=3 by omega] at hz;obtain⟨w1,w2⟩:=V1 l (iI l28 oi) fi (iH f0 f6);exact⟨D,rQ l fi,rfl,SqL.of hz,w1,λM hM hall=>⟨rfl,by rw[w2 M hM hall,mF];exact q1 _ s3⟩⟩
 |wkd m=>
  obtain⟨rfl,a,ns,rfl,ha,rfl,hns⟩:=hk;refine⟨(),rfl,(),hU (by decide) (⟨(),rfl,(),hU (by decide) (⟨(),rfl,(),hU (by decide) (⟨(),rfl,(),hU (by decide) (⟨(),rfl,(),je (λ_=>⟨(),(),a,(),.inl (SqL.of ha),rfl,nO _,?_⟩) (λc=>absurd rfl c)⟩)⟩)⟩)⟩)⟩;have q1:=q H (Same.refl _);rw[Vx ok hns hl hd] at q1;exact q1
 |one wd=>
  obtain⟨rfl,rfl⟩:=hk;have q1:=q H (Same.refl _);rw[Lm ok hl hd] at q1;refine⟨(),rfl,(),hU (by decide) (⟨(),rfl,(),hU (by decide) (⟨(),rfl,(),hU (by decide) (⟨(),rfl,(),hU (by decide) (⟨(),rfl,(),hU (by decide) (⟨(),rfl,(),hU (by decide) (⟨(),(),rfl,(),gp (λc=>?_) (λc=>?_)⟩)⟩)⟩)⟩)⟩)⟩)⟩
  ·rw[eY c,cY] at q1;exact⟨(),(()),(),(()),q1⟩
  ·rw[fB c,cZ] at q1;exact q1
 |nil=>exact hk.elim
theorem qY:Dx P w base ZZ.eg 3 (N9 K):=by
 refine ZZ.eg.dfs U5 (by trivial) ?_;rintro _ _ _ _ s H _ Q E hr⟨a,us,ks,d,l,fi,rfl,ha,hP,ok,hl,hd,q⟩;refine⟨_,(fe (iw (lE (K:=K) Y0) (gN 4 U5.nd) (fg (fJ (gL (eD (Lc ZZ) hr (aC Y4 (A3 Y1 Y2 Y3)))) (fg (fk eB)) fN)) PassesOwn.never) (fg (fk eB))),?_⟩;extract_lets;refine⟨(),a,rfl,⟨_,SqL.of ha⟩,l9 (K:=K) (a:=a) (xs:=us) (λi σ H2=>∃v4:Option V,σ=[some (.ref a),some (.int d),some (.int l),some (.int fi),v4]/\Same H H2/\(ks.any λk=>tb (k.due l fi) d.toNat)=((ks.drop i).any λk=>tb (k.due l fi) d.toNat)) ⟨(),Same.refl _,rfl⟩ (λi σ H2 _ ⟨_,_,s,_⟩=>SqL.of (s _ _ ha)) ?turn ?done⟩
 case done=>
  rintro σ H2 ⟨v4,rfl,s2,e⟩;rw[oa hP,List.drop_length] at e;have q1:=q H2 s2;rw[e] at q1;exact q1
 case turn=>
  rintro i x σ H2 hx ⟨v4,rfl,s2,e⟩;obtain⟨k,hk,hm⟩:=yX hP hx;have hdr:ks.drop i=k::ks.drop (i+1):=by
   have hi:=(cC.mp hk).1;rw[List.drop_eq_getElem_cons hi,(cC.mp hk).2]
  rw[hdr,bR] at e;refine⟨(),(),(),(),x,k,d,l,fi,rfl,hm.keep s2,ok k (bU hk),hl,hd,λH3 s3=>⟨(),?_⟩⟩;cases c:tb (k.due l fi) d.toNat with
  |true=>
   rw[c,Bool.true_or] at e;have q1:=q H3 (s2.trans s3);rw[e] at q1;exact gk q1
  |false=>
   rw[c,dG] at e;exact gf ⟨(),s2.trans s3,e⟩
theorem Ef:Dx P w base ZZ.b2 4 (TM K):=by
 refine ZZ.b2.dfs U7 (by trivial) ?_;rintro _ _ _ _ s H _ Q E hr⟨s0,x0,x1,x2,v3,x4,v5,kd,kw,d,l,fi,rfl,hs,h3,h5,hl,hd,q⟩;refine⟨_,(fe (fq 4 (fv (f9 (K:=K)) Y0 eI) U7.nd) (ke (fq 5 (fv (f9 (K:=K)) Y0 eI) U7.nd) (fe (fJ (tW (kA (fG iZ Y4 eN) (kH (fG iZ Y5 eN)))) (fg (fk eB)) fN) (fe (fJ (fG iZ Y4 eN) (fg (fk (eD (qY ZZ) hr (aC Y5 (A3 Y1 Y2 Y3))))) fN) (fe (fJ (fG iZ Y5 eN) (fg (fk (eD (qY ZZ) hr (aC Y4 (A3 Y1 Y2 Y3))))) fN) (fg (fk (qk (eD (qY ZZ) hr (aC Y4 (A3 Y1 Y2 Y3))) (jm (eD (qY ZZ) hr (aC Y5 (A3 Y1 Y2 Y3)))))))))))),?_⟩
 extract_lets;have e:=La (kd:=kd) (kw:=kw) hl hd h3.ok h5.ok;rw[e] at q;refine⟨(),s0,_,(()),SqT.of hs,rfl,?_⟩;refine⟨(λσ' H'=>σ'=[some (.ref s0),some (.int d),some (.int l),some (.int fi),some v3,some v5]/\H'=H),⟨(),s0,_,(()),SqT.of hs,rfl,rfl,rfl⟩,?_⟩;rintro σ' H' ⟨rfl,rfl⟩;rcases h3 with ⟨rfl,rfl⟩ | ⟨a,us,ks,rfl,rfl,ha,hP,ok⟩
 ·rcases h5 with ⟨rfl,rfl⟩ | ⟨a,us,ks,rfl,rfl,ha,hP,ok⟩
  ·exact⟨(),rfl,(),gn (λ_=>⟨(),rfl,(),gn (λ_=>q H' (Same.refl _)) (λc=>absurd rfl c)⟩) (λc=>absurd rfl c)⟩
  ·refine⟨(),rfl,(),gn (λ_=>⟨(),rfl,(),gn (λc=>by cases c) (λ_=>?_)⟩) (λc=>absurd rfl c)⟩;refine⟨(),rfl,(),gn (λ_=>?_) (λc=>absurd rfl c)⟩;exact⟨(),(),(),(),a,us,ks,d,l,fi,rfl,ha,hP,ok,hl,hd,q⟩
 ·refine⟨(),rfl,(),gn (λc=>by cases c) (λ_=>gf ⟨(),rfl,(),gn (λc=>by cases c) (λ_=>?_)⟩)⟩;rcases h5 with ⟨rfl,rfl⟩ | ⟨a',us',ks',rfl,rfl,ha',hP',ok'⟩
  ·refine⟨(),rfl,(),gn (λ_=>?_) (λc=>absurd rfl c)⟩;refine⟨(),(),(),(),a,us,ks,d,l,fi,rfl,ha,hP,ok,hl,hd,λH1 s1=>?_⟩;have z:=q H1 s1;rw[show (((some ks).isNone&&(none:Ko).isNone)||(kI (some ks) l fi d.toNat||kI none l fi d.toNat))=(ks.any λk=>tb (k.due l fi) d.toNat) from Bool.or_false _] at z
   exact z
  ·refine⟨(),rfl,(),gn (λc=>by cases c) (λ_=>?_)⟩;refine⟨(),(),(),(),a,us,ks,d,l,fi,rfl,ha,hP,ok,hl,hd,λH1 s1=>⟨(),?_⟩⟩;have z:∀H',Same _ H'->Q (.bl ((ks.any λk=>tb (k.due l fi) d.toNat)||(ks'.any λk=>tb (k.due l fi) d.toNat))) H':=q
   cases c:ks.any λk=>tb (k.due l fi) d.toNat with
   |true=>
    rw[c,Bool.true_or] at z;exact gk (z H1 s1)
   |false=>
    rw[c,dG] at z;exact gf ⟨(),(),(),(),a',us',ks',d,l,fi,rfl,s1 _ _ ha',Paired.mapP hP' (λ_ _ y=>y.keep s1),ok',hl,hd,λH2 s2=>z H2 (s1.trans s2)⟩
theorem zZ:Dx P w base ZZ.dn 1 (Jr K):=by
 refine ZZ.dn.dfs YQ (by trivial) ?_;rintro _ _ _ _ s H _ Q E hr⟨y,m,rfl,⟨h1,h2⟩,q⟩;refine⟨_,(fe (fJ (fG gb Y1 eI) (fg (fk (fc fV eI (gT FZ ZZ.a7 PyProof.Rows.boot_int (A1 (j5 (hV gb (fc gs Y0 eI) eI) (jm (qk (hV jV (fc gs Y0 eI) eI) (jm (hV gb (fc gs Y0 eI) eI)))))))))) fN) (fg (fk (fv (gv (K:=K)) (gB (qx [31,28,31,30,31,30,31,31,30,31,30,31])) (fc gm Y1 eI))))),?_⟩
 extract_lets;refine⟨(),rfl,(),gp (λc1=>?_) (λc1=>?_)⟩
 ·have e:fK y m=28+iQ y:=by unfold fK;rw[if_pos c1]
  have z:=q H (Same.refl H);rw[e] at z;refine⟨(),(()),zP9,rfl,(),gp (λc4=>⟨(),(()),zP9,rfl,(),ol (λn=>?a) (λe100=>⟨(),(()),zP9,rfl,?b⟩)⟩) (λc4=>?c)⟩
  case a=>
   rw[ym (b:=true) (by unfold io;rw[eY c4,fB n];rfl)] at z;exact .inr ⟨(),(()),z⟩
  case b=>
   rw[ym (b:=decide (V.int (y%400)=V.int 0)) (by unfold io;rw[eY c4,eY e100,mF];rfl)] at z;exact .inr ⟨(),(()),z⟩
  case c=>
   rw[ym (b:=false) (by unfold io;rw[fB c4];rfl)] at z;exact .inr ⟨(),(()),z⟩
 ·have e:fK y m=lasts.getD (m-1).toNat 0:=by unfold fK;rw[if_neg c1]
  rw[e] at q;refine⟨(zL 12),λp hp=>?_⟩;exact⟨(),(()),p,lasts.map V.int,(()),SqL.of fh,rY h1 h2,q _ (fj hp _)⟩
theorem Bi:Dx P w base ZZ.dp 2 (NK K):=by
 refine ZZ.dp.dfs U6 (by trivial) ?_;rintro _ _ _ _ s H _ Q E hr⟨d,rfl,q⟩;refine⟨_,(fe (fq 1 (fc ie Y0 eI) U6.nd) (fe (fq 2 (fc gs Y0 eI) U6.nd) (fe (fq 3 (fc ie (fc ii Y2 eI) eI) U6.nd) (fe (nF (fG jR (eD (sr ZZ) hr (A1 Y3)) Y2) (fg (fq 3 (fc gm Y3 eI) U6.nd)) PassesOwn.never) (fe (nF (fG jo (eD (sr ZZ) hr (A1 (fc fV Y3 eI))) Y2) (fg (fq 3 (fc fV Y3 eI) U6.nd)) PassesOwn.never) (fe (fq 2 (fc gm Y2 (eD (sr ZZ) hr (A1 Y3))) U6.nd) (fe (fq 4 eI U6.nd) (fe (nF (fG pB Y2 (eD (zZ ZZ) hr (A2 Y3 Y4))) (fe (fq 2 (fc gm Y2 (eD (zZ ZZ) hr (A2 Y3 Y4))) U6.nd) (fg (fq 4 (fc fV Y4 eI) U6.nd))) PassesOwn.never) (fg (fk (gu (aC Y4 (A3 (fc fV Y2 eI) (eD (zZ ZZ) hr (A2 Y3 Y4)) (fc gs (fc fV (fc gm Y0 Y2) eI) eI)))))))))))))),?_⟩
 extract_lets;have x0:0<=d%146097/\d%146097+146097*(d / 146097)=d:=⋯;refine⟨(),(()),zD9,?_⟩;refine⟨(),(()),zP9,?_⟩;refine⟨(),(()),.inr zD9,(()),zD9,?_⟩;refine nv (λσ H'=>H'=H/\∃y:Int,σ=[some (.int d),some (.int (d / 146097)),some (.int (d%146097)),some (.int y),none]) (λσ _=>(db (iv σ 3)-d%146097).toNat) ⟨rfl,()⟩ ?_
 rintro σ H' ⟨rfl,y,rfl⟩;refine⟨(),(),(),(()),(),gn (λc=>?_) (λc=>?_)⟩
 ·refine⟨_,λ_ _ h=>h,?_⟩;have h1:=nj (y-1);have h2:=pO (y-1);rw[show y-1+1=y by omega] at h1;exact⟨(),(()),_,(by show (db (y-1)-d%146097).toNat<(db y-d%146097).toNat;omega),rfl,rfl,()⟩
 refine nv (λσ H2=>H2=H'/\∃y:Int,σ=[some (.int d),some (.int (d / 146097)),some (.int (d%146097)),some (.int y),none]/\db y<=d%146097) (λσ _=>(d%146097-db (iv σ 3)).toNat) ⟨rfl,(),⋯⟩ ?_;clear c;rintro σ H2 ⟨rfl,y,rfl,hy⟩;refine⟨(),(()),(),(),(()),(),gn (λc=>?_) (λc=>?_)⟩
 ·refine⟨_,λ_ _ h=>h,?_⟩;have h1:=nj y;have h2:=pO y;exact⟨(),(()),_,(by show (d%146097-db (y+1)).toNat<(d%146097-db y).toNat;omega),rfl,rfl,(),c⟩
 refine⟨(),(),(),(()),?_⟩;refine nv (λσ H3=>Same H2 H3/\∃m r:Int,σ=[some (.int d),some (.int (d / 146097)),some (.int r),some (.int y),some (.int m)]/\(1<=m/\m<=12)/\0<=r/\db y+ahead y m+r=d%146097) (λσ _=>(13-(iv σ 4)).toNat) ?_ ?_
 ·have a4:ahead y 1=0:=rfl;exact⟨Same.refl _,1,(),zD9,⋯,⋯⟩
 ·rintro σ H3 ⟨s2,m,r,rfl,hm,hr0,he⟩;refine⟨(),(),(),_,(),hm,λH4 s3=>⟨(()),(),?_⟩⟩;have a1:=pS (y:=y) hm.1;refine gn (λc2=>?_) (λc2=>?_)
  ·have a2:=sZ y;have a3:=nj y;have hm12:m<12:=by
    rcases b9 m 12 with z | z
    ·exact z
    ·have e12:m=12:=⋯;subst e12;have a5:ahead y (12+1)=ahead y 13:=rfl;omega
   refine⟨_,λ_ _ h=>h,?_⟩;refine⟨(),(),(),_,(),hm,λH5 s4=>⟨(()),?_⟩⟩;refine⟨(),(()),?_⟩;exact⟨_,(by show (13-(m+1)).toNat<(13-m).toNat;omega),rfl,s2.trans (s3.trans s4),m+1,r-fK y m,rfl,⟨⋯,⋯⟩,⋯,⋯⟩
  ·refine⟨(),(),(()),(),(),_,(),hm,λH5 s4=>⟨(),(),(()),(()),(()),zP9,(zL 4),λp hp=>?_⟩⟩;obtain⟨o1,o2⟩:=aE9 (r:=d / 146097) (d:=d) (x:=d%146097) (show il y m (r+1) from ⟨hm,⋯,⋯⟩) (by unfold gJ;omega) x0.2;exact q _ m (r+1) p _ o1 o2 (s2.trans (s3.trans (s4.trans (fj hp _)))) (by rw[AK,show d-(r+1)+1+6=d-r+6 by omega];exact fh)
theorem Gi:Dx P w base ZZ.dq 5 (Lg K):=by
 refine ZZ.dq.dfs Ul (by trivial) ?_;rintro _ _ _ _ s H _ Q E hr⟨s0,ns0,ns1,ns3,kd,kw,d,rfl,⟨x0,v3,v5,a0,a1,a3,hs,h0,h1,h3,hv3,hv5,b0,b1,b3⟩,q⟩;refine⟨_,(fe (kL (eD (Bi ZZ) hr (A1 Y1)) (kO (K:=K) (gx (gN 2 Ul.nd) (gx (gN 3 Ul.nd) (gx (gN 4 Ul.nd) (gx (gN 5 Ul.nd) jN)))))) (fe (fJ (fG (uC (K:=K)) Y2 (fv (f9 (K:=K)) Y0 eI)) (fg (fk (fW [109,111,110,116,104]))) fN) (fe (fJ (iR (gL (eD (Ef ZZ) hr (aC Y0 (A3 Y3 Y4 Y5))))) (fg (fk (fW [100,97,121]))) fN) (fg (fk (fW [116,111,108,100])))))),?_⟩
 extract_lets;refine⟨(),d,rfl,λy m k p H1 ok e s1 hp=>⟨p,(),SqT.of hp,rfl,_,(),_,(),_,(),(()),?_⟩⟩;have q':=q y m k;have hm:=ok.1;refine⟨(),(),s0,_,(()),SqT.of (s1 _ _ hs),rfl,a3,(),.inl (SqL.of (s1 _ _ h3)),rfl,nO _,(),?_⟩;show if (!kS (.int m) (ns3.map V.int))=true then _ else _
 rw[oA (λn hn=>by have:=b3 n hn;omega) (show 0<=m by omega)];cases c1:tb (fu ns3) m.toNat with
 |false=>
  have z:=q' H1 ok e s1;rw[show l7 (fu ns3) kd kw d y m k=[109,111,110,116,104] from if_pos c1] at z;exact gk z
 |true=>
  refine gf ⟨(),(),(),(),s0,_,_,_,v3,_,v5,kd,kw,k,fK y m,(d-k+1+6)%7,rfl,s1 _ _ hs,hv3.keep s1,hv5.keep s1,qI ok,ok.2,λH2 s2=>⟨(),?_⟩⟩;have n1:¬tb (fu ns3) m.toNat=false:=by rw[c1];decide
  have z:=q' H2 ok e (s1.trans s2);cases c2:tb (gg kd kw (fK y m) ((d-k+1+6)%7)) k.toNat with
  |false=>
   rw[show l7 (fu ns3) kd kw d y m k=[100,97,121] from (if_neg n1).trans (if_pos c2)] at z;exact gk z
  |true=>
   rw[show l7 (fu ns3) kd kw d y m k=[116,111,108,100] from (if_neg n1).trans (if_neg (by rw[c2];decide))] at z;exact gf z
theorem Dc:Dx P w base ZZ.dr 6 (XO K):=by
 refine ZZ.dr.dfs Up (by trivial) ?_;rintro _ _ _ _ s H _ Q E hr⟨s0,ns0,ns1,ns3,kd,kw,t,rfl,hL,q⟩;refine⟨_,(fe (fq 2 (eD (Gi ZZ) hr (A2 Y0 (fc ie Y1 eI))) Up.nd) (fe (fJ (fG jV Y2 (fW [116,111,108,100])) (fg (fk Y2)) fN) (fe (fJ (fG (uC (K:=K)) (fc gs (fc ie Y1 eI) eI) (fv (f9 (K:=K)) Y0 eI)) (fg (fk (fW [104,111,117,114]))) fN) (fe (fJ (fG (uC (K:=K)) (fc gs Y1 eI) (fv (f9 (K:=K)) Y0 eI)) (fg (fk (fW [109,105,110,117,116,101]))) fN) (fg (fk (fW [110,111,110,101]))))))),?_⟩
 extract_lets;obtain⟨x0,v3,v5,a0,a1,a3,hs,h0,h1,h3,hv3,hv5,b0,b1,b3⟩:=id hL;refine⟨(),(),(()),zD9,s0,ns0,ns1,ns3,kd,kw,t / 1440,rfl,hL,λy m k H1 ok e s1=>?_⟩;have z:=q y m k H1 ok e s1;refine⟨(),rfl,(),?_⟩;rcases BF (m0:=fu ns0) (m1:=fu ns1) (m3:=fu ns3) (kd:=kd) (kw:=kw) (d:=t / 1440) (r:=t%1440) (y:=y) (m:=m) (k:=k) with ⟨e1,e2⟩ | ⟨e1,e2⟩ | ⟨e1,e2⟩
 ·rw[e2] at z;rw[e1];exact m7 (λ_=>⟨(),z⟩) (λc=>absurd c (by decide))
 ·rw[e2] at z;rw[e1];exact m7 (λ_=>⟨(),z⟩) (λc=>absurd c (by decide))
 rw[e2] at z;rw[e1];refine m7 (λc=>absurd rfl c) (λ_=>?_);refine⟨(),(()),zD9,(()),zP9,(),s0,_,(()),SqT.of (s1 _ _ hs),rfl,a1,(),.inl (SqL.of (s1 _ _ h1)),rfl,nO _,(),?_⟩;show if (!kS (.int (t / 60%24)) (ns1.map V.int))=true then _ else _
 rw[show t / 60%24=t%1440 / 60 by omega,oA (λn hn=>(b1 n hn).1) (show 0<=t%1440 / 60 by omega)];cases c3:tb (fu ns1) (t%1440 / 60).toNat with
 |false=>
  rw[if_pos c3] at z;exact gk z
 |true=>
  rw[if_neg (by rw[c3];decide)] at z;refine gf ⟨(),(()),zP9,(),s0,_,(()),SqT.of (s1 _ _ hs),rfl,a0,(),.inl (SqL.of (s1 _ _ h0)),rfl,nO _,(),?_⟩;show if (!kS (.int (t%60)) (ns0.map V.int))=true then _ else _
  rw[show t%60=t%1440%60 by omega,oA (λn hn=>(b0 n hn).1) (show 0<=t%1440%60 by omega)];cases c4:tb (fu ns0) (t%1440%60).toNat with
  |false=>
   rw[if_pos c4] at z;exact gk z
  |true=>
   rw[if_neg (by rw[c4];decide)] at z;exact gf z
theorem zW:Dx P w base ZZ.c6 1 (Rl K):=by
 refine ZZ.c6.dfs JY (by trivial) ?_;rintro _ _ _ _ s H _ Q E hr⟨i,rfl,q⟩;refine⟨_,(fg (fk (j5 (gM DA ZZ.ab PyProof.Rows.boot_isinstance (A2 Y0 (lx ZZ.a7 PyProof.Rows.boot_int))) (jm (ED (gM Du ZZ.ab PyProof.Rows.boot_isinstance (A2 Y0 (lx ZZ.cx PyProof.Rows.boot_bool)))))))),?_⟩;refine⟨(),(),(),?_⟩;refine gk ?_;refine⟨(),(),(),?_⟩;exact q
theorem WZ:Dx P w base ZZ.bp 3 (Ja K):=by
 refine ZZ.bp.dfs Ud (by trivial) ?_;rintro _ _ _ _ s H _ Q E hr⟨s0,ns0,ns1,ns3,kd,kw,fi,l,rfl,⟨x0,v3,v5,a0,a1,a3,hs,h0,h1,h3,hv3,hv5,b0,b1,b3⟩,hfl,hw,q⟩;refine⟨_,(fe (fq 3 (fc ie Y1 eI) Ud.nd) (fe (nF (fG jo Y3 (fc ie Y2 eI)) (fe (kL (eD (Bi ZZ) hr (A1 Y3)) (kO (K:=K) (gx (gN 4 Ud.nd) (gx (gN 5 Ud.nd) (gx (gN 6 Ud.nd) (gx (gN 7 Ud.nd) jN)))))) (fe (fJ (fG (mP (K:=K)) Y4 (fv (f9 (K:=K)) Y0 eI)) (fg (fk eB)) fN) (fg (fq 3 (fc fV (fc gm (fc fV Y3 Y6) Y5) eI) Ud.nd)))) PassesOwn.never) (fg (fk eB)))),?_⟩
 extract_lets;refine⟨(),(()),zD9,?_⟩;refine nv (λσ H'=>Same H H'/\∃(n:Int) (v4 v5' v6 v7:Option V),σ=[some (.ref s0),some (.int fi),some (.int l),some (.int n),v4,v5',v6,v7]/\fi / 1440<=n) (λσ _=>(l / 1440+1-(iv σ 3)).toNat) ⟨Same.refl _,_,_,_,_,(),aS _⟩ ?_;rintro σ H1 ⟨sA,n,v4,v5',v6,v7,rfl,hn⟩;refine⟨(),(),(()),zD9,(()),(),gn (λc=>?_) (λc=>q _ sA)⟩;refine⟨_,λ_ _ h=>h,?_⟩
 refine⟨(),n,rfl,λy m k p H2 ok e s1 hp=>⟨p,(),SqT.of hp,rfl,_,(),_,(),_,(),(()),?_⟩⟩;have sB:=sA.trans s1;have hm:=ok.1;have hk:=ok.2;obtain⟨t,t1,t2,t3⟩:∃t,fi<=t/\t<=l/\t / 1440=n:=by
  rcases b9 fi (1440*n) with w' | w'
  ·exact⟨1440*n,⋯,⋯,⋯⟩
  ·exact⟨fi,⋯,hfl,⋯⟩
 have no:tb (fu ns3) m.toNat=false:=by
  cases mQ (mw t) (hw t t1 t2) with
  |mon z=>
   cases c1:tb (fu ns3) m.toNat with
   |false=>rfl
   |true=>exact absurd ⟨y,m,k,ok,by rw[t3];exact e,c1⟩ z
 refine⟨(),(),s0,_,(()),SqT.of (sB _ _ hs),rfl,a3,(),.inl (SqL.of (sB _ _ h3)),rfl,nO _,(),?_⟩;show if kS (.int m) (ns3.map V.int)=true then _ else _
 rw[oA (λn hn=>by have:=b3 n hn;omega) (show 0<=m by omega),no];refine gf ⟨(),(),(()),(),(()),(()),?_⟩;exact⟨_,(by show (l / 1440+1-(n+fK y m-k+1)).toNat<(l / 1440+1-n).toNat;omega),rfl,sB,_,_,_,_,(),⋯⟩
theorem IV:Dx P w base ZZ.bq 7 (Xh K):=by
 refine ZZ.bq.dfs Uk (by trivial) ?_;rintro _ _ _ _ s H _ Q E hr⟨s0,ns0,ns1,ns3,kd,kw,fi,l,tw,rfl,hL,hfl,hw,hor,q⟩;refine⟨_,(fe (fq 5 (fv (gv (K:=K)) (gB (A2 eI eI)) (gT FZ ZZ.a7 PyProof.Rows.boot_int (A1 (hV gb Y3 (fW [104,111,117,114]))))) Uk.nd) (fe (fJ (fG pB (fc gm Y2 Y1) (fc fV (fc ie (fc ii eI Y5) eI) eI)) (fg (fk eB)) fN) (fe (iw (Cz ZZ.aa (A2 (fc ie Y1 Y5) (fc fV (fc ie Y2 Y5) eI))) (gN 6 Uk.nd) (fe (fJ (tW (iF (tW (kA (fG gb Y3 (fW [104,111,117,114])) (kH (fG (mP (K:=K)) (fc gs Y6 eI) (fv (f9 (K:=K)) Y0 eI))))) (jp (tW (kA (fG gb Y3 (fW [109,105,110,117,116,101])) (kH (fG (mP (K:=K)) (fc gs Y6 eI) (fv (f9 (K:=K)) Y0 eI)))))))) (fg (fk eB)) fN) (fg (fJ (tW (kA (gL Y4) (kH (fG jV (eD (Dc ZZ) hr (A2 Y0 (gM xZ ZZ.d2 PyProof.Rows.boot_max (A2 Y1 (fc ii Y6 Y5))))) Y3)))) (fg (fk eB)) fN))) PassesOwn.never) (fg (fk eB))))),?_⟩
 extract_lets;obtain⟨x0,v3,v5,a0,a1,a3,hs,h0,h1,h3,hv3,hv5,b0,b1,b3⟩:=id hL;rcases hor with ⟨rfl,hlt⟩ | ⟨rfl,hlt⟩
 ·refine⟨(zL 2),λl1 n1=>⟨(),rfl,.inr ⟨(),l1,_,(()),SqL.of fh,(by rw[if_pos (eY rfl)];rfl),?_⟩⟩⟩;have s1:=fj n1 (.lst [V.int 1,V.int 60]);refine⟨(),(),(()),(),(()),.inl zD9,(()),zD9,(()),(()),(),gn (λc=>absurd c ⋯) (λ_=>?_)⟩;refine⟨(),(),(()),zD9,(),(),(()),zD9,(()),_,(),kE (λi σ H2=>∃v6:Option V,σ=[some (.ref s0),some (.int fi),some (.int l),some (.str (Tx [104,111,117,114])),some (.bl true),some (.int 60),v6]/\Same H H2) ⟨(),s1⟩ ?turn ?done⟩
  case done=>
   rintro σ H2 ⟨v6,rfl,s2⟩;exact q H2 s2
  case turn=>
   rintro i σ H2 hi ⟨v6,rfl,s2⟩;have hi':(i:Int)<l / 60+1-fi / 60:=⋯;obtain⟨t,et,t1,t2,t3⟩:∃t,t=(if (fi / 60+(i:Int))*60>fi then (fi / 60+(i:Int))*60 else fi)/\fi<=t/\t<=l/\t / 60=fi / 60+(i:Int):=by
    exact⟨(),Nw hfl hi'⟩
   have wt:=hw t t1 t2;refine⟨(),rfl,(),je (λ_=>⟨(),(()),zP9,(),s0,_,(()),SqT.of (s2 _ _ hs),rfl,a1,(),.inl (SqL.of (s2 _ _ h1)),rfl,nO _,(),?_⟩) (λc=>absurd rfl c)⟩;show if kS (.int ((fi / 60+(i:Int))%24)) (ns1.map V.int)=true then _ else _
   have no:tb (fu ns1) ((fi / 60+(i:Int))%24).toNat=false:=by
    cases mQ (mw t) wt with
    |hou _ z=>rw[show t%1440 / 60=(fi / 60+(i:Int))%24 by omega] at z;exact z
   rw[oA (λn hn=>(b1 n hn).1) (show 0<=(fi / 60+(i:Int))%24 by omega),no];refine gf ⟨(),rfl,(),hU (by decide) (?_)⟩;refine⟨(),(),gk ⟨(),(),(),(),(()),.inr zD9,_,(),s0,ns0,ns1,ns3,kd,kw,t,(by rw[et];rfl),hL.keep s2,λy m k H3 ok e s3=>?_⟩⟩;rw[wt y m k ok e];exact⟨(),rfl,(),m7 (λc=>absurd rfl c) (λ_=>⟨(),s2.trans s3⟩)⟩
 ·refine⟨(zL 2),λl1 n1=>⟨(),rfl,.inr ⟨(),l1,_,(()),SqL.of fh,(by rw[if_neg (by rw[fB (λz=>absurd (iU z) (by decide))];decide)];rfl),?_⟩⟩⟩;have s1:=fj n1 (.lst [V.int 1,V.int 60]);refine⟨(),(),(()),(),(()),.inl zD9,(()),zD9,(()),(()),(),gn (λc=>absurd c ⋯) (λ_=>?_)⟩;refine⟨(),(),(()),zD9,(),(),(()),zD9,(()),_,(),kE (λi σ H2=>∃v6:Option V,σ=[some (.ref s0),some (.int fi),some (.int l),some (.str (Tx [109,105,110,117,116,101])),some (.bl true),some (.int 1),v6]/\Same H H2) ⟨(),s1⟩ ?turn ?done⟩
  case done=>
   rintro σ H2 ⟨v6,rfl,s2⟩;exact q H2 s2
  case turn=>
   rintro i σ H2 hi ⟨v6,rfl,s2⟩;have hi':(i:Int)<l / 1+1-fi / 1:=⋯;obtain⟨t,et,t1,t2,t3⟩:∃t,t=(if (fi / 1+(i:Int))*1>fi then (fi / 1+(i:Int))*1 else fi)/\fi<=t/\t<=l/\t / 1=fi / 1+(i:Int):=by
    exact⟨(),K5 hfl hi'⟩
   have wt:=hw t t1 t2;refine⟨(),rfl,(),hU (by decide) (⟨(),rfl,(),je (λ_=>⟨(),(()),zP9,(),s0,_,(()),SqT.of (s2 _ _ hs),rfl,a0,(),.inl (SqL.of (s2 _ _ h0)),rfl,nO _,(),?_⟩) (λc=>absurd rfl c)⟩)⟩;show if kS (.int ((fi / 1+(i:Int))%60)) (ns0.map V.int)=true then _ else _
   have no:tb (fu ns0) ((fi / 1+(i:Int))%60).toNat=false:=by
    cases mQ (mw t) wt with
    |min _ _ z=>rw[show t%1440%60=(fi / 1+(i:Int))%60 by omega] at z;exact z
   rw[oA (λn hn=>(b0 n hn).1) (show 0<=(fi / 1+(i:Int))%60 by omega),no];refine gf ?_;refine⟨(),(),gk ⟨(),(),(),(),(()),.inr zD9,_,(),s0,ns0,ns1,ns3,kd,kw,t,(by rw[et];rfl),hL.keep s2,λy m k H3 ok e s3=>?_⟩⟩;rw[wt y m k ok e];exact⟨(),rfl,(),m7 (λc=>absurd rfl c) (λ_=>⟨(),s2.trans s3⟩)⟩
theorem arH:Dx P w base ZZ.ds 8 (Zc K):=by
 refine ZZ.ds.dfs Uh (by trivial) ?_;rintro _ _ _ _ s H _ Q E hr⟨s0,ns0,ns1,ns3,kd,kw,fi,l,tw,rfl,hL,hfl,hw,⟨hh,hH⟩,q⟩;refine⟨_,(fe (fJ (fG pB (fc gm Y2 Y1) eI) (fg (fk eB)) fN) (fe (fJ (fG gb Y3 (fW [109,111,110,116,104])) (fg (fk (eD (WZ ZZ) hr (A3 Y0 Y1 Y2)))) fN) (fe (fJ (fG gb Y3 (fW [100,97,121])) (fe (iw (Cz ZZ.aa (A2 (fc ie Y1 eI) (fc fV (fc ie Y2 eI) eI))) (gN 5 Uh.nd) (fg (fJ (fG jV (eD (Gi ZZ) hr (A2 Y0 Y5)) (fW [100,97,121])) (fg (fk eB)) fN)) PassesOwn.never) (fg (fk eB))) fN) (fg (fk (j5 (hV (mP (K:=K)) Y3 (gB (A2 (fW [104,111,117,114]) (fW [109,105,110,117,116,101])))) (jm (eD (IV ZZ) hr (aC Y0 (aC Y1 (A3 Y2 Y3 Y4))))))))))),?_⟩
 extract_lets;obtain⟨p1,p2,p3⟩:=VW hH hw;refine⟨(),(),(()),(()),(),gn (λc=>absurd c ⋯) (λ_=>?_)⟩;rcases F9 (mQ (mw _) (hw fi (aS _) hfl)) with rfl | rfl | rfl | rfl
 ·refine⟨(),rfl,(),FW ?_⟩;exact⟨(),(),(),s0,ns0,ns1,ns3,kd,kw,fi,l,rfl,hL,hfl,hw,q⟩
 ·refine⟨(),rfl,(),hU (by decide) (⟨(),rfl,(),FW ?_⟩)⟩;refine⟨(),(()),zD9,(),(()),zD9,(()),_,(),kE (λi σ H2=>∃v5:Option V,σ=[some (.ref s0),some (.int fi),some (.int l),some (.str (Tx [100,97,121])),some (.bl true),v5]/\Same H H2) ⟨(),Same.refl _⟩ ?turn ?done⟩
  case done=>
   rintro σ H2 ⟨v5,rfl,s2⟩;exact q H2 s2
  case turn=>
   rintro i σ H2 hi ⟨v5,rfl,s2⟩;have hi':(i:Int)<l / 1440+1-fi / 1440:=⋯;obtain⟨t,t1,t2,t3⟩:∃t,fi<=t/\t<=l/\t / 1440=fi / 1440+(i:Int):=by
    rcases b9 fi (1440*(fi / 1440+(i:Int))) with w' | w'
    ·exact⟨1440*(fi / 1440+(i:Int)),⋯,⋯,⋯⟩
    ·exact⟨fi,⋯,hfl,⋯⟩
   refine⟨(),(),s0,ns0,ns1,ns3,kd,kw,fi / 1440+(i:Int),rfl,hL.keep s2,λy m k H3 ok e s3=>⟨rfl,(),?_⟩⟩;have z:=hw t t1 t2 y m k ok (by rw[t3];exact e);have e1:l7 (fu ns3) kd kw (fi / 1440+(i:Int)) y m k=[100,97,121]:=by
    rw[←t3];rcases BF (m0:=fu ns0) (m1:=fu ns1) (m3:=fu ns3) (kd:=kd) (kw:=kw) (d:=t / 1440) (r:=t%1440) (y:=y) (m:=m) (k:=k) with ⟨e1,e2⟩ | ⟨e1,e2⟩ | ⟨e1,e2⟩
    ·rw[e2] at z;exact absurd (iU z) (by decide)
    ·exact e1
    ·rw[e2] at z;split at z
     ·exact absurd (iU z) (by decide)
     ·split at z
      ·exact absurd (iU z) (by decide)
      ·cases z
   rw[e1];exact m7 (λc=>absurd rfl c) (λ_=>⟨(),s2.trans s3⟩)
 ·refine⟨(),rfl,(),hU (by decide) (⟨(),rfl,(),hU (by decide) (?_)⟩)⟩;refine⟨(),(zL 2),λL hLn=>⟨L,(),.inl (SqL.of fh),rfl,rfl,(),?_⟩⟩;have sL:=fj hLn (.lst [.str (Tx [104,111,117,114]),.str (Tx [109,105,110,117,116,101])]);refine jM (by decide +kernel) ⟨(),(),(),(),(),s0,ns0,ns1,ns3,kd,kw,fi,l,(),hL.keep sL,hfl,hw,.inl ⟨rfl,p2 rfl⟩,λH' s'=>q H' (sL.trans s')⟩
 ·refine⟨(),rfl,(),hU (by decide) (⟨(),rfl,(),hU (by decide) (?_)⟩)⟩;refine⟨(),(zL 2),λL hLn=>⟨L,(),.inl (SqL.of fh),rfl,rfl,(),?_⟩⟩;have sL:=fj hLn (.lst [.str (Tx [104,111,117,114]),.str (Tx [109,105,110,117,116,101])]);refine jM (by decide +kernel) ⟨(),(),(),(),(),s0,ns0,ns1,ns3,kd,kw,fi,l,(),hL.keep sL,hfl,hw,.inr ⟨rfl,p3 rfl⟩,λH' s'=>q H' (sL.trans s')⟩
theorem W6:Dx P w base ZZ.b3 2 (Zu K):=by
 refine ZZ.b3.dfs V3 (by trivial) ?_;rintro _ _ _ _ s H _ Q E hr⟨t,a,b,w',rfl,h,q⟩;refine⟨_,(fe (fJ (tW (iF (iR (gL (gM nJ ZZ.ab PyProof.Rows.boot_isinstance (A2 Y0 (lx ZZ.b5 PyProof.Rows.boot_tuple))))) (jp (fG jV (gM (k6 (K:=K)) ZZ.ag PySem.boot_len (A1 Y0)) eI)))) (fg (fk eB)) fN) (fg (fk (j5 (eD (zW ZZ) hr (A1 (fv (f9 (K:=K)) Y0 eI))) (j5 (eD (zW ZZ) hr (A1 (fv (f9 (K:=K)) Y0 eI))) (jm (gM nJ ZZ.ab PyProof.Rows.boot_isinstance (A2 (fv (f9 (K:=K)) Y0 eI) (lx ZZ.ae PyProof.Rows.boot_str))))))))),?_⟩
 extract_lets;refine⟨(),.ref t,.tuple,.tuple,rfl,(by decide),.inr (.inl ⟨rfl,_,SqT.of h⟩),(),hX rfl ⟨(),t,(),.inr (SqT.of h),rfl,(),ol (λc=>absurd rfl c) (λ_=>?_)⟩⟩;exact⟨(),t,_,(()),SqT.of (h),rfl,(),(),gk ⟨(),t,_,(()),SqT.of (h),rfl,(),(),gk ⟨(),t,_,(()),SqT.of (h),rfl,_,.str,.str,rfl,(by decide),rfl,q⟩⟩⟩
theorem PH:Dx P w base ZZ.cu 9 (Xr K):=by
 refine ZZ.cu.dfs Um (by trivial) ?_;rintro _ _ _ _ s H _ Q E hr⟨s0,ns0,ns1,ns3,kd,kw,b,e,l,us,sts,rfl,hL,hl,hP,hcv,hH,q⟩;refine⟨_,(fe (fq 5 Y1 Um.nd) (fe (fq 6 (fW []) Um.nd) (fe (iw (lE (K:=K) Y3) (gN 7 Um.nd) (fe (fJ (tW (iF (iR (gL (eD (W6 ZZ) hr (A1 Y7)))) (iF (fG jV (fv (f9 (K:=K)) Y7 eI) Y5) (iF (fG qQ (fv (f9 (K:=K)) Y7 eI) Y5) (jp (fG gb (fv (f9 (K:=K)) Y7 eI) Y6)))))) (fg (fk eB)) fN) (fe (fJ (iR (gL (eD (arH ZZ) hr (aC Y0 (aC (fv (f9 (K:=K)) Y7 eI) (A3 (fv (f9 (K:=K)) Y7 eI) (fv (f9 (K:=K)) Y7 eI) Y4)))))) (fg (fk eB)) fN) (fe (fq 5 (fc fV (fv (f9 (K:=K)) Y7 eI) eI) Um.nd) (fg (fq 6 (fv (f9 (K:=K)) Y7 eI) Um.nd))))) PassesOwn.never) (fg (fk (hV gb Y5 (fc fV Y2 eI))))))),?_⟩
 extract_lets;refine⟨(),?_⟩;refine⟨(),l,rfl,⟨_,SqL.of hl⟩,l9 (K:=K) (a:=l) (xs:=us) (λi σ Hc=>∃(at_:Int) (w':List Nat) (v7:Option V),σ=[some (.ref s0),some (.int b),some (.int e),some (.ref l),some (.bl true),some (.int at_),some (.str (Tx w')),v7]/\Same H Hc/\jB (fu ns0) (fu ns1) (fu ns3) kd kw at_ (sts.drop i) (e+1)/\p6 (sts.drop i)≠some w') ⟨b,[],(),Same.refl _,hcv,aDG hcv⟩ (λi σ Hc _ ⟨_,_,_,_,z,_⟩=>SqL.of (z _ _ hl)) ?turn ?done⟩
 case done=>
  rintro σ Hc ⟨at_,w',v7,rfl,sc,cv,_⟩;rw[oa hP,List.drop_length] at cv;have e1:e+1=at_:=cv;have z:=q Hc sc;rw[show true=decide (V.int at_=V.int (e+1)) from (eY (by rw[e1])).symm] at z;exact⟨(),(),(()),rfl,z⟩
 case turn=>
  rintro i x σ Hc hx ⟨at_,w',v7,rfl,sc,cv,hw⟩;obtain⟨z,hz,t,rfl,ht0⟩:=yX hP hx;have ht:=sc _ _ ht0;have hdr:sts.drop i=z::sts.drop (i+1):=by
   have hi:=(cC.mp hz).1;rw[List.drop_eq_getElem_cons hi,(cC.mp hz).2]
  rw[hdr] at cv hw;obtain⟨c1,c2,c3,c4,c5,c6,c7⟩:=cv;have hw:¬z.2.2=w':=λy=>hw (by show some z.2.2=some w';rw[y]);refine⟨(),t,z.1,z.2.1,z.2.2,rfl,ht,(),hX rfl ⟨(),t,_,(()),SqT.of (ht),rfl,(),rfl,(),ol (λc=>absurd c1 c) (λ_=>⟨(),t,_,(()),SqT.of (ht),rfl,(),(()),(),gn (λc=>absurd c ⋯) (λ_=>⟨(),t,_,(()),SqT.of (ht),rfl,(),rfl,(),je (λc=>absurd c hw) (λ_=>?_)⟩)⟩)⟩⟩;refine⟨(),(),t,_,(()),SqT.of (ht),rfl,(),t,_,(()),SqT.of (ht),rfl,(),t,_,(()),SqT.of (ht),rfl,(),s0,ns0,ns1,ns3,kd,kw,z.1,z.2.1,z.2.2,rfl,hL.keep sc,c2,c3,hH,λH1 s1=>⟨(),hX rfl ?_⟩⟩
  refine⟨(),t,_,(()),SqT.of (s1 _ _ ht),rfl,(()),?_⟩;exact⟨(),t,_,(()),SqT.of (s1 _ _ ht),rfl,_,_,(),sc.trans s1,c7,c6⟩
theorem Ka:Dx P w base ZZ.c7 5 (Va K):=by
 refine ZZ.c7.dfs Uf (by trivial) ?_;rintro f _ _ _ s H _ Q E hr⟨s0,x0,x1,x2,v3,v5,Mn,kd,kw,ns,rfl,hs,hMn,hns,hlen,h3,h5,q⟩;refine⟨_,(fe (iw (lE (K:=K) (gM uj ZZ.ev PyProof.Rows.boot_sorted (A1 (gT uA ZZ.e4 PyProof.Rows.boot_set (A1 (fv (f9 (K:=K)) Y0 eI)))))) (gN 1 Uf.nd) (fe (fq 2 (gB (A1 (fv (gv (K:=K)) (gB (qx [31,28,31,30,31,30,31,31,30,31,30,31])) (fc gm Y1 eI)))) Uf.nd) (ke (fJ (fG gb Y1 eI) (fg (fq 2 (gB (A2 eI eI)) Uf.nd)) fN) (fg (iw (lE (K:=K) Y2) (gN 3 Uf.nd) (fg (iw (lO ZZ.aa (A1 eI)) (gN 4 Uf.nd) (fg (iw (sx ZZ.aa (A2 eI (fc fV Y3 eI))) (gN 5 Uf.nd) (fg (fJ (gL (eD (Ef ZZ) hr (aC Y0 (A3 Y5 Y3 Y4)))) (fg (fk eB)) fN)) PassesOwn.never)) PassesOwn.never)) PassesOwn.never)))) PassesOwn.never) (fg (fk eB))),?_⟩
 extract_lets;refine⟨(),s0,_,(()),SqT.of (hs),rfl,Mn,ns,rfl,SqL.of hMn,⋯,λS0 hS0=>⟨S0,ns,rfl,fh,(λx hx=>by have:=hns x hx;omega),λDD zs hD hpw hmem=>?_⟩⟩;refine⟨DD,rfl,⟨_,SqL.of fh⟩,l9 (K:=K) (a:=DD) (xs:=zs.map V.int) (λi σ H2=>∃v1 v2 v3' v4 v5':Option V,σ=[some (.ref s0),v1,v2,v3',v4,v5']/\Same H H2/\H2 DD=some (.lst (zs.map V.int))/\pK (zs.take i) kd kw) ⟨_,_,_,_,(),(fj hS0 _).trans (fj hD _),fh,λm hm=>nomatch hm⟩ (λi σ H2 _ ⟨_,_,_,_,_,_,_,z,_⟩=>SqL.of z) ?turn ?done⟩
 case done=>
  rintro σ H2 ⟨v1,v2,v3',v4,v5',rfl,s2,_,hN⟩;rw[aR,cQ] at hN;exact q true H2 s2 ⟨λ_ m hm=>hN m ((hmem m).mpr hm),λ_=>rfl⟩
 case turn=>
  rintro i x σ H2 hx ⟨v1,v2,v3',v4,v5',rfl,s2,hz,hN⟩;rw[bC] at hx;obtain⟨m,em,rfl⟩:∃m,zs[i]? =some m/\V.int m=x:=by
   cases ez:zs[i]? with
   |none=>rw[ez] at hx;cases hx
   |some m=>rw[ez] at hx;exact⟨m,rfl,aZ hx⟩
  have hmn:m∈ns:=(hmem m).mp (bU em);have hm12:=hns m hmn;refine⟨(zL 12),λL1 h1=>⟨(),(()),L1,_,(()),SqL.of fh,rY hm12.1 hm12.2,(zL 1),λL2' h2=>?_⟩⟩;have s3:=(fj h1 (.lst (lasts.map V.int))).trans (fj h2 (.lst [V.int (lasts.getD (m-1).toNat 0)]));refine⟨(λσ' H'=>∃E:Addr,σ'=[some (.ref s0),some (.int m),some (.ref E),v3',v4,v5']/\Same H2 H'/\H' E=some (.lst ((ends m).map V.int))),?_,?_⟩
  ·refine⟨(),rfl,(),gp (λc=>?_) (λc=>?_)⟩
   ·exact⟨(zL 2),λL3 h3'=>⟨L3,rfl,s3.trans (fj h3' _),by unfold ends;rw[if_pos c];exact fh⟩⟩
   ·exact⟨L2',rfl,s3,by unfold ends;rw[if_neg c];exact fh⟩
  rintro σ' H3 ⟨E,rfl,s23,hE⟩;have s03:=s2.trans s23;refine⟨(),E,rfl,⟨_,SqL.of hE⟩,l9 (K:=K) (a:=E) (xs:=(ends m).map V.int) (λj σ Hc=>∃v3' v4 v5':Option V,σ=[some (.ref s0),some (.int m),some (.ref E),v3',v4,v5']/\Same H3 Hc/\∀l∈(ends m).take j,∀f:Nat,f<7->∀d:Nat,d<l.toNat->tb (gg kd kw l f) (d+1)=false) ⟨_,_,(),Same.refl _,λl hl=>nomatch hl⟩ (λj σ Hc _ ⟨_,_,_,_,z,_⟩=>SqL.of (z _ _ hE)) ?tn ?dn⟩
  case dn=>
   rintro σ Hc ⟨w3,w4,w5,rfl,sc,hl⟩;rw[aR,cQ] at hl;refine⟨_,_,_,_,(),s03.trans sc,sc _ _ (s23 _ _ hz),λm' hm'=>?_⟩;rw[b8,em] at hm';rcases bP.mp hm' with z | z
   ·exact hN m' z
   ·obtain rfl:m'=m:=by simpa using z
    exact hl
  case tn=>
   rintro j x σ Hc hx ⟨w3,w4,w5,rfl,sc,hlj⟩;rw[bC] at hx;obtain⟨l,el,rfl⟩:∃l,(ends m)[j]? =some l/\V.int l=x:=by
    cases ez:(ends m)[j]? with
    |none=>rw[ez] at hx;cases hx
    |some l=>rw[ez] at hx;exact⟨l,rfl,aZ hx⟩
   have hle:=bU el;have oi:=MX hm12.1 hm12.2 hle;refine⟨(),by decide,by decide,kE (λg σ Hd=>∃v4 v5':Option V,σ=[some (.ref s0),some (.int m),some (.ref E),some (.int l),v4,v5']/\Same Hc Hd/\∀f:Nat,f<g->∀d:Nat,d<l.toNat->tb (gg kd kw l f) (d+1)=false) ⟨_,(),Same.refl _,λf hf=>absurd hf (dB _)⟩ ?t3 ?d3⟩
   case d3=>
    rintro σ Hd ⟨u4,u5,rfl,sd,hf⟩;refine⟨_,_,(),sc.trans sd,λl' hl'=>?_⟩;rw[b8,el] at hl';rcases bP.mp hl' with z | z
    ·exact hlj l' z
    ·obtain rfl:l'=l:=by simpa using z
     exact hf
   case t3=>
    rintro g σ Hd hg ⟨u4,u5,rfl,sd,hf⟩;have hg7:g<7:=hg;have lf:Lf l (0+(g:Int)):=⟨oi,⋯,⋯⟩;refine⟨(),(()),_,(),⟨by decide,by decide,⋯,⋯⟩,kE (λdd σ He=>∃v5':Option V,σ=[some (.ref s0),some (.int m),some (.ref E),some (.int l),some (.int (0+(g:Int))),v5']/\Same Hd He/\∀d:Nat,d<dd->tb (gg kd kw l g) (d+1)=false) ⟨(),Same.refl _,λd hd=>absurd hd (dB _)⟩ ?t4 ?d4⟩
    case d4=>
     rintro σ He ⟨w',rfl,se,hd⟩;refine⟨_,(),sd.trans se,λf hf' d hd'=>?_⟩;rcases cL f g with z | z
     ·exact hf f z d hd'
     ·rw[show f=g by omega];exact hd d ⋯
    case t4=>
     rintro dd σ He hdd ⟨w',rfl,se,hd⟩;have hdl:dd<(l+1-1).toNat:=hdd;have s0e:=s03.trans (sc.trans (sd.trans se));have ed:(1+(dd:Int)).toNat=dd+1:=⋯;refine⟨(),(),(),(),s0,x0,x1,x2,v3,.ref Mn,v5,kd,kw,1+(dd:Int),l,0+(g:Int),rfl,s0e _ _ hs,h3.keep s0e,h5.keep s0e,lf,⟨⋯,⋯⟩,λHf sf=>⟨(),?_⟩⟩;rw[ed,Int.zero_add];cases c:tb (gg kd kw l (g:Int)) (dd+1) with
     |true=>
      refine gk (q false Hf (s0e.trans sf) ⟨(λz=>by cases z),λz=>?_⟩);have y:=z m hmn l hle g hg7 dd ⋯;rw[c] at y;cases y
     |false=>
      refine gf ⟨(),se.trans sf,λd hd'=>?_⟩;rcases cL d dd with y | y
      ·exact hd d y
      ·rw[show d=dd by omega];exact c
theorem Qr:Dx P w base ZZ.dt 4 (RW K):=by
 refine ZZ.dt.dfs Ui (by trivial) ?_;rintro _ _ _ _ s H _ Q E hr⟨a,c0,c1,c2,c3,c4,bm,rfl,hC,q⟩;refine⟨_,(fe (fq 2 (eD (Ai ZZ) hr (aC (fv (gv (K:=K)) Y0 eI) (A3 eI eI Y1))) Ui.nd) (fe (fq 3 (eD (Ai ZZ) hr (aC (fv (gv (K:=K)) Y0 eI) (A3 eI eI Y1))) Ui.nd) (fe (fq 4 (eD (aqR ZZ) hr (A2 (fv (gv (K:=K)) Y0 eI) Y1)) Ui.nd) (fe (fq 5 (eD (Ai ZZ) hr (aC (fv (gv (K:=K)) Y0 eI) (A3 eI eI Y1))) Ui.nd) (fe (fq 6 (eD (M3 ZZ) hr (A2 (fv (gv (K:=K)) Y0 eI) Y1)) Ui.nd) (fe (fq 7 (eD (pM ZZ) hr (A3 (fc fV (fc ie (fv (gv (K:=K)) Y0 eI) eI) eI) (gB (A3 eI eI eI)) eB)) Ui.nd) (ke (fJ (tW (kA (gL Y1) (kH (fG gb (fv (gv (K:=K)) Y7 eI) eI)))) (fe (fq 5 (gu (A2 (fW [50]) (gB (A1 eI)))) Ui.nd) (fe (fq 4 (gu (A2 (fW [50,57]) (gB (A1 (gu (A3 (fW [110,117,109]) (gB (A1 eI)) eI)))))) Ui.nd) (fe (fq 6 (gu (A2 (fW [42]) eN)) Ui.nd) (fg (fJ (fG gb (fv (gv (K:=K)) Y7 eI) eI) (fe (fq 4 (gu (A2 (fW [42]) eN)) Ui.nd) (fg (fq 6 (gu (A2 (fc jI (gT jD ZZ.ae PyProof.Rows.boot_str (A1 (fv (gv (K:=K)) Y7 eI))) (fW [35,53])) (gB (A1 (gu (A3 (fW [110,116,104]) (fc gs (fv (gv (K:=K)) Y7 eI) eI) eI)))))) Ui.nd))) fN))))) fN) (fe (fq 8 (rh (fW [32]) (gB (aC (fv (f9 (K:=K)) Y2 eI) (aC (fv (f9 (K:=K)) Y3 eI) (A3 (fv (f9 (K:=K)) Y4 eI) (fv (f9 (K:=K)) Y5 eI) (fv (f9 (K:=K)) Y6 eI)))))) Ui.nd) (fg (fk (gu (aC Y8 (aC (fv (f9 (K:=K)) Y2 eI) (aC (fv (f9 (K:=K)) Y3 eI) (A3 (fv (f9 (K:=K)) Y4 eI) (fv (f9 (K:=K)) Y5 eI) (fv (f9 (K:=K)) Y6 eI)))))))))))))))),?_⟩
 extract_lets;refine⟨(),a,_,(()),hC,rfl,(),c0,0,59,bm,rfl,⟨by decide,by decide,by decide⟩,λt0 N0 w0 ns0 H1 s1 h0 hN0 in0 ne0 ln0 f0=>?_⟩;refine⟨(),a,_,(()),s1.seq hC,rfl,(),c1,0,23,bm,rfl,⟨by decide,by decide,by decide⟩,λt1 N1 w1 ns1 H2 s2 h1 hN1 in1 qe ln1 f1=>?_⟩;have s12:=s1.trans s2;refine⟨(),a,_,(()),s12.seq hC,rfl,(),c2,bm,rfl,λt2 w2 v2 kd H3 s3 h2 d2 mv2=>?_⟩;have s13:=s12.trans s3;refine⟨(),a,_,(()),s13.seq hC,rfl,(),c3,1,12,bm,rfl,⟨by decide,by decide,by decide⟩,λt3 N3 w3 ns3 H4 s4 h3 hN3 in3 ne3 ln3 f3=>?_⟩
 have s14:=s13.trans s4;refine⟨(),a,_,(()),s14.seq hC,rfl,(),c4,bm,rfl,λt4 w4 v4 kw H5 s5 h4 d4 mv4=>?_⟩;have s15:=s14.trans s5;have e3:∀z∈([12,2,8]:List Int),0<z/\z<1073741824:=by decide
 refine⟨(),a,_,(()),s15.seq hC,rfl,(()),zD9,(()),(zL 3),λls hls=>⟨_,ls,true,[12,2,8],rfl,SqL.of fh,e3,(by decide),λds rr H6 s6 hrr hd=>?_⟩⟩;obtain⟨r0,er0,_,_⟩:=mU (i:=0) hd rfl;obtain⟨r1,er1,_,_⟩:=mU (i:=1) hd rfl;obtain⟨dq,er2,k0,k1⟩:=mU (i:=2) hd rfl;have s56:=(fj hls (.lst [V.int 12,V.int 2,V.int 8])).trans s6;refine⟨(λσ' H'=>∃(t2' t3' t4' N3':Addr) (w2' w3' w4':List Nat) (v2' v4':V) (ms:List Int) (kd' kw':Ko),σ'=[some (.ref a),some (.bl bm),some (.ref t0),some (.ref t1),some (.ref t2'),some (.ref t3'),some (.ref t4'),some (.ref rr),none]/\Same H6 H'/\(H' t2'=some (.tup [.str (Tx w2'),v2'])/\DT false w2' kd'/\MV H' v2' kd')/\(H' t3'=some (.tup [.str (Tx w3'),.ref N3'])/\H' N3'=some (.lst (ms.map V.int))/\(∀n∈ms,1<=n/\n<=12)/\ms.length<=200/\FT 1 12 w3' (fu ms))/\H' t4'=some (.tup [.str (Tx w4'),v4'])/\DT true w4' kw'/\MV H' v4' kw'),?_,?_⟩
 ·have g2:=(s4.trans (s5.trans s56)) _ _ h2;have g3:=(s5.trans s56) _ _ h3;have gN:=(s5.trans s56) _ _ hN3;have g4:=s56 _ _ h4;have old:∃(t2' t3' t4' N3':Addr) (w2' w3' w4':List Nat) (v2' v4':V) (ms:List Int) (kd' kw':Ko),[some (V.ref a),some (.bl bm),some (.ref t0),some (.ref t1),some (.ref t2),some (.ref t3),some (.ref t4),some (.ref rr),none]=[some (V.ref a),some (.bl bm),some (.ref t0),some (.ref t1),some (.ref t2'),some (.ref t3'),some (.ref t4'),some (.ref rr),none]/\Same H6 H6/\(H6 t2'=some (.tup [.str (Tx w2'),v2'])/\DT false w2' kd'/\MV H6 v2' kd')/\(H6 t3'=some (.tup [.str (Tx w3'),.ref N3'])/\H6 N3'=some (.lst (ms.map V.int))/\(∀n∈ms,1<=n/\n<=12)/\ms.length<=200/\FT 1 12 w3' (fu ms))/\H6 t4'=some (.tup [.str (Tx w4'),v4'])/\DT true w4' kw'/\MV H6 v4' kw':=⟨t2,t3,t4,N3,w2,w3,w4,v2,v4,ns3,kd,kw,rfl,Same.refl _,⟨g2,d2,mv2.keep (s4.trans (s5.trans s56))⟩,⟨g3,gN,in3,ln3,f3⟩,g4,d4,mv4.keep s56⟩
  refine⟨(),(),?_⟩;cases bm with
  |false=>exact gf (gf old)
  |true=>
   refine gk ⟨(),rr,_,(()),SqL.of (hrr),lY er0,rfl,(),gp (λ_=>?_) (λ_=>old)⟩;refine⟨(zL 1),λl1 nn1=>?_⟩;have r1:=fj nn1 (.lst [V.int 2]);have G1:upd H6 l1 (.lst [V.int 2]) l1=some (.lst [V.int 2]):=fh;generalize upd H6 l1 (.lst [V.int 2])=E1 at r1 G1 ⊢;refine⟨(zL 2),λt3' nn2=>?_⟩;have r2:=fj nn2 (.tup [.str (Tx [50]),.ref l1]);have G2:upd E1 t3' (.tup [.str (Tx [50]),.ref l1]) t3'=some (.tup [.str (Tx [50]),.ref l1]):=fh
   generalize upd E1 t3' (.tup [.str (Tx [50]),.ref l1])=E2 at r2 G2 ⊢;refine⟨(zL 1),λl2 nn3=>?_⟩;have r3:=fj nn3 (.lst [V.int 29]);have G3:upd E2 l2 (.lst [V.int 29]) l2=some (.lst [V.int 29]):=fh;generalize upd E2 l2 (.lst [V.int 29])=E3 at r3 G3 ⊢;refine⟨(zL 3),λu2 nn4=>?_⟩;have r4:=fj nn4 (.tup [.str (Tx [110,117,109]),.ref l2,.int 0]);have G4:upd E3 u2 (.tup [.str (Tx [110,117,109]),.ref l2,.int 0]) u2=some (.tup [.str (Tx [110,117,109]),.ref l2,.int 0]):=fh
   generalize upd E3 u2 (.tup [.str (Tx [110,117,109]),.ref l2,.int 0])=E4 at r4 G4 ⊢;refine⟨(zL 1),λl3 nn5=>?_⟩;have r5:=fj nn5 (.lst [V.ref u2]);have G5:upd E4 l3 (.lst [V.ref u2]) l3=some (.lst [V.ref u2]):=fh;generalize upd E4 l3 (.lst [V.ref u2])=E5 at r5 G5 ⊢;refine⟨(zL 2),λt2' nn6=>?_⟩;have r6:=fj nn6 (.tup [.str (Tx [50,57]),.ref l3]);have G6:upd E5 t2' (.tup [.str (Tx [50,57]),.ref l3]) t2'=some (.tup [.str (Tx [50,57]),.ref l3]):=fh
   generalize upd E5 t2' (.tup [.str (Tx [50,57]),.ref l3])=E6 at r6 G6 ⊢;refine⟨(zL 2),λt4' nn7=>?_⟩;have r7:=fj nn7 (.tup [.str (Tx [42]),.non]);have G7:upd E6 t4' (.tup [.str (Tx [42]),.non]) t4'=some (.tup [.str (Tx [42]),.non]):=fh;generalize upd E6 t4' (.tup [.str (Tx [42]),.non])=E7 at r7 G7 ⊢;have in2:∀n∈[(2:Int)],1<=n/\n<=12:=λn hn=>by rw[bJ.mp hn];decide
   have mv29:∀{H':Hp},Same E7 H'->MV H' (.ref l3) (some [.num (fu [29])]):=λ{H'} s=>.inr ⟨l3,(()),s _ _ (r7 _ _ (r6 _ _ (G5))),.cons ⟨u2,_,_,(),s _ _ (r7 _ _ (r6 _ _ (r5 _ _ (G4)))),rfl,l2,[29],rfl,s _ _ (r7 _ _ (r6 _ _ (r5 _ _ (r4 _ _ (G3))))),rfl,λn hn=>by rw[bJ.mp hn];decide⟩ .nil,λk hk=>by rw[bJ.mp hk];exact (jK [29]:(0:Int)<=fu [29])⟩;refine⟨(),rr,_,(()),SqL.of ((((((((r1.trans r2).trans r3).trans r4).trans r5).trans r6).trans r7)) _ _ hrr),lY er1,rfl,(),gp (λ_=>?_) (λ_=>⟨t2',t3',t4',l1,[50,57],[50],[42],_,_,[2],_,(),((((((r1.trans r2).trans r3).trans r4).trans r5).trans r6).trans r7),⟨r7 _ _ (G6),Pi,mv29 (Same.refl _)⟩,⟨r7 _ _ (r6 _ _ (r5 _ _ (r4 _ _ (r3 _ _ (G2))))),r7 _ _ (r6 _ _ (r5 _ _ (r4 _ _ (r3 _ _ (r2 _ _ (G1)))))),in2,(by decide),Ei⟩,G7,rq true,.inl ⟨rfl,rfl⟩⟩)⟩
   have sm:=oj (z:=dq) ⋯ ⋯;refine⟨(zL 2),λt2'' nn8=>?_⟩;have r8:=fj nn8 (.tup [.str (Tx [42]),.non]);have G8:upd E7 t2'' (.tup [.str (Tx [42]),.non]) t2''=some (.tup [.str (Tx [42]),.non]):=fh;generalize upd E7 t2'' (.tup [.str (Tx [42]),.non])=E8 at r8 G8 ⊢;refine⟨(),rr,_,(()),SqL.of (r8 _ _ ((((((((r1.trans r2).trans r3).trans r4).trans r5).trans r6).trans r7)) _ _ hrr)),lY er2,dq.toNat,sm.2.1,sm.1,(()),(by rw[eT];show _+2<=_;have:=sm.2.2.1;omega),(),rr,_,(()),SqL.of (r8 _ _ ((((((((r1.trans r2).trans r3).trans r4).trans r5).trans r6).trans r7)) _ _ hrr)),lY er2,(()),zP9,(zL 3),λu3 nn9=>?_⟩
   have r9:=fj nn9 (.tup [.str (Tx [110,116,104]),.int (dq%7),.int 5]);have G9:upd E8 u3 (.tup [.str (Tx [110,116,104]),.int (dq%7),.int 5]) u3=some (.tup [.str (Tx [110,116,104]),.int (dq%7),.int 5]):=fh;generalize upd E8 u3 (.tup [.str (Tx [110,116,104]),.int (dq%7),.int 5])=E9 at r9 G9 ⊢;refine⟨(zL 1),λl4 nn10=>?_⟩;have r10:=fj nn10 (.lst [V.ref u3]);have G10:upd E9 l4 (.lst [V.ref u3]) l4=some (.lst [V.ref u3]):=fh
   generalize upd E9 l4 (.lst [V.ref u3])=E10 at r10 G10 ⊢;refine⟨(zL 2),λt4'' nn11=>?_⟩;have r11:=fj nn11 (.tup [.str (Tx (num dq.toNat++[35,53])),.ref l4]);have G11:upd E10 t4'' (.tup [.str (Tx (num dq.toNat++[35,53])),.ref l4]) t4''=some (.tup [.str (Tx (num dq.toNat++[35,53])),.ref l4]):=fh;generalize upd E10 t4'' (.tup [.str (Tx (num dq.toNat++[35,53])),.ref l4])=E11 at r11 G11 ⊢;exact⟨t2'',t3',t4'',l1,[42],[50],_,_,_,[2],_,(),(((((((r1.trans r2).trans r3).trans r4).trans r5).trans r6).trans r7)).trans ((((r8.trans r9).trans r10).trans r11)),⟨r11 _ _ (r10 _ _ (r9 _ _ (G8))),rq false,.inl ⟨rfl,rfl⟩⟩,⟨((((r8.trans r9).trans r10).trans r11)) _ _ (r7 _ _ (r6 _ _ (r5 _ _ (r4 _ _ (r3 _ _ (G2)))))),((((r8.trans r9).trans r10).trans r11)) _ _ (r7 _ _ (r6 _ _ (r5 _ _ (r4 _ _ (r3 _ _ (r2 _ _ (G1))))))),in2,(by decide),Ei⟩,G11,Kw k0 k1,.inr ⟨l4,(()),r11 _ _ (G10),.cons ⟨u3,_,_,(),r11 _ _ (r10 _ _ (G9)),rfl,rfl,rfl⟩ .nil,λk hk=>by rw[bJ.mp hk];exact⟨⟨⋯,⋯⟩,by decide,by decide⟩⟩⟩
 rintro σ' H7 ⟨t2',t3',t4',N3',w2',w3',w4',v2',v4',ms,kd',kw',rfl,s7,⟨g2,d2',mv2'⟩,⟨g3,gN,inm,lnm,f3'⟩,g4,d4',mv4'⟩;have s57:=s56.trans s7;have s27:=s3.trans (s4.trans (s5.trans s57));have g0:=(s2.trans s27) _ _ h0;have g1:=s27 _ _ h1;refine⟨rfl,(),t0,_,(()),SqT.of (g0),rfl,(),t1,_,(()),SqT.of (g1),rfl,(),t2',_,(()),SqT.of (g2),rfl,(),t3',_,(()),SqT.of (g3),rfl,(),t4',_,(()),SqT.of (g4),rfl,(zL 5),λL hL=>?_⟩
 have sL:=fj hL (.lst [V.str (Tx w0),V.str (Tx w1),V.str (Tx w2'),V.str (Tx w3'),V.str (Tx w4')]);refine⟨32,L,[w0,w1,w2',w3',w4'],rfl,rfl,SqL.of fh,?len,?_⟩
 case len=>
  have:=f0.len;have:=f1.len;have:=f3'.len;have:=d2'.2.1.len;have:=d4'.2.1.len;show (w0++32::(w1++32::(w2'++32::(w3'++32::w4')))).length<=1000000;simp only[aY,bZ];omega
 refine⟨(),(),t0,_,(()),SqT.of (sL _ _ g0),rfl,(),t1,_,(()),SqT.of (sL _ _ g1),rfl,(),t2',_,(()),SqT.of (sL _ _ g2),rfl,(),t3',_,(()),SqT.of (sL _ _ g3),rfl,(),t4',_,(()),SqT.of (sL _ _ g4),rfl,(zL 6),λt ht=>?_⟩;have sT:=sL.trans (fj ht (.tup [.str (Tx (gK 32 [w0,w1,w2',w3',w4'])),.ref N0,.ref N1,v2',.ref N3',v4']));have l60:=vJ (n:=60) (λz hz=>by have:=in0 z hz;omega);have l24:=vJ (n:=24) (λz hz=>by have:=in1 z hz;omega)
 exact q t w0 w1 w2' w3' w4' ns0 ns1 ms kd' kw' _ (s15.trans (s57.trans sT)) ⟨_,_,_,_,_,fh⟩ ⟨_,_,_,N0,N1,N3',fh,sT _ _ ((s2.trans s27) _ _ hN0),sT _ _ (s27 _ _ hN1),sT _ _ gN,mv2'.keep sT,mv4'.keep sT,in0,in1,inm⟩ ⟨ne0,qe,lnm⟩ f0 f1 f3' d2' d4' ⟨l60,l24⟩
theorem Rz:Dx P w base ZZ.c8 10 (KW K):=by
 refine ZZ.c8.dfs MU (by trivial) ?_;rintro _ _ _ _ s H _ Q E hr⟨s0,ns0,ns1,ns3,kd,kw,mo,v,l,us,rfl,hL,hln,hl,hor,q⟩;refine⟨_,(fe (fJ (fG iZ Y2 eN) (fg (fk (j5 (hV (wY hr.units) Y3 (gB aN)) (jm (eD (Ka ZZ) hr (A1 Y0)))))) fN) (fe (fJ (tW (iF (iR (gL (eD (zW ZZ) hr (A1 Y2)))) (iF (fG jR Y2 Y1) (jp (fG jR (gM (k6 (K:=K)) ZZ.ag PySem.boot_len (A1 Y3)) eI))))) (fg (fk eB)) fN) (fe (fJ (fG jV (eD (Dc ZZ) hr (A2 Y0 Y2)) (fW [110,111,110,101])) (fg (fk eB)) fN) (fg (fk (eD (PH ZZ) hr (aC Y0 (aC (fc fV Y2 eI) (A3 Y1 Y3 eB))))))))),?_⟩
 extract_lets;obtain⟨x0,v3,v5,a0,a1,a3,hs,h0,h1,h3,hv3,hv5,b0,b1,b3⟩:=id hL;refine⟨(),rfl,(),?_⟩;rcases hor with ⟨rfl,rfl,hN⟩ | ⟨e,sts,rfl,hme,hlen,hP,hcv,hH⟩
 ·refine gn (λ_=>?_) (λc=>absurd rfl c);refine⟨(),(zL 0),λl0 n0=>?_⟩;have s1:=fj n0 (.lst []);refine⟨l,l0,[],rfl,rfl,SqL.of (s1 _ _ hl),SqL.of fh,(),jM (eY rfl) ?_⟩;refine⟨(),s0,x0,.ref a0,.ref a1,v3,v5,a3,kd,kw,ns3,rfl,s1 _ _ hs,s1 _ _ h3,b3,hln,hv3.keep s1,hv5.keep s1,λb H1 s2 hb=>?_⟩;obtain rfl:b=true:=hb.mpr hN;exact q _ (s1.trans s2)
 refine gn (λc=>by cases c) (λ_=>?_);refine⟨(),e,rfl,(),hX rfl ⟨(),(),(()),(),gn (λc=>absurd c ⋯) (λ_=>⟨(),l,(),.inl (SqL.of hl),(()),(),gn (λc=>absurd c ⋯) (λ_=>?_)⟩)⟩⟩;refine⟨(),(),s0,ns0,ns1,ns3,kd,kw,e,rfl,hL,λy m k H1 ok ed s1=>?_⟩;rw[Ga hH.hn hH.hb hH.hg hH.ev y m k ok ed];refine⟨rfl,(),?_⟩;show if (!decide (V.str (Tx [110,111,110,101])=V.str (Tx [110,111,110,101])))=true then _ else _
 refine m7 (λc=>absurd rfl c) (λ_=>?_);have hP1:Paired (kZ H1) us sts:=Paired.mapP hP λ_ _ z=>pV (λb xs hb=>s1 _ _ hb) z;exact⟨(),(),(()),(),(),s0,ns0,ns1,ns3,kd,kw,e+1,mo,l,us,sts,rfl,hL.keep s1,s1 _ _ hl,hP1,hcv,⟨e,hH⟩,λH2 s2=>q H2 (s1.trans s2)⟩
theorem Vu{fL:Addr}{fdL:FuncData}(F:Fun K "law" "law" (top 140) fL fdL):gD P w K mg base jj 12 fL fdL ["_law_script"] (rV K aK aL):=by
 refine F.oks Uz (by trivial) ?_;rintro _ _ _ s H _ Q E hr⟨a,ns,rfl,hS,hlen,hT,q⟩;refine⟨_,(fe (fq 1 (hV gb (fc gs (eD (DY ZZ) hr (A2 Y0 eI)) eI) eI) Uz.nd) (fe (iw (lO ZZ.aa (A1 eI)) (gN 2 Uz.nd) (fe (Bf 3 ["_law_script","_law_k"] [0,2] (lO ZZ.aa (A1 eI)) (λ_ _ _ _ _ _=>nL) (λ_ _ _ _ _ _=>(eD (DY ZZ) hr (A2 Y1 (fc fV (fc fV eI (fc ii eI Y2)) Y0)))) Uz.nd) (fe (fq 4 (eD (Qr ZZ) hr (A2 (mq (oy (K:=K)) Y3 oJ (kW eI)) Y1)) Uz.nd) (fe (fq 5 (eD (Nh ZZ) hr (A2 (fv (gv (K:=K)) Y3 eI) Y1)) Uz.nd) (fe (fq 6 (eD (LA ZZ) hr (A2 (eD (WS ZZ) hr (A1 (fv (f9 (K:=K)) Y4 eI))) Y5)) Uz.nd) (fe (fJ (tW (iF (iR (gL (gM nJ ZZ.ab PyProof.Rows.boot_isinstance (A2 Y6 (lx ZZ.b5 PyProof.Rows.boot_tuple))))) (iF (fG jV (gM (k6 (K:=K)) ZZ.ag PySem.boot_len (A1 Y6)) eI) (jp (iR (gL (gM nJ ZZ.ab PyProof.Rows.boot_isinstance (A2 (fv (f9 (K:=K)) Y6 eI) (lx ZZ.an PyProof.Rows.boot_list))))))))) (fg (fk eB)) fN) (fg (fJ (iR (gL (eD (Rz ZZ) hr (aC Y4 (A3 Y5 (fv (f9 (K:=K)) Y6 eI) (fv (f9 (K:=K)) Y6 eI)))))) (fg (fk eB)) fN))))))) PassesOwn.never) (fg (fk eB)))),?_⟩
 extract_lets;refine⟨(),a,(),⟨ns,hS⟩,zD9,λc0=>⟨(()),zP9,rfl,?_⟩⟩;obtain⟨bm,ebm⟩:∃bm,bm=decide (V.int (c0%2)=V.int 1):=⟨()⟩;show i7 1 (V.bl (decide (V.int (c0%2)=V.int 1))) _ _ _;rw[←ebm];refine⟨(),by decide,by decide,kE (λi σ H2=>∃v2 v3 v4 v5 v6:Option V,σ=[some (.ref a),some (.bl bm),v2,v3,v4,v5,v6]/\SameN H H2/\m8 H2 aK aL) ⟨_,_,_,_,(),kJ (Same.refl _),hT⟩ ?turn ?done⟩
 case done=>
  rintro σ H2 ⟨v2,v3,v4,v5,v6,rfl,_⟩;exact q H2
 case turn=>
  rintro i σ H2 hi ⟨v2,v3,v4,v5,v6,rfl,sN,hT2⟩;have hi2:i<2:=hi;refine⟨(),by decide,by decide,qm (λi z=>∃cs:List Int,cs.length=i/\z=cs.map V.int) (zL 6) ⟨[],rfl,rfl⟩ ?st ?dn⟩
  case st=>
   rintro j z D H3 E' F' hj ⟨cs,hl,rfl⟩ hD s3 hz hE hF;have hj':j<6:=hj;exact⟨(),(),(()),.inl zD9,(()),(),(()),a,(),⟨ns,s3.seq (Np sN hS)⟩,⟨⋯,⋯⟩,λc=>hE _ _ (Same.refl _) ⟨cs++[c],by rw[aY,hl];rfl,by rw[bB];rfl⟩⟩
  case dn=>
   rintro C H3 z ⟨cs,hl,rfl⟩ hD s3 hz;obtain⟨x0,x1,x2,x3,x4,x5,rfl⟩:∃x0 x1 x2 x3 x4 x5:Int,cs=[x0,x1,x2,x3,x4,x5]:=by
    match cs,hl with
    |[x0,x1,x2,x3,x4,x5],_=>exact⟨_,_,_,_,_,()⟩
   refine⟨(),(),C,(),SqL.of hz,λpc hpc=>?_⟩;have s4:=fj hpc (.lst [V.int x0,V.int x1,V.int x2,V.int x3,V.int x4]);refine⟨(),pc,x0,x1,x2,x3,x4,bm,rfl,SqL.of fh,λt w0 w1 w2 w3 w4 ns0 ns1 ns3 kd kw H5 s5 ⟨y1,y2,y3,y4,y5,ht⟩ hL ⟨ne0,qe,hln⟩ f0 f1 f3 d2 d4 hb=>?_⟩;have s35:=s4.trans s5;refine⟨(),C,_,(()),SqL.of (s35 _ _ hz),rfl,(),x5,bm,rfl,λmo H6 s6=>?_⟩;refine⟨(),t,_,(()),SqT.of (s6 _ _ ht),rfl,w0,w1,w2,w3,w4,fu ns0,fu ns1,fu ns3,kd,kw,rfl,f0,f1,f3,d2,d4,hb,λx dx dv wv tm H7 htm s7 hx hdv hwv=>?_⟩
   subst htm;have s27:Same H2 H7:=s3.trans (s35.trans (s6.trans s7));have hR:RowR (⟨aB,aE,aF,aH,aD,aA,aG,aI⟩:Cs) aJ H7 x (fu ns0) (fu ns1) (fu ns3) (gO false kd) (gO true kw):=⟨dx,dv,wv,hx,⟨f0.nn,f1.nn,f3.nn⟩,⟨hb.2,hb.1⟩,hdv,hwv⟩;refine⟨(),x,mo,fu ns0,fu ns1,fu ns3,gO false kd,gO true kw,rfl,hR,AM s27 hT2,λt1 l1 us1 H8 v1 s8 T8 fr1 h1 hl1 c1=>?_⟩;refine⟨(),.ref t1,.tuple,.tuple,rfl,(by decide),.inr (.inl ⟨rfl,_,SqT.of h1⟩),(),hX rfl ⟨(),t1,(),.inr (SqT.of h1),rfl,(),ol (λc=>absurd rfl c) (λ_=>⟨(),t1,_,(()),SqT.of h1,rfl,.ref l1,.list,.list,rfl,(by decide),.inl ⟨rfl,_,SqL.of hl1⟩,(),hX rfl ?_⟩)⟩⟩
   have hL7:=hL.keep (s6.trans s7);have hA:=hL7.all;have nn:0<=fu ns0/\0<=fu ns1/\0<=fu ns3:=⟨f0.nn,f1.nn,f3.nn⟩;refine⟨(),(),(),t1,_,(()),SqT.of h1,rfl,(),t1,_,(()),SqT.of h1,rfl,t,ns0,ns1,ns3,kd,kw,mo,v1,l1,us1,rfl,hL7.keepN s8,hln,hl1,?_,λH9 s9=>⟨(),hX rfl ⟨_,_,_,_,(),(sN.trans (kJ s27)).trans (s8.trans (kJ s9)),AM s9 T8⟩⟩⟩;rcases c1 with ⟨e1,rfl,he1,⟨a1,a2⟩,_,sz1,sts1,hP1,cv1⟩ | ⟨rfl,rfl,hno1⟩
   ·have hH:Hit (fu ns0) (fu ns1) (fu ns3) kd kw e1:=⟨nn,⟨hb.2,hb.1⟩,yx nn.2.1 hb.2 nn.1 hb.1,hA.1.1,hA.1.2,(vg d2 d4).mp he1⟩;have cv:=BB d2 d4 cv1;have ln:=KA hH (λt' u1 u2 z=>a2 t' ⋯ ⋯ ((vg d2 d4).mpr z)) cv;exact .inr ⟨e1,sts1,rfl,a1,by rw[oa hP1];exact ln,hP1,cv,hH⟩
   ·exact .inl ⟨rfl,rfl,YA ne0 qe hA.2.1 hA.2.2.1 hA.2.2.2 ⟨hb.2,hb.1⟩ hA.1.1 hA.1.2 λt' z=>hno1 t' ((vg d2 d4).mpr z)⟩
end
theorem all_mk{l:PySem.W.OpenLaw}{w:World}{K:FG}{h:Heap}{mg:Str->Option Value}{fa f:Addr}{aI aB aE aF aH aD aA aG aJ aO aM aP aK aL a_MONTH_LASTS a_BOUNDS a_BOUNDS_0 a_BOUNDS_1 a_BOUNDS_3:Addr}{t_ROUND_DAYS t_ROUND_YEARS t_LONG_PLACE t_DAY_MINUTES t_HOUR_MINUTES t_FIGURES t_MOST_STRIDE t_MOST_SIGNS t_MOST_ITEMS t_SATURDAY t_SUNDAY t_MOST_BACK t_MOST_DAY t_SUNDAY_TOO t_MOST_NTH t_MOST_MARKS t_ALL_WEEKDAYS t_LONG_LAST t_SHORT_YEAR t_MINUTE t_HOUR t_DAY t_MONTH t_WEEKDAY t_MOST_ROW_SIGNS t_NO_PLACE t_MOST_MONTHS t_MOST_MONTH_MINUTES:Tok}{oc kV dc pm cd ct:Value}{od an:Option Addr}{sl:Array (Option Value)}(X:K.In h)(G:h.Ns mainGlobals mg)(hfa:mg "law"=some (.ref fa))(ZZ:Fs K mg aI aB aE aF aH aD aA aG aJ aO aM aP aK aL a_MONTH_LASTS a_BOUNDS a_BOUNDS_0 a_BOUNDS_1 a_BOUNDS_3 t_ROUND_DAYS t_ROUND_YEARS t_LONG_PLACE t_DAY_MINUTES t_HOUR_MINUTES t_FIGURES t_MOST_STRIDE t_MOST_SIGNS t_MOST_ITEMS t_SATURDAY t_SUNDAY t_MOST_BACK t_MOST_DAY t_SUNDAY_TOO t_MOST_NTH t_MOST_MARKS t_ALL_WEEKDAYS t_LONG_LAST t_SHORT_YEAR t_MINUTE t_HOUR t_DAY t_MONTH t_WEEKDAY t_MOST_ROW_SIGNS t_NO_PLACE t_MOST_MONTHS t_MOST_MONTH_MINUTES)
  (a:PySem.W.nsIn K mainGlobals "law"=some (some (.ref f))) (lk:K.lookup f=some ⟨oc,od,.func (PySem.W.fnOf "law" "law" (ji (top 140)) (iM (top 140)) (ft (top 140)) .none kV dc pm an cd ct),sl⟩) (c:PySem.W.codeIn K cd "law"=true) (k:PySem.W.keepIn K (.ref f)=true):
  ∃fd:FuncData,(∀(s:Shared) (v:Value),BindsTo s fd ⟨[v],[]⟩ [("_law_script",v)])/\∀base:Heap,K.In base->base.Ns mainGlobals mg->gD l.prog w K mg base jj 12 fa fd ["_law_script"] (rV K aK aL):=by
 cases hfa.symm.trans (PySem.W.mg_of X G a);exact⟨_,λs v=>.of_eq rfl,λbase _ _=>Vu ZZ (rG (st:=(top 140)) lk c k)⟩
theorem walk{l:PySem.W.OpenLaw}{q:Program}{loose:List Str}{XP:(Str->Option Value)->Heap->Prop}{YP:World->Heap->Prop}{d:DefRec}{K:Params->FG}{tN bm:Addr}(hn:l.most=some 63)(hdf:d.params.defaults=[])
  (hY:∀(w:World) (h:Heap),YP w h->(K w.params).In h)
  (hTb:∀(w:World) (h:Heap) (mean:ExcName->Option Value) (mg mb:Str->Option Value),(K w.params).In h->Top q (PySem.W.looseW q loose) mean mg mb h->∀b∈[tN],(isCodeTable h b/\h.get? b=some (PySem.W.tabObj #[]))/\(K w.params).lookup b=none)
  (hBm:∀(w:World) (h:Heap) (mg:Str->Option Value),(K w.params).In h->h.Ns mainGlobals mg->mg "__builtins__"=some (.ref bm)/\(K w.params).lookup bm=none)
  (F:∀(w:World) (mg:Str->Option Value) (fa:Addr) (h:Heap),(K w.params).In h->h.Ns mainGlobals mg->mg d.name=some (.ref fa)->
   ∃fd:FuncData,(∀(s:Shared) (u:Value),BindsTo s fd ⟨[u],[]⟩ [("_law_script",u)])/\∀base:Heap,(K w.params).In base->base.Ns mainGlobals mg->gD l.prog w (K w.params) mg base jj 12 fa fd ["_law_script"] (rV (K w.params) tN bm)):
  PySem.W.WalkO q loose XP YP l.row.toRowW d [] (λf vs=>PySem.call f vs):=
 L2.walk_ofT (n:=63) (k:=12) (x:="_law_script") (tabs:=λ_=>[tN]) (sp:=λw=>rV (K w.params) tN bm) hn (by decide) hdf ⟨rfl,by decide,by decide⟩ hY hTb hBm F λ_ _ a ns hl hO hS=>⟨a,ns,rfl,hS,hl,⟨.inl (hO.1 _ bF),hO.2.2⟩,λ_=>rfl⟩
end K52
open PySem PySem.W PyProof.Rows L2
set_option maxRecDepth 100000 in
set_option maxHeartbeats 0 in
theorem PySem.Challenge.cw_fivefields_k52_last_walked_holds : PySem.Challenge.rw_fivefields_k52_last_walked.Holds := by
 w_on;refine holds_law Hd.ws fun said=>?_;refine Hd.lst said ?hw ?hc;(case hw=>w_witness2)
 k_fill
 refine K52.walk (l:=PySem.Challenge.rw_fivefields_k52_last_walked) (tN:=301) (bm:=4) rfl Hd.h4 (fun w h Y=>PySem.W.kIn_of Y) Hd.tb Hd.tbm ?F
 case F=>
  intro w mg fa h KX G hmg
  rw[Hd.h5] at hmg
  refine' K52.all_mk (aP:=305) (aK:=301) (aL:=4) KX G hmg ⟨
   ⟨PySem.W.mg_of KX G ?_,⟨?_,?_,?_,?_⟩,?_,?_⟩,?_,⟨PySem.W.mg_of KX G ?_,⟨?_,?_,?_,?_⟩,?_,?_⟩,?_,⟨PySem.W.mg_of KX G ?_,⟨?_,?_,?_,?_⟩,?_,?_⟩,?_,⟨PySem.W.mg_of KX G ?_,⟨?_,?_,?_,?_⟩,?_,?_⟩,?_,⟨PySem.W.mg_of KX G ?_,⟨?_,?_,?_,?_⟩,?_,?_⟩,?_,⟨PySem.W.mg_of KX G ?_,⟨?_,?_,?_,?_⟩,?_,?_⟩,?_,⟨PySem.W.mg_of KX G ?_,⟨?_,?_,?_,?_⟩,?_,?_⟩,?_,?_,⟨PySem.W.mg_of KX G ?_,⟨?_,?_,?_,?_⟩,?_,?_⟩,?_,⟨PySem.W.mg_of KX G ?_,⟨?_,?_,?_,?_⟩,?_,?_⟩,?_,?_,?_,?_,?_,?_,PySem.W.mg_of KX G ?_,PySem.W.mg_of KX G ?_,PySem.W.mg_of KX G ?_,K52.q_MONTH_LASTS ?_,PySem.W.mg_of KX G ?_,PySem.W.mg_of KX G ?_,PySem.W.mg_of KX G ?_,PySem.W.mg_of KX G ?_,PySem.W.mg_of KX G ?_,K52.mg_tx (x:="0123456789") KX G (by decide +kernel) ?_,PySem.W.mg_of KX G ?_,PySem.W.mg_of KX G ?_,PySem.W.mg_of KX G ?_,PySem.W.mg_of KX G ?_,PySem.W.mg_of KX G ?_,PySem.W.mg_of KX G ?_,PySem.W.mg_of KX G ?_,PySem.W.mg_of KX G ?_,PySem.W.mg_of KX G ?_,PySem.W.mg_of KX G ?_,PySem.W.mg_of KX G ?_,PySem.W.mg_of KX G ?_,PySem.W.mg_of KX G ?_,PySem.W.mg_of KX G ?_,PySem.W.mg_of KX G ?_,PySem.W.mg_of KX G ?_,PySem.W.mg_of KX G ?_,PySem.W.mg_of KX G ?_,PySem.W.mg_of KX G ?_,K52.q_BOUNDS ?_,K52.q_BOUNDS_0 ?_,K52.q_BOUNDS_1 ?_,K52.q_BOUNDS_3 ?_,PySem.W.mg_of KX G ?_,PySem.W.mg_of KX G ?_,PySem.W.mg_of KX G ?_,PySem.W.mg_of KX G ?_,R6 KX G ?_ ?_ ?_ ?_,PySem.W.mg_none_of KX G ?_,PySem.W.mg_none_of KX G ?_,PySem.W.mg_none_of KX G ?_,PySem.W.mg_none_of KX G ?_,PySem.W.mg_none_of KX G ?_,PySem.W.mg_none_of KX G ?_,PySem.W.mg_none_of KX G ?_,PySem.W.mg_none_of KX G ?_,PySem.W.mg_none_of KX G ?_,PySem.W.mg_none_of KX G ?_,PySem.W.mg_none_of KX G ?_,PySem.W.mg_none_of KX G ?_,PySem.W.mg_none_of KX G ?_,PySem.W.mg_none_of KX G ?_,PySem.W.mg_none_of KX G ?_,PySem.W.mg_none_of KX G ?_,fX KX G ?_ ?_ ?_ ?_ ?_,fX KX G ?_ ?_ ?_ ?_ ?_,fX KX G ?_ ?_ ?_ ?_ ?_,fX KX G ?_ ?_ ?_ ?_ ?_,fX KX G ?_ ?_ ?_ ?_ ?_,fX KX G ?_ ?_ ?_ ?_ ?_,fX KX G ?_ ?_ ?_ ?_ ?_,fX KX G ?_ ?_ ?_ ?_ ?_,fX KX G ?_ ?_ ?_ ?_ ?_,fX KX G ?_ ?_ ?_ ?_ ?_,fX KX G ?_ ?_ ?_ ?_ ?_,fX KX G ?_ ?_ ?_ ?_ ?_,fX KX G ?_ ?_ ?_ ?_ ?_,fX KX G ?_ ?_ ?_ ?_ ?_,fX KX G ?_ ?_ ?_ ?_ ?_,fX KX G ?_ ?_ ?_ ?_ ?_,fX KX G ?_ ?_ ?_ ?_ ?_,fX KX G ?_ ?_ ?_ ?_ ?_,fX KX G ?_ ?_ ?_ ?_ ?_,fX KX G ?_ ?_ ?_ ?_ ?_,fX KX G ?_ ?_ ?_ ?_ ?_,fX KX G ?_ ?_ ?_ ?_ ?_,fX KX G ?_ ?_ ?_ ?_ ?_,fX KX G ?_ ?_ ?_ ?_ ?_,fX KX G ?_ ?_ ?_ ?_ ?_,fX KX G ?_ ?_ ?_ ?_ ?_,fX KX G ?_ ?_ ?_ ?_ ?_,fX KX G ?_ ?_ ?_ ?_ ?_,jn ?_ ?_ ?_ ?_ ?_ ?_,jn ?_ ?_ ?_ ?_ ?_ ?_,jn ?_ ?_ ?_ ?_ ?_ ?_,K52.md_Last___init__ ?_ ?_ ?_ ?_ ?_ ?_,jn ?_ ?_ ?_ ?_ ?_ ?_,jn ?_ ?_ ?_ ?_ ?_ ?_,jn ?_ ?_ ?_ ?_ ?_ ?_,jn ?_ ?_ ?_ ?_ ?_ ?_,jn ?_ ?_ ?_ ?_ ?_ ?_,jn ?_ ?_ ?_ ?_ ?_ ?_,jn ?_ ?_ ?_ ?_ ?_ ?_,jn ?_ ?_ ?_ ?_ ?_ ?_,jn ?_ ?_ ?_ ?_ ?_ ?_,jn ?_ ?_ ?_ ?_ ?_ ?_,fX KX G ?_ ?_ ?_ ?_ ?_,fX KX G ?_ ?_ ?_ ?_ ?_,fX KX G ?_ ?_ ?_ ?_ ?_,fX KX G ?_ ?_ ?_ ?_ ?_,fX KX G ?_ ?_ ?_ ?_ ?_,fX KX G ?_ ?_ ?_ ?_ ?_,fX KX G ?_ ?_ ?_ ?_ ?_,fX KX G ?_ ?_ ?_ ?_ ?_,fX KX G ?_ ?_ ?_ ?_ ?_,fX KX G ?_ ?_ ?_ ?_ ?_,jn ?_ ?_ ?_ ?_ ?_ ?_,jn ?_ ?_ ?_ ?_ ?_ ?_,
   fX KX G ?_ ?_ ?_ ?_ ?_,fX KX G ?_ ?_ ?_ ?_ ?_,fX KX G ?_ ?_ ?_ ?_ ?_,jn ?_ ?_ ?_ ?_ ?_ ?_,fX KX G ?_ ?_ ?_ ?_ ?_,fX KX G ?_ ?_ ?_ ?_ ?_,fX KX G ?_ ?_ ?_ ?_ ?_,fX KX G ?_ ?_ ?_ ?_ ?_,fX KX G ?_ ?_ ?_ ?_ ?_,fX KX G ?_ ?_ ?_ ?_ ?_,fX KX G ?_ ?_ ?_ ?_ ?_,fX KX G ?_ ?_ ?_ ?_ ?_,jn ?_ ?_ ?_ ?_ ?_ ?_,fX KX G ?_ ?_ ?_ ?_ ?_,fX KX G ?_ ?_ ?_ ?_ ?_,NG KX G ?_ ?_ ?_ ?_ ?_,fX KX G ?_ ?_ ?_ ?_ ?_,fX KX G ?_ ?_ ?_ ?_ ?_,fX KX G ?_ ?_ ?_ ?_ ?_,fX KX G ?_ ?_ ?_ ?_ ?_,fX KX G ?_ ?_ ?_ ?_ ?_,fX KX G ?_ ?_ ?_ ?_ ?_,fX KX G ?_ ?_ ?_ ?_ ?_,fX KX G ?_ ?_ ?_ ?_ ?_,fX KX G ?_ ?_ ?_ ?_ ?_,fX KX G ?_ ?_ ?_ ?_ ?_,fX KX G ?_ ?_ ?_ ?_ ?_,fX KX G ?_ ?_ ?_ ?_ ?_,fX KX G ?_ ?_ ?_ ?_ ?_,fX KX G ?_ ?_ ?_ ?_ ?_,fX KX G ?_ ?_ ?_ ?_ ?_,fX KX G ?_ ?_ ?_ ?_ ?_,fX KX G ?_ ?_ ?_ ?_ ?_,fX KX G ?_ ?_ ?_ ?_ ?_,fX KX G ?_ ?_ ?_ ?_ ?_,fX KX G ?_ ?_ ?_ ?_ ?_,fX KX G ?_ ?_ ?_ ?_ ?_,fX KX G ?_ ?_ ?_ ?_ ?_,fX KX G ?_ ?_ ?_ ?_ ?_,fX KX G ?_ ?_ ?_ ?_ ?_,fX KX G ?_ ?_ ?_ ?_ ?_,fX KX G ?_ ?_ ?_ ?_ ?_⟩ ?_ ?_ ?_ ?_
  all_goals try (intro _ _ _ _ _ _ us hl;first | (obtain⟨_,rfl⟩:=Ct hl;rfl) | (obtain⟨_,_,rfl⟩:=BE hl;rfl) | (obtain⟨_,_,_,rfl⟩:=Gc hl;rfl) | (obtain⟨_,_,_,_,rfl⟩:=Hi hl;rfl) | (obtain⟨_,_,_,_,_,rfl⟩:=wu hl;rfl))
  all_goals try decide
  all_goals try (as_aux_lemma=>k_is)
  all_goals try decide
