import PyProof.Rows.All
import Wide.All
import OpenK.AllK
import Wide.FinOn
import HandS.ForMost
import HandS.IsInst
import HandS.Wide
import HandS.Walk
import HandS.Flow
import HandS.AnyAll
import HandS.EndTab
import HandS.Deep
import HandS.Style
import HandS.Conv
import HandS.DictTup
import HandS.SortInts
import KE.DataCmp
import KE.SortData
import KE.BitLaws
import KE.DataFind
import PyProof.ReprRoads
import PyProof.Rows.ReprOcc
import HandS.FStr
import HandS.StrMore
import HandS.Exc
import HandS.ExcInit
import HandS.ExcIs
import HandS.ExcField
import HandS.WordsExc
import HandS.ExcValue
import HandS.SetFor
import HandS.RevRange
import HandS.GenList
import HandS.DictComp
import PyProof.SumAny
import HandS.Star
import HandS.WideBits
import KE.KeyNested
import KE.KDictKeyed
import HandS.Strs
import HandS.CallLocal
import HandS.More
import HandS.RaiseFrom
import HandS.SuiteRaise
import HandS.TryOnly
import HandS.Small
import HandS.ExcInitHot
import KE.GoesRaise
import KE.KExcIs
import PySem.Challenge.RW_packwants_k25_whole_thinned_shops
set_option Elab.async false
set_option linter.all false
set_option maxRecDepth 100000
set_option maxHeartbeats 4000000
namespace Pk
open PySem PySem.Spec PyProof.Rows L2
def topS (i : Nat) : Stmt := PySem.Challenge.pw_packwants_k25_whole_thinned_shops.main.body.getD i (.Pass ⟨0, 0, 0, 0⟩)
/-! ### heaps and plain data -/
theorem same_upd {H : Hp} {p : Addr} {o : HO} (h : H p = none) : Same H (upd H p o) := fun b x e => by
  rw [upd_ne (ne_of_none e h)]
  exact e
/-- all but a is as it was -/
def SameBut (a : Addr) (H H' : Hp) : Prop := ∀ b o, b ≠ a → H b = some o → H' b = some o
theorem SameBut.of {a : Addr} {H H' : Hp} (h : Same H H') : SameBut a H H' := fun b o _ e => h b o e
theorem SameBut.refl (a : Addr) (H : Hp) : SameBut a H H := fun _ _ _ e => e
theorem SameBut.trans {a : Addr} {H H1 H2 : Hp} (h : SameBut a H H1) (k : SameBut a H1 H2) : SameBut a H H2 := fun b o n e => k b o n (h b o n e)
theorem SameBut.upd {a : Addr} {H : Hp} {o : HO} : SameBut a H (upd H a o) := fun b x n e => by
  rw [upd_ne n]
  exact e
theorem SameBut.new {a p : Addr} {H H' : Hp} {o : HO} (h : SameBut a H H') (hp : H p = none) : SameBut a H (L2.upd H' p o) := fun b x n e => by
  rw [upd_ne (ne_of_none e hp)]
  exact h b x n e
/-- what was not there at the start may change -/
theorem sm_new {p : Addr} {H H' : Hp} {o : HO} (h : Same H H') (hp : H p = none) : Same H (L2.upd H' p o) := fun b x e => by
  rw [upd_ne (ne_of_none e hp)]
  exact h b x e
theorem SameBut.free {a p : Addr} {H H' : Hp} (h : SameBut a H H') (n : H' p = none) (ha : H' a ≠ none) : H p = none := by
  cases q : H p with
  | none => rfl
  | some o =>
    by_cases e : p = a
    · subst e
      exact absurd n ha
    · rw [h p o e q] at n
      cases n
/-- a list of ints -/
abbrev LI (ns : List Int) : HO := .lst (ns.map V.int)
theorem dpAll_ints {K : PySem.W.Frag} {H : Hp} : ∀ ns : List Int, DpAll K H (ns.map V.int) (ns.map PyData.int)
  | [] => .nil
  | n :: r => .cons (.int n) (dpAll_ints r)
theorem dp_ints {K : PySem.W.Frag} {H : Hp} {a : Addr} {ns : List Int} (h : SqL K H a (ns.map V.int)) : Dp K H (.ref a) (.list (ns.map PyData.int)) := .lst h (dpAll_ints ns)
theorem lay_ints : ∀ ns : List Int, PyData.canLayAll0 (ns.map PyData.int) = true
  | [] => by simp [PyData.canLayAll0]
  | n :: r => by
    have ih := lay_ints r
    simp [PyData.canLayAll0, PyData.canLay0, ih]
theorem depth_ints : ∀ ns : List Int, PyData.depthAll (ns.map PyData.int) = 0
  | [] => by simp [PyData.depthAll]
  | n :: r => by
    have ih := depth_ints r
    simp [PyData.depthAll, PyData.depth, ih]
theorem shaped_ints (ns : List Int) : SeqAt.shaped (.list (ns.map PyData.int)) = true := by
  unfold SeqAt.shaped
  have h1 : PyData.canLay0 (.list (ns.map PyData.int)) = true := by
    simp only [PyData.canLay0]
    exact lay_ints ns
  have h2 : PyData.depth (.list (ns.map PyData.int)) ≤ 64 := by
    simp only [PyData.depth]
    rw [depth_ints]
    omega
  rw [h1, decide_eq_true h2]
  rfl
theorem eqvAll_ints : ∀ ns ms : List Int, PyData.eqvAll (ns.map PyData.int) (ms.map PyData.int) = decide (ns = ms)
  | [], [] => by simp [PyData.eqvAll]
  | [], _ :: _ => by simp [PyData.eqvAll]
  | _ :: _, [] => by simp [PyData.eqvAll]
  | n :: r, m :: q => by
    have ih := eqvAll_ints r q
    simp only [List.map_cons, PyData.eqvAll, PyData.eqv, ih]
    by_cases h1 : n = m <;> by_cases h2 : r = q <;> simp [h1, h2]
theorem eqv_ints (ns ms : List Int) : PyData.eqv (.list (ns.map PyData.int)) (.list (ms.map PyData.int)) = decide (ns = ms) := by
  simp only [PyData.eqv]
  exact eqvAll_ints ns ms
theorem li_app (ls : List Int) (n : Int) : HO.lst (ls.map V.int ++ [.int n]) = LI (ls ++ [n]) := by
  show _ = HO.lst ((ls ++ [n]).map V.int)
  rw [List.map_append]
  rfl
theorem li_set (ls : List Int) (j : Nat) (n : Int) : HO.lst ((ls.map V.int).set j (.int n)) = LI (ls.set j n) := by
  show _ = HO.lst ((ls.set j n).map V.int)
  rw [List.map_set]
theorem at_app {H : Hp} {a : Addr} {ls : List Int} {n : Int} : upd H a (.lst (ls.map V.int ++ [.int n])) a = some (LI (ls ++ [n])) := by rw [upd_same, li_app]
theorem at_set {H : Hp} {a : Addr} {ls : List Int} {j : Nat} {n : Int} : upd H a (.lst ((ls.map V.int).set j (.int n))) a = some (LI (ls.set j n)) := by rw [upd_same, li_set]
theorem szL {n : Nat} (h : n ≤ 100000) : n ≤ sizeLine := Nat.le_trans h (by decide)
theorem szL' {n : Nat} (h : n ≤ 100000) : n < sizeLine := Nat.lt_of_le_of_lt h (by decide)
theorem get_ints {ns : List Int} {i : Nat} {n : Int} (h : ns[i]? = some n) : (ns.map V.int)[i]? = some (.int n) := by
  rw [List.getElem?_map, h]
  rfl
theorem getD_ints {ns : List Int} {i : Nat} (h : i < ns.length) : (ns.map V.int)[i]? = some (.int ns[i]) := get_ints (List.getElem?_eq_getElem h)
theorem of_get_ints {ns : List Int} {i : Nat} {v : V} (h : (ns.map V.int)[i]? = some v) : ∃ n, ns[i]? = some n ∧ v = .int n := by
  rw [List.getElem?_map] at h
  cases e : ns[i]? with
  | none => rw [e] at h; cases h
  | some n => rw [e] at h; exact ⟨n, rfl, (Option.some.inj h).symm⟩
/-- i % n as a place -/
theorem mod_at {i : Int} {n : Nat} (h : 0 < n) : ∃ j : Nat, j < n ∧ i % (n : Int) = (j : Int) := by
  have h1 : 0 ≤ i % (n : Int) := Int.emod_nonneg i (by omega)
  have h2 : i % (n : Int) < (n : Int) := Int.emod_lt_of_pos i (by omega)
  exact ⟨(i % (n : Int)).toNat, by omega, by omega⟩
theorem ixN_nat {n j : Nat} (h : j < n) : ixN n (j : Int) = some j := by
  unfold ixN
  rw [if_pos (by omega), if_pos (by omega), Int.toNat_natCast]
theorem take_succ_at {α : Type} {l : List α} {i : Nat} {x : α} (h : l[i]? = some x) : l.take (i + 1) = l.take i ++ [x] := by
  rw [List.take_add_one, h]
  rfl
/-- a def of the top: where it stands -/
structure Def (K : PySem.W.Frag) (mg : Str → Option Value) (x : Str) (st : Stmt) (ps : List Str) (f : Addr) (fd : FuncData) : Prop where
  F : Fun K x x st f fd
  g : mg x = some (.ref f)
  b : Binds K fd ps []
/-! ### rules at a written K (for a comprehension's block) -/
section
variable {X : Cx} {K : PySem.W.Frag}
theorem ix_listK (h : X.K = K) : IxR X (rIxL K) := by subst h; exact ix_list
theorem ix_tupK (h : X.K = K) : IxR X (rIxT K) := by subst h; exact ix_tup
theorem call_len_seqK (h : X.K = K) : CallR X (.builtin "len") (fun xs H Q => ∃ p ys, xs = [.ref p] ∧ (SqL K H p ys ∨ SqT K H p ys) ∧ Q (.int ys.length) H) := by subst h; exact call_len_seq
theorem op_eqDK (h : X.K = K) (hu : X.A.units + 64 < cLine) : OpR X (compareOp .Eq) (rEqD K) := by subst h; exact op_eqD hu
theorem op_neDK (h : X.K = K) (hu : X.A.units + 64 < cLine) : OpR X (compareOp .NotEq) (rNeD K) := by subst h; exact op_neD hu
theorem cr_maxK (h : X.K = K) (hc : X.calm = true) : CallR X (.builtin "max") (rMax K) := by subst h; exact cr_max hc
theorem cr_sumK (h : X.K = K) (hc : X.calm = true) : CallR X (.builtin "sum") (rSum K) := by subst h; exact cr_sum hc
theorem call_list_ofK (h : X.K = K) : CallR X (.type "list") (fun xs H Q => ∃ p ys, xs = [.ref p] ∧ (SqL K H p ys ∨ SqT K H p ys) ∧ ∀ l, H l = none → Q (.ref l) (upd H l (.lst ys))) := by subst h; exact call_list_of
theorem pi_listK {tg l : Expr} {tl : TE} (h : X.K = K) (hl : PE X l tl) : PI X tg l (iList K tl) := by subst h; exact pi_list hl
theorem pi_tupK {tg l : Expr} {tl : TE} (h : X.K = K) (hl : PE X l tl) : PI X tg l (iTup K tl) := by subst h; exact pi_tup hl
theorem pg_tupK {es : List Expr} {k : Nat} {t : TGs} {n : Nat} {pos : Pos} (hK : X.K = K) (hc : X.calm = true) (h : PGs X es t)
    (hn : (assignEach es X.env).length = n := by rfl) (hst : (assignEach es X.env).findIdx? (·.1) = none := by rfl) : PG X (.Tuple es k pos) (gTup K n t) := by subst hK; exact pg_tup hc h hn hst
end
/-! ### a statement whose ends are joined by what holds behind it -/
def tCutI (t u : TS) : TS := fun D σ H => ∃ I : L2.St → Hp → Prop, t { D with nx := I } σ H ∧ ∀ σ' H', I σ' H' → u D σ' H'
theorem pss_cutI {X : Cx} {st : Stmt} {rest : List Stmt} {t u : TS} (h1 : PS X st t) (h2 : PSs X rest u) : PSs X (st :: rest) (tCutI t u) := by
  refine ⟨fun pins s σ H D I h => ?_⟩
  obtain ⟨J, h, hJ⟩ := h
  refine wpAny_execs_cons (thn (h1.run pins s σ H { D with nx := J } I h) fun f s1 q => ?_)
  cases f with
  | next =>
    obtain ⟨σ', H', I', q⟩ := q
    exact h2.run pins s1 σ' H' D I' (hJ σ' H' q)
  | ret v => exact q
  | brk => exact q
  | cont => exact q
/-- data: lists of lists of ints -/
abbrev dRows (rs : List (List Int)) : PyData := .list (rs.map fun r => .list (r.map PyData.int))
theorem lay_rows : ∀ rs : List (List Int), PyData.canLayAll0 (rs.map fun r => .list (r.map PyData.int)) = true
  | [] => by simp [PyData.canLayAll0]
  | r :: q => by
    have ih := lay_rows q
    have h1 := lay_ints r
    simp [PyData.canLayAll0, PyData.canLay0, ih, h1]
theorem depth_rows : ∀ rs : List (List Int), PyData.depthAll (rs.map fun r => .list (r.map PyData.int)) ≤ 1
  | [] => by simp [PyData.depthAll]
  | r :: q => by
    have ih := depth_rows q
    have h1 := depth_ints r
    simp only [List.map_cons, PyData.depthAll, PyData.depth]
    omega
theorem shaped_rows (rs : List (List Int)) : SeqAt.shaped (dRows rs) = true := by
  unfold SeqAt.shaped
  have h1 : PyData.canLay0 (dRows rs) = true := by
    simp only [PyData.canLay0]
    exact lay_rows rs
  have h2 : PyData.depth (dRows rs) ≤ 64 := by
    have := depth_rows rs
    simp only [PyData.depth]
    omega
  rw [h1, decide_eq_true h2]
  rfl
theorem eqv_self {d : PyData} (h : SeqAt.shaped d = true) : PyData.eqv d d = true := SeqAt.eqv_refl d (SeqAt.canLay_of_shaped h)
/-- the built-in names that the top leaves alone, and its constants -/
structure Names (mg : Str → Option Value) : Prop where
  len : mg "len" = none
  range : mg "range" = none
  max : mg "max" = none
  list : mg "list" = none
  isinstance : mg "isinstance" = none
  int : mg "int" = none
  bool : mg "bool" = none
  enumerate : mg "enumerate" = none
  all : mg "all" = none
  zip : mg "zip" = none
  reversed : mg "reversed" = none
  sum : mg "sum" = none
  sorted : mg "sorted" = none
  tuple : mg "tuple" = none
  any : mg "any" = none
  min : mg "min" = none
  str : mg "str" = none
  abs : mg "abs" = none
  c_MOST_TIERS : ∃ t, mg "MOST_TIERS" = some (.int 4 t)
  c_MOST_PIECES : ∃ t, mg "MOST_PIECES" = some (.int 12 t)
/-! ### generator expressions whose element is quiet: the def's code table may grow, all else stands -/
/-- what is no bare record is not the table -/
theorem tab_ne {X : Cx} {pins : List (Addr × Obj)} {σ : L2.St} {H1 : Hp} {s1 : Shared} {P : Addr} (I : Inv X pins σ H1 s1) (h : GxR.TabG H1 P) {b : Addr} {o : Obj} (e : s1.heap.get? b = some o) (c : o.cls ≠ .none ∨ ∀ vs, o.data ≠ .fields vs) : b ≠ P := by
  rintro rfl
  obtain ⟨ps, isTab, _⟩ := h
  have q : s1.heap.get? b = some { cls := .none, data := .fields ps } := I.hok b _ isTab
  cases q.symm.trans e
  exact c.elim (fun z => z rfl) (fun z => z _ rfl)
/-- from h2 to h3 the table at P has grown by some entries, and all else stands -/
structure Longer (P : Addr) (h2 h3 : Heap) (ps more : Array Value) : Prop where
  rest : Heap.ExtBut P h2 h3
  size : h2.objs.size ≤ h3.objs.size
  table : h3.get? P = some { cls := .none, data := .fields (ps ++ more) }
  good : TriplesOk (ps ++ more).toList
/-- the expression's own scope: the walked thing at «.0», its names, and captured ones that are cells of the def; for two names -/
structure GenS2 (sc scope : Scope) (xa xb : Str) : Prop where
  kind : scope.kind = .function
  co : scope.isCoroutine = false
  cell : ∀ y ∈ scope.names, y.2 ≠ .cell
  dot : scope.names.lookup (".0" : Str) = some NameKind.local
  la : scope.names.lookup xa = some .local
  lb : scope.names.lookup xb = some .local
  ne : xa ≠ xb
  free : ∀ y ∈ scope.names, y.2 = .free → sc.names.lookup y.1 = some .cell
/-- for one -/
structure GenS1 (sc scope : Scope) (x : Str) : Prop where
  kind : scope.kind = .function
  co : scope.isCoroutine = false
  cell : ∀ y ∈ scope.names, y.2 ≠ .cell
  dot : scope.names.lookup (".0" : Str) = some NameKind.local
  la : scope.names.lookup x = some .local
  free : ∀ y ∈ scope.names, y.2 = .free → sc.names.lookup y.1 = some .cell
/-- what is said of the thing that is walked: it was made in s1, and stands in t -/
structure Walkee (X : Cx) (pins : List (Addr × Obj)) (σ : L2.St) (H1 : Hp) (P : Addr) (fp wr : List Addr) (s1 t : Shared) : Prop where
  inv : Inv X pins σ H1 s1
  tab : GxR.TabG H1 P
  same : ∃ h n, t = { s1 with heap := h, toks := n }
  keep : ∀ b o, s1.heap.get? b = some o → t.heap.get? b = some o
  size : s1.heap.objs.size ≤ t.heap.objs.size
  low : ∀ b ∈ fp, b < t.heap.objs.size ∧ b ≠ P
  new : ∀ b ∈ wr, s1.heap.objs.size ≤ b
/-- the generator g, ready to be walked, in the state s5; F: what each turn hands out -/
def Walked (X : Cx) (pins : List (Addr × Obj)) (σ : L2.St) (H1 : Hp) (P : Addr) (n : Nat) (F : Nat → Value → Prop) (g : Addr) (s5 : Shared) : Prop :=
  ∃ (fp wr : List Addr) (G : Array GenState → Array GenState → Prop) (F' : Nat → Value → Prop) (St : Nat → Shared → Prop),
    WalksS X.prog X.w X.A.in1 g fp wr G n F' St ∧ St 0 s5 ∧ (∀ b ∈ fp, b < s5.heap.objs.size) ∧ (∀ i v, F' i v → F i v) ∧ ∀ s', Moved wr G s5 s' → ∃ H2, GxR.Tabbed P H1 H2 ∧ Inv X pins σ H2 s'
/-- what the element may lean on: the frame cenv, the depth, and a heap in which all that stood in s1 stands but for the table -/
structure Turned (X : Cx) (P : Addr) (sc : Scope) (s1 : Shared) (cenv : Env) (A' : Around) (u : Shared) : Prop where
  own : cenv.scope = sc
  cells : cenv.cells = cloFrom X.env.cells sc.names []
  glob : cenv.globals = mainGlobals
  blt : cenv.builtins = builtinsNs
  calm : A'.handled = none
  deep : A'.depth ≤ X.A.depth + 1
  units : A'.units ≤ X.A.units + 8
  still : ∀ b o, b ≠ P → s1.heap.get? b = some o → u.heap.get? b = some o
section
variable {X : Cx} {pins : List (Addr × Obj)} {σ : L2.St} {H1 : Hp} {s1 t : Shared} {c P : Addr} {fp wr : List Addr} {h2 h3 : Heap} {ps more : Array Value}
/-- the code of the expression is looked up, or laid: then the table is longer -/
theorem tab_opens {gpos : Pos} {q : Str} {scope : Scope} {t2 : Nat} {R : Value → Addr → Shared → Prop} (TB : GxR.TabB X.base X.mg c P) (code : X.env.code = .ref c) (I : Inv X pins σ H1 s1) (isTab : H1 P = some (.tbl ps)) (good : TriplesOk ps.toList)
    (keep : ∀ b o, s1.heap.get? b = some o → h2.get? b = some o) (h : ∀ cv h3 n more, Longer P h2 h3 ps more → R cv builtinsNs { s1 with heap := h3, toks := n }) :
    wpAny (model X.prog X.w) X.A (genexprCode X.env gpos q scope) (fun cv t => wpAny (model X.prog X.w) X.A (builtinsFor X.env.globals X.env.builtins) (fun bi u => R cv bi u) X.xe t) X.xe { s1 with heap := h2, toks := t2 } := by
  have table : h2.get? P = some { cls := .none, data := .fields ps } := keep P _ (I.hok P _ isTab)
  have head : PySem.W.CodeHd h2 c P := TB.code.keeps fun b o e => keep b o (I.bk b o e)
  have go : ∀ cv h3 n more, Longer P h2 h3 ps more → wpAny (model X.prog X.w) X.A (builtinsFor X.env.globals X.env.builtins) (fun bi u => R cv bi u) X.xe { s1 with heap := h3, toks := n } := by
    intro cv h3 n more L
    obtain ⟨at_, ob, given, away, _, notTab, inBase, cls, dict, plain⟩ := TB.bm
    have globals : h3.Ns X.env.globals X.mg := I.ok.glob ▸ ((I.mod.glob.keeps I.bk).keeps keep).extBut L.rest TB.gP
    exact wpAny_builtinsFor globals given away (L.rest _ _ notTab (keep _ _ (I.bk _ _ inBase))) cls dict plain (h cv h3 n more L)
  cases found : codeAmong gpos ps.toList
  · refine wpAny_genexprCodeX code (head.code table good) (head.tab table) found fun c' h' n rest below above isCode _ isTable _ => go _ h' n _ ⟨rest, Nat.le_trans below (Nat.le_of_lt above), isTable.2, ?_⟩
    obtain ⟨_, _, _, _, _, _, _, _, _, _, _, _, _, _, _, _, _, _, _, triples, _⟩ := isCode
    exact triples
  · refine wpAny_genexprCode_hit code (head.code table good) found (go _ h2 t2 #[] ⟨Heap.ExtBut.refl _ _, Nat.le_refl _, ?_, ?_⟩)
    · rw [Array.append_empty]
      exact table
    · rw [Array.append_empty]
      exact good
/-- when it has been walked: what was held is held, but for the longer table -/
theorem tab_closes {h5 : Heap} {n : Nat} {gs : GenState} {j : Nat} {wr' : List Addr} {s' : Shared} (I : Inv X pins σ H1 s1) (isTab : H1 P = some (.tbl ps)) (keep : ∀ b o, s1.heap.get? b = some o → h2.get? b = some o) (L : Longer P h2 h3 ps more)
    (bare : gs.bare = true) (on : ∀ b o, h3.get? b = some o → h5.get? b = some o) (new : ∀ b ∈ wr', s1.heap.objs.size ≤ b) (mv : Moved wr' (GenOnlyQ j) { s1 with heap := h5, gens := s1.gens.push gs, toks := n } s') : ∃ H2, GxR.Tabbed P H1 H2 ∧ Inv X pins σ H2 s' := by
  have old : ∀ {b o}, s1.heap.get? b = some o → b ∉ wr' := fun e z => Nat.lt_irrefl _ (Nat.lt_of_lt_of_le (Heap.lt_size e) (new _ z))
  have J := GxR.inv_tab (h' := s'.heap) (g' := s'.gens) (d' := s'.drawn) (t' := s'.toks) I isTab (fun b o far e => mv.heap b o (old e) (on b o (L.rest b o far (keep b o e)))) (mv.heap P _ (old (I.hok P _ isTab)) (on P _ L.table)) (AllBare.movedS (I.bare.push bare) mv)
  exact ⟨upd H1 P (.tbl (ps ++ more)), ⟨⟨_, upd_same, L.good⟩, fun _ far => upd_ne far⟩, (GxR.sh_eta s1 s' mv.os) ▸ J⟩
theorem Walkee.statics (K : Walkee X pins σ H1 P fp wr s1 t) : cStatics ≠ P ∧ cStatics ∉ wr := by
  obtain ⟨_, names, _⟩ := K.inv.nolimit
  constructor
  · rintro rfl
    obtain ⟨ps, isTab, _⟩ := K.tab
    obtain ⟨ob, _, _, there, isNs, _⟩ := names
    have q : s1.heap.get? cStatics = some { cls := .none, data := .fields ps } := K.inv.hok _ _ isTab
    cases q.symm.trans there
    cases isNs
  · exact fun z => Nat.lt_irrefl _ (Nat.lt_of_lt_of_le names.lt (K.new _ z))
/-- all that stood in s1 stands where an element is reckoned -/
theorem Walkee.turned {scope : Scope} {code : Value} {href : Heap} {A' : Around} {u : Shared} (K : Walkee X pins σ H1 P fp wr s1 t) (L : Longer P t.heap h3 ps more) (on : ∀ b o, h3.get? b = some o → href.get? b = some o) (calm : A'.handled = none) (deep : A'.depth ≤ X.A.depth + 1) (units : A'.units ≤ X.A.units + 8)
    (still : ∀ b ∈ List.range h3.objs.size, b ∉ wr → ∀ o, href.get? b = some o → u.heap.get? b = some o) : Turned X P scope s1 (genEnv scope (cloFrom X.env.cells scope.names []) h3.objs.size code builtinsNs X.env) A' u where
  own := rfl
  cells := rfl
  glob := K.inv.ok.glob
  blt := rfl
  calm := calm
  deep := deep
  units := units
  still := fun b o far e =>
    have e3 := L.rest b o far (K.keep b o e)
    still b (List.mem_range.mpr (Heap.lt_size e3)) (fun z => Nat.lt_irrefl _ (Nat.lt_of_lt_of_le (Heap.lt_size e) (K.new b z))) o (on b o e3)
/-- the made generator is ready -/
theorem Walkee.ready {n : Nat} {F : Nat → Value → Prop} {g : Addr} {h5 : Heap} {n3 n5 : Nat} {gs : GenState} {j : Nat} {wr' fp' : List Addr} {St : Nat → Shared → Prop} (K : Walkee X pins σ H1 P fp wr s1 t) (isTab : H1 P = some (.tbl ps)) (L : Longer P t.heap h3 ps more)
    (bare : gs.bare = true) (above : h3.objs.size < g) (size : h5.objs.size = g + 1) (on : ∀ b o, h3.get? b = some o → h5.get? b = some o) (hf : ∀ b ∈ fp', b = g ∨ b = h3.objs.size ∨ b < h3.objs.size) (hw : ∀ b ∈ wr', b = h3.objs.size ∨ b ∈ wr)
    (W : WalksS X.prog X.w X.A.in4 g fp' wr' (GenOnlyQ j) (passing (fun _ => true) n 0).length (fun j y => ∃ i, (passing (fun _ => true) n 0)[j]? = some i ∧ F i y) St) (st : St 0 { ({ s1 with heap := h3, toks := n3 } : Shared) with gens := s1.gens.push gs, toks := n5, heap := h5 }) :
    Walked X pins σ H1 P n F g { ({ s1 with heap := h3, toks := n3 } : Shared) with gens := s1.gens.push gs, toks := n5, heap := h5 } := by
  rw [GxR.passing_true, List.length_range] at W
  refine ⟨_, _, _, _, _, W.in4_1, st, fun b hb => ?_, fun j y hy => ?_, fun s' mv => tab_closes K.inv isTab K.keep L bare on (fun b hb => ?_) mv⟩
  · show b < h5.objs.size
    rw [size]
    rcases hf b hb with rfl | rfl | z
    · exact Nat.lt_succ_self _
    · exact Nat.lt_succ_of_lt above
    · exact Nat.lt_succ_of_lt (Nat.lt_trans z above)
  · obtain ⟨i, at_, q⟩ := hy
    obtain ⟨_, e⟩ := List.getElem?_eq_some_iff.mp at_
    rw [List.getElem_range] at e
    exact e ▸ q
  · rcases hw b hb with rfl | z
    · exact Nat.le_trans K.size L.size
    · exact K.new b z
end
section
variable {X : Cx} {pins : List (Addr × Obj)} {σ : L2.St} {H : Hp} {s : Shared} {c P : Addr} {k : Nat} {Q' : Value → Shared → Prop}
/-- (element for a, b in iter): what is walked hands out pairs; the element gives what F says -/
theorem gen_pairs {elt iter : Expr} {xa xb : Str} {pa pb pt gpos : Pos} {kt : Nat} {scope : Scope} (hr : Room k X.A) (TB : GxR.TabB X.base X.mg c P) (hcode : X.env.code = .ref c) (S : GenS2 X.env.scope scope xa xb) (hs : ∀ v, genFold iter X.env v = pure v) (I : Inv X pins σ H s)
    (h : wpAny (model X.prog X.w) X.A (eval iter X.env) (fun xv t => wpAny (model X.prog X.w) X.A (pyIter xv) (fun it t2 => ∃ (Iad : Addr) (fp wr : List Addr) (n : Nat) (Pt : Nat → Array Value → Prop) (St : Nat → Heap → Prop) (Mid : Nat → Addr → Heap → Prop) (F : Nat → Value → Prop) (q : List (Addr × Obj)) (σ1 : L2.St) (H1 : Hp) (s1 : Shared),
      it = .ref Iad ∧ Walkee X q σ1 H1 P fp wr s1 t2 ∧ (∀ A' : Around, A'.handled = none → WalksU X.prog X.w A' Iad fp wr n Pt St Mid) ∧ (∀ i vals, Pt i vals → ∃ va vb, vals = #[va, vb]) ∧ St 0 t2.heap ∧
      (∀ (cenv : Env) (A' : Around) (E' : Value → Shared → Prop) (i : Nat) (va vb : Value) (u : Shared) (m : Str → Option Value), Turned X P scope s1 cenv A' u → Pt i #[va, vb] → u.heap.Ns cenv.locals m → m xa = some va → m xb = some vb →
        wpAny (model X.prog X.w) A' (eval elt cenv) (fun y u' => F i y ∧ Keeps u u') E' u) ∧
      ∀ g s5, Walked X q σ1 H1 P n F g s5 → Q' (.ref g) s5) X.xe t) X.xe s) :
    wpAny (model X.prog X.w) X.A (eval (.GeneratorExp elt [⟨.Tuple [.Name xa pa, .Name xb pb] kt pt, iter, [], 0⟩] scope gpos) X.env) Q' X.xe s := by
  have room := hr.dp
  refine wpAny_GeneratorExp_walksQTD hr.hd S.co (closure_ok fun y hy e => I.ok.has y.1 (.inl (S.free y hy e))) S.cell S.dot S.la S.lb S.ne S.kind (by omega) (wpAny_mono h (fun xv t h => wpAny_mono h (fun it t2 h => ?_) fun _ _ e => e) fun _ _ e => e) hs
  obtain ⟨Iad, fp, wr, n, Pt, St, Mid, F, q, σ1, H1, s1, rfl, K, W, two, st, turn, out⟩ := h
  obtain ⟨ps, isTab, good⟩ := K.tab
  obtain ⟨h2, n2, rfl⟩ := K.same
  have lim : h2.NoLimit := K.inv.nolimit.keeps K.keep
  refine ⟨lim, tab_opens TB hcode K.inv isTab good K.keep fun cv h3 n3 more L => ⟨Iad, fp, wr, n, Pt, St, Mid, fun _ => true, F, rfl, W, two, (W X.A hr.hd).frame _ _ _ st fun b hb o e => L.rest b o (K.low b hb).2 e, fun b hb => Nat.lt_of_lt_of_le (K.low b hb).1 L.size, lim.extBut L.rest K.statics.1, K.statics.2, fun href on => ⟨?_, ?_⟩, ?_⟩⟩
  · intro A' E' i va vb u m _ _ _ _ _ _ _ _
    exact wpAny_pure ⟨rfl, GxR.keeps_refl _⟩
  · intro A' E' i va vb u m calm deep units at_ _ ns ma mb still
    exact turn _ A' E' i va vb u m (K.turned L on calm deep units still) at_ ns ma mb
  · intro g h5 n5 gs bare above size on W5 st5
    refine out g _ (K.ready isTab L bare above size on (fun b hb => ?_) (fun b hb => List.mem_cons.mp hb) W5 st5)
    exact (List.mem_cons.mp hb).imp_right fun z => (List.mem_cons.mp z).imp_right List.mem_range.mp
/-- (element for a in iter) -/
theorem gen_ones {elt iter : Expr} {x : Str} {px gpos : Pos} {scope : Scope} (hr : Room k X.A) (TB : GxR.TabB X.base X.mg c P) (hcode : X.env.code = .ref c) (S : GenS1 X.env.scope scope x) (hs : ∀ v, genFold iter X.env v = pure v) (I : Inv X pins σ H s)
    (h : wpAny (model X.prog X.w) X.A (eval iter X.env) (fun xv t => wpAny (model X.prog X.w) X.A (pyIter xv) (fun it t2 => ∃ (Iad : Addr) (fp wr : List Addr) (n : Nat) (Pt : Nat → Value → Prop) (St : Nat → Heap → Prop) (F : Nat → Value → Prop) (q : List (Addr × Obj)) (σ1 : L2.St) (H1 : Hp) (s1 : Shared),
      it = .ref Iad ∧ Walkee X q σ1 H1 P fp wr s1 t2 ∧ (∀ A' : Around, A'.handled = none → Walks X.prog X.w A' Iad fp wr n Pt St) ∧ St 0 t2.heap ∧
      (∀ (cenv : Env) (A' : Around) (E' : Value → Shared → Prop) (i : Nat) (va : Value) (u : Shared) (m : Str → Option Value), Turned X P scope s1 cenv A' u → Pt i va → u.heap.Ns cenv.locals m → m x = some va →
        wpAny (model X.prog X.w) A' (eval elt cenv) (fun y u' => F i y ∧ Keeps u u') E' u) ∧
      ∀ g s5, Walked X q σ1 H1 P n F g s5 → Q' (.ref g) s5) X.xe t) X.xe s) :
    wpAny (model X.prog X.w) X.A (eval (.GeneratorExp elt [⟨.Name x px, iter, [], 0⟩] scope gpos) X.env) Q' X.xe s := by
  have room := hr.dp
  refine wpAny_GeneratorExp_walksQD hr.hd S.co (closure_ok fun y hy e => I.ok.has y.1 (.inl (S.free y hy e))) S.cell S.dot S.la S.kind (by omega) (wpAny_mono h (fun xv t h => wpAny_mono h (fun it t2 h => ?_) fun _ _ e => e) fun _ _ e => e) hs
  obtain ⟨Iad, fp, wr, n, Pt, St, F, q, σ1, H1, s1, rfl, K, W, st, turn, out⟩ := h
  obtain ⟨ps, isTab, good⟩ := K.tab
  obtain ⟨h2, n2, rfl⟩ := K.same
  have lim : h2.NoLimit := K.inv.nolimit.keeps K.keep
  refine ⟨lim, tab_opens TB hcode K.inv isTab good K.keep fun cv h3 n3 more L => ⟨Iad, fp, wr, n, Pt, St, fun _ => true, F, rfl, W, (W X.A hr.hd).frame _ _ _ st fun b hb o e => L.rest b o (K.low b hb).2 e, fun b hb => Nat.lt_of_lt_of_le (K.low b hb).1 L.size, lim.extBut L.rest K.statics.1, K.statics.2, fun href on => ⟨?_, ?_⟩, ?_⟩⟩
  · intro A' E' i va u m _ _ _ _ _ _ _
    exact wpAny_pure ⟨rfl, GxR.keeps_refl _⟩
  · intro A' E' i va u m calm deep units at_ _ ns ma still
    exact turn _ A' E' i va u m (K.turned L on calm deep units still) at_ ns ma
  · intro g h5 n5 gs bare above size on W5 st5
    refine out g _ (K.ready isTab L bare above size on (fun b hb => ?_) (fun b hb => List.mem_cons.mp hb) W5 st5)
    exact (List.mem_cons.mp hb).imp_right fun z => (List.mem_cons.mp z).imp_right List.mem_range.mp
/-- a built-in function of a generator expression alone -/
theorem call_gen {b : Str} {f : String} {ge : Expr} {p pos : Pos} {R : Value → Shared → Prop} (hg : Gl X b) (hm : X.mg b = none) (hb : bootBuiltins b = some (.builtin f)) (he : starEach [ge] X.env = (false, eval ge X.env) :: starEach [] X.env) (I : Inv X pins σ H s)
    (h : wpAny (model X.prog X.w) X.A (eval ge X.env) (fun v t => wpAny (model X.prog X.w) X.A (call (.builtin f) [v]) R X.xe t) X.xe s) (hd : (b == ("__debug__" : Str)) = false := by decide) (hn : b ≠ "__name__" := by decide) :
    wpAny (model X.prog X.w) X.A (eval (.Call (.Name b p) [ge] [] pos) X.env) R X.xe s := by
  refine wpAny_Call_Name_kw (ld_blt I hg hm hb (PyProof.Rows.callWith_builtin1 ?_ he (by rfl)) hn hd)
  rw [he]
  exact Calls.spliced_cons (wpAny_mono h (fun v t h => Calls.spliced_nil h) fun _ _ e => e)
theorem truth_of {A : Around} {F' : Nat → Value → Prop} {pb : Nat → Bool} (h : ∀ i v, F' i v → v = .bool (pb i)) : TruthOf X.prog X.w A F' pb := by
  intro i v t Q E at_ q
  cases h i v at_
  exact wpAny_truthy_bool q
end
/-! ### all(test for a, b in enumerate(list)) -/
def tAllE (K : PySem.W.Frag) (P : Addr) (R : L2.St → Hp → List V → (Nat → Bool) → Prop) (te : TE) : TE := fun σ H Q => te σ H fun v H1 => ∃ (a : Addr) (xs : List V) (pb : Nat → Bool), v = .ref a ∧ SqL K H1 a xs ∧ GxR.TabG H1 P ∧ R σ H1 xs pb ∧
  ∀ H2, GxR.Tabbed P H1 H2 → Q (.bl ((List.range xs.length).all pb)) H2
/-- what the element is to do at one pair -/
def EltE (X : Cx) (P : Addr) (scope : Scope) (xa xb : Str) (elt : Expr) (R : L2.St → Hp → List V → (Nat → Bool) → Prop) : Prop :=
  ∀ (pins : List (Addr × Obj)) (σ : L2.St) (H1 : Hp) (s1 : Shared) (xs : List V) (pb : Nat → Bool), Inv X pins σ H1 s1 → GxR.TabG H1 P → R σ H1 xs pb →
    ∀ (cenv : Env) (A' : Around) (E' : Value → Shared → Prop) (i : Nat) (v : V) (va vb : Value) (s₂ : Shared) (m₂ : Str → Option Value), cenv.scope = scope → cenv.cells = cloFrom X.env.cells scope.names [] → cenv.globals = mainGlobals → cenv.builtins = builtinsNs →
      A'.handled = none → A'.depth ≤ X.A.depth + 1 → A'.units ≤ X.A.units + 8 → xs[i]? = some v → (∃ t, va = .int (i : Nat) t) → RelV v vb → s₂.heap.Ns cenv.locals m₂ → m₂ xa = some va → m₂ xb = some vb → (∀ b o, b ≠ P → s1.heap.get? b = some o → s₂.heap.get? b = some o) →
      wpAny (model X.prog X.w) A' (eval elt cenv) (fun y s₃ => y = .bool (pb i) ∧ Keeps s₂ s₃) E' s₂
section
variable {X : Cx}
theorem pe_allEnum {c P : Addr} {elt e : Expr} {xa xb : Str} {pa pb' pt p pos gpos epos ep : Pos} {kt : Nat} {scope : Scope} {te : TE} {k : Nat} {R : L2.St → Hp → List V → (Nat → Bool) → Prop}
    (hr : Room k X.A) (hg : Gl X "all") (hm : X.mg "all" = none) (hb : bootBuiltins "all" = some (.builtin "all")) (hge : Gl X "enumerate") (hme : X.mg "enumerate" = none) (TB : GxR.TabB X.base X.mg c P) (hcode : X.env.code = .ref c) (S : GenS2 X.env.scope scope xa xb) (hi : PE X e te)
    (hel : EltE X P scope xa xb elt R)
    (hs : ∀ v, genFold (.Call (.Name "enumerate" ep) [e] [] epos) X.env v = pure v := by intro _; rfl)
    (hs1 : starEach [e] X.env = [(false, eval e X.env)] := by rfl)
    (he : starEach [.GeneratorExp elt [⟨.Tuple [.Name xa pa, .Name xb pb'] kt pt, .Call (.Name "enumerate" ep) [e] [] epos, [], 0⟩] scope gpos] X.env = (false, eval (.GeneratorExp elt [⟨.Tuple [.Name xa pa, .Name xb pb'] kt pt, .Call (.Name "enumerate" ep) [e] [] epos, [], 0⟩] scope gpos) X.env) :: starEach [] X.env := by rfl) :
    PE X (.Call (.Name "all" p) [.GeneratorExp elt [⟨.Tuple [.Name xa pa, .Name xb pb'] kt pt, .Call (.Name "enumerate" ep) [e] [] epos, [], 0⟩] scope gpos] [] pos) (tAllE X.K P R te) := by
  refine ⟨fun pins s σ H Q I h => call_gen hg hm hb he I (gen_pairs hr TB hcode S hs I (Call_ (ld_blt I hge hme boot_enumerate (PyProof.Rows.callWith_type1 ?_ hs1 rfl))))⟩
  rw [hs1]
  refine Calls.spliced_cons (thn (hi.run pins s σ H _ I h) fun u0 s1 r => Calls.spliced_nil ?_)
  obtain ⟨_, H1, J, isRef, a, xs, pb, rfl, sq, tab, hR, q⟩ := r
  cases isRef
  obtain ⟨its, rv, at_, _⟩ := J.list sq
  refine call_enumerate_list at_.isList fun h' isEn isIt size keep => wpAny_pyIter_enum isEn ?_
  have la : a < s1.heap.objs.size := at_.lt
  have below : s1.heap.objs.size < h'.objs.size := isIt.elim fun _ x => Heap.lt_size x.1
  obtain ⟨oa, ea, ca, _⟩ := id at_.isList
  have aP : a ≠ P := tab_ne J tab ea (.inl fun z => by rw [ca] at z; cases z)
  have lP : P < s1.heap.objs.size := tab.elim fun _ x => Heap.lt_size (show s1.heap.get? P = _ from J.hok P _ x.1)
  have W := fun (A' : Around) (calm : A'.handled = none) => (WalksT.enumerate (prog := X.prog) (w := X.w) calm (s1.heap.objs.size + 1) s1.heap.objs.size a (Nat.succ_ne_self _) (Nat.ne_of_lt (Nat.lt_succ_of_lt la)) (Nat.ne_of_lt la) its.toArray).toU
  refine ⟨_, _, _, _, _, _, _, fun i y => y = .bool (pb i), pins, σ, H1, s1, rfl, ⟨J, tab, ⟨_, _, rfl⟩, keep, Nat.le_of_lt below, fun b hb => ?_, fun b hb => ?_⟩, W, fun i vals x => ?_, ⟨⟨_, isEn⟩, isIt, at_.isList.at fun o x => keep a o x⟩, ?_, ?_⟩
  · simp only [List.mem_cons, List.not_mem_nil, or_false] at hb
    rcases hb with rfl | rfl | rfl
    · exact ⟨Heap.lt_size isEn, Nat.ne_of_gt (Nat.lt_succ_of_lt lP)⟩
    · exact ⟨below, Nat.ne_of_gt lP⟩
    · exact ⟨Nat.lt_trans la below, aP⟩
  · simp only [List.mem_cons, List.not_mem_nil, or_false] at hb
    rcases hb with rfl | rfl
    · exact Nat.le_succ _
    · exact Nat.le_refl _
  · exact x.elim fun _ x => x.elim fun _ x => ⟨_, _, x.2⟩
  · intro cenv A' E' i va vb u m T at_ ns ma mb
    obtain ⟨t, x, hx, e'⟩ := at_
    obtain ⟨rfl, rfl⟩ : va = .int i t ∧ vb = x := by simpa using congrArg Array.toList e'
    have there : its[i]? = some vb := by simpa using hx
    obtain ⟨v, hv⟩ : ∃ v, xs[i]? = some v := ⟨_, List.getElem?_eq_getElem (rv.length.symm ▸ (List.getElem?_eq_some_iff.mp there).1)⟩
    obtain ⟨w, hw, rw_⟩ := rv.get hv
    cases there.symm.trans hw
    exact hel pins σ H1 s1 xs pb J tab hR cenv A' E' i v _ _ u m T.own T.cells T.glob T.blt T.calm T.deep T.units hv ⟨t, rfl⟩ rw_ ns ma mb T.still
  · rintro g s5 ⟨fp, wr, G, F', St, W, st, _, say, held⟩
    refine call_all_walkS (W.self 0 _ _ _ st ⟨g, fp, wr, G, _, F', St, pb, rfl, W, st, truth_of say, fun s' mv => ?_⟩)
    obtain ⟨H2, grown, J2⟩ := held s' mv
    refine ⟨.bl _, H2, J2, rfl, ?_⟩
    rw [List.size_toArray, ← rv.length]
    exact q H2 grown
end
/-! ### (element for a, b in zip(list, list)), both lists of ints -/
section
variable {X : Cx} {pins : List (Addr × Obj)} {σ : L2.St} {H : Hp} {s : Shared}
theorem gen_zip {c P : Addr} {elt e1 e2 : Expr} {xa xb : Str} {pa pb pt gpos epos ep : Pos} {kt k : Nat} {scope : Scope} {t1 t2 : TE} {C : List Int → List Int → Hp → Prop} {F : List Int → List Int → Nat → Value → Prop} {Q' : Value → Shared → Prop}
    (hr : Room k X.A) (hge : Gl X "zip") (hme : X.mg "zip" = none) (TB : GxR.TabB X.base X.mg c P) (hcode : X.env.code = .ref c) (S : GenS2 X.env.scope scope xa xb) (h1 : PE X e1 t1) (h2 : PE X e2 t2)
    (hs : ∀ v, genFold (.Call (.Name "zip" ep) [e1, e2] [] epos) X.env v = pure v) (hs1 : starEach [e1, e2] X.env = (false, eval e1 X.env) :: starEach [e2] X.env) (hs2 : starEach [e2] X.env = (false, eval e2 X.env) :: starEach [] X.env)
    (hpl : (backTo epos (starEach [e2] X.env)).any (·.1) = false) (hem : starEach [] X.env = []) (I : Inv X pins σ H s)
    (h : t1 σ H fun v H1 => t2 σ H1 fun u H2 => ∃ (a b : Addr) (ns ms : List Int), v = .ref a ∧ u = .ref b ∧ SqL X.K H2 a (ns.map V.int) ∧ SqL X.K H2 b (ms.map V.int) ∧ GxR.TabG H2 P ∧ C ns ms H2)
    (turn : ∀ ns ms H2, C ns ms H2 → ∀ (cenv : Env) (A' : Around) (E' : Value → Shared → Prop) (i : Nat) (u : Shared) (m : Str → Option Value) (li : i < ns.length) (lj : i < ms.length) (t t' : Tok), cenv.scope = scope → u.heap.Ns cenv.locals m → m xa = some (.int ns[i] t) → m xb = some (.int ms[i] t') →
      wpAny (model X.prog X.w) A' (eval elt cenv) (fun y u' => F ns ms i y ∧ Keeps u u') E' u)
    (out : ∀ ns ms H2 g s5, C ns ms H2 → Walked X pins σ H2 P (min ns.length ms.length) (F ns ms) g s5 → Q' (.ref g) s5) :
    wpAny (model X.prog X.w) X.A (eval (.GeneratorExp elt [⟨.Tuple [.Name xa pa, .Name xb pb] kt pt, .Call (.Name "zip" ep) [e1, e2] [] epos, [], 0⟩] scope gpos) X.env) Q' X.xe s := by
  refine gen_pairs hr TB hcode S hs I (Call_ (ld_blt I hge hme PyProof.Rows.boot_zip (PyProof.Rows.callWith_type1 ?_ hs1 hpl)))
  rw [hs1, hs2, hem]
  refine Calls.spliced_cons (thn (h1.run pins s σ H _ I h) fun u0 s0 r0 => ?_)
  obtain ⟨v0, H0, J0, isA, q0⟩ := r0
  refine Calls.spliced_cons (thn (h2.run pins s0 σ H0 _ J0 q0) fun u1 s1 r1 => Calls.spliced_nil ?_)
  obtain ⟨v1, H1, J, isB, a, b, ns, ms, rfl, rfl, sqa, sqb, tab, hC⟩ := r1
  cases isA
  cases isB
  obtain ⟨its, rv, atA, _⟩ := J.list sqa
  obtain ⟨jts, rw_, atB, _⟩ := J.list sqb
  have lenA : ns.length = its.length := List.length_map (f := V.int) ▸ rv.length
  have lenB : ms.length = jts.length := List.length_map (f := V.int) ▸ rw_.length
  obtain ⟨oa, ea, ca, _⟩ := id atA.isList
  obtain ⟨ob, eb, cb, _⟩ := id atB.isList
  have aP : a ≠ P := tab_ne J tab ea (.inl fun z => by rw [ca] at z; cases z)
  have bP : b ≠ P := tab_ne J tab eb (.inl fun z => by rw [cb] at z; cases z)
  have lP : P < s1.heap.objs.size := tab.elim fun _ x => Heap.lt_size (show s1.heap.get? P = _ from J.hok P _ x.1)
  refine call_zip_2 atA.isList atB.isList fun h' isZ isT isO itA itB size keep => wpAny_pyIter_zip isZ ?_
  have up : ∀ j, j < 5 → s1.heap.objs.size + j < h'.objs.size ∧ s1.heap.objs.size + j ≠ P := fun j lj => ⟨size ▸ Nat.add_lt_add_left lj _, Nat.ne_of_gt (Nat.lt_of_lt_of_le lP (Nat.le_add_right _ j))⟩
  have W := fun (A' : Around) (calm : A'.handled = none) => (WalksT.zip2 (prog := X.prog) (w := X.w) calm (s1.heap.objs.size + 4) (s1.heap.objs.size + 2) (s1.heap.objs.size + 3) s1.heap.objs.size (s1.heap.objs.size + 1) a b (PySem.W.ktu_apart s1.heap.objs.size a b atA.lt atB.lt) its.toArray jts.toArray).toU
  have grown : s1.heap.objs.size ≤ h'.objs.size := Nat.le_of_lt (up 0 (by decide)).1
  refine ⟨_, _, _, _, _, _, _, F ns ms, pins, σ, H1, s1, rfl, ⟨J, tab, ⟨_, _, rfl⟩, keep, grown, fun d hd => ?_, fun d hd => ?_⟩, W, fun i vals x => ?_, ⟨isZ, isT, ⟨_, _, isO⟩, itA, itB, atA.isList.at fun o x => keep a o x, atB.isList.at fun o x => keep b o x⟩, ?_, ?_⟩
  · simp only [List.mem_cons, List.not_mem_nil, or_false] at hd
    rcases hd with rfl | rfl | rfl | rfl | rfl | rfl | rfl
    · exact up 4 (by decide)
    · exact up 2 (by decide)
    · exact up 3 (by decide)
    · exact up 0 (by decide)
    · exact up 1 (by decide)
    · exact ⟨Nat.lt_of_lt_of_le atA.lt grown, aP⟩
    · exact ⟨Nat.lt_of_lt_of_le atB.lt grown, bP⟩
  · simp only [List.mem_cons, List.not_mem_nil, or_false] at hd
    rcases hd with rfl | rfl | rfl | rfl
    · exact Nat.le_add_right _ _
    · exact Nat.le_add_right _ _
    · exact Nat.le_refl _
    · exact Nat.le_add_right _ _
  · exact x.elim fun _ x => x.elim fun _ x => ⟨_, _, x.2.2⟩
  · intro cenv A' E' i va vb u m T at_ nsm ma mb
    obtain ⟨x, y, hx, hy, e'⟩ := at_
    obtain ⟨rfl, rfl⟩ : va = x ∧ vb = y := by simpa using congrArg Array.toList e'
    have inA : its[i]? = some va := by simpa using hx
    have inB : jts[i]? = some vb := by simpa using hy
    have li : i < ns.length := lenA ▸ (List.getElem?_eq_some_iff.mp inA).1
    have lj : i < ms.length := lenB ▸ (List.getElem?_eq_some_iff.mp inB).1
    obtain ⟨w, hw, t, rfl⟩ := rv.get (getD_ints li)
    obtain ⟨w', hw', t', rfl⟩ := rw_.get (getD_ints lj)
    cases inA.symm.trans hw
    cases inB.symm.trans hw'
    exact turn ns ms H1 hC cenv A' E' i u m li lj t t' T.own nsm ma mb
  · intro g s5 x
    rw [List.size_toArray, List.size_toArray, ← lenA, ← lenB] at x
    exact out ns ms H1 g s5 hC x
/-- both names of such an expression are read from its frame -/
theorem read_two {sc scope : Scope} {cenv : Env} {A' : Around} {E' : Value → Shared → Prop} {u : Shared} {m : Str → Option Value} {xa xb : Str} {va vb : Value} {p q : Pos} {M : Model} (S : GenS2 sc scope xa xb) (own : cenv.scope = scope) (ns : u.heap.Ns cenv.locals m) (ma : m xa = some va) (mb : m xb = some vb)
    (hda : (xa == ("__debug__" : Str)) = false) (hdb : (xb == ("__debug__" : Str)) = false) :
    (∀ {Q : Value → Shared → Prop}, Q va u → wpAny M A' (eval (.Name xa p) cenv) Q E' u) ∧ ∀ {Q : Value → Shared → Prop}, Q vb u → wpAny M A' (eval (.Name xb q) cenv) Q E' u := by
  subst own
  exact ⟨fun h => wpAny_Name (wpAny_loadName_local S.kind S.la ns ma h) hda, fun h => wpAny_Name (wpAny_loadName_local S.kind S.lb ns mb h) hdb⟩
theorem at_getD {ns : List Int} {i : Nat} (li : i < ns.length) : ns.getD i 0 = ns[i] := by
  rw [List.getD_eq_getElem?_getD, List.getElem?_eq_getElem li]
  rfl
end
/-! ### all(a < b for a, b in zip(list, list)) -/
def tAllZ (K : PySem.W.Frag) (P : Addr) (t1 t2 : TE) : TE := fun σ H Q => t1 σ H fun v H1 => t2 σ H1 fun u H2 => ∃ (a b : Addr) (ns ms : List Int), v = .ref a ∧ u = .ref b ∧ SqL K H2 a (ns.map V.int) ∧ SqL K H2 b (ms.map V.int) ∧ GxR.TabG H2 P ∧
  ∀ H3, GxR.Tabbed P H2 H3 → Q (.bl ((List.range (min ns.length ms.length)).all fun i => decide (ns.getD i 0 < ms.getD i 0))) H3
section
variable {X : Cx}
theorem pe_allZip {c P : Addr} {e1 e2 : Expr} {xa xb : Str} {pa pb' pt p pos gpos epos ep q1 q2 q3 : Pos} {kt : Nat} {scope : Scope} {t1 t2 : TE} {k : Nat}
    (hr : Room k X.A) (hg : Gl X "all") (hm : X.mg "all" = none) (hb : bootBuiltins "all" = some (.builtin "all")) (hge : Gl X "zip") (hme : X.mg "zip" = none) (TB : GxR.TabB X.base X.mg c P) (hcode : X.env.code = .ref c) (S : GenS2 X.env.scope scope xa xb) (h1 : PE X e1 t1) (h2 : PE X e2 t2)
    (hda : (xa == ("__debug__" : Str)) = false) (hdb : (xb == ("__debug__" : Str)) = false)
    (hs : ∀ v, genFold (.Call (.Name "zip" ep) [e1, e2] [] epos) X.env v = pure v := by intro _; rfl)
    (hs1 : starEach [e1, e2] X.env = (false, eval e1 X.env) :: starEach [e2] X.env := by rfl) (hs2 : starEach [e2] X.env = (false, eval e2 X.env) :: starEach [] X.env := by rfl) (hpl : (backTo epos (starEach [e2] X.env)).any (·.1) = false := by rfl)
    (he : starEach [.GeneratorExp (.Compare (.Name xa q1) [.Lt] [.Name xb q2] q3) [⟨.Tuple [.Name xa pa, .Name xb pb'] kt pt, .Call (.Name "zip" ep) [e1, e2] [] epos, [], 0⟩] scope gpos] X.env = (false, eval (.GeneratorExp (.Compare (.Name xa q1) [.Lt] [.Name xb q2] q3) [⟨.Tuple [.Name xa pa, .Name xb pb'] kt pt, .Call (.Name "zip" ep) [e1, e2] [] epos, [], 0⟩] scope gpos) X.env) :: starEach [] X.env := by rfl) :
    PE X (.Call (.Name "all" p) [.GeneratorExp (.Compare (.Name xa q1) [.Lt] [.Name xb q2] q3) [⟨.Tuple [.Name xa pa, .Name xb pb'] kt pt, .Call (.Name "zip" ep) [e1, e2] [] epos, [], 0⟩] scope gpos] [] pos) (tAllZ X.K P t1 t2) := by
  refine ⟨fun pins s σ H Q I h => call_gen hg hm hb he I (gen_zip (C := fun ns ms H2 => ∀ H3, GxR.Tabbed P H2 H3 → Q (.bl ((List.range (min ns.length ms.length)).all fun i => decide (ns.getD i 0 < ms.getD i 0))) H3) (F := fun ns ms i y => y = .bool (decide (ns.getD i 0 < ms.getD i 0)))
    hr hge hme TB hcode S h1 h2 hs hs1 hs2 hpl (by rfl) I h ?_ ?_)⟩
  · intro ns ms H2 _ cenv A' E' i u m li lj t t' own nsm ma mb
    have two := read_two (M := model X.prog X.w) (A' := A') (E' := E') (p := q1) (q := q2) S own nsm ma mb hda hdb
    refine wpAny_Compare1 (two.1 (two.2 (lt_int ⟨?_, GxR.keeps_refl _⟩))) (nomark _)
    rw [at_getD li, at_getD lj]
  · rintro ns ms H2 g s5 q ⟨fp, wr, G, F', St, W, st, _, say, held⟩
    refine call_all_walkS (W.self 0 _ _ _ st ⟨g, fp, wr, G, _, F', St, _, rfl, W, st, truth_of say, fun s' mv => ?_⟩)
    obtain ⟨H3, grown, J⟩ := held s' mv
    exact ⟨.bl _, H3, J, rfl, q H3 grown⟩
end
/-! ### what stays where tables of code may grow -/
def Tb (T : List Addr) (H : Hp) : Prop := ∀ t ∈ T, GxR.TabG H t
structure Ext (T : List Addr) (H H' : Hp) : Prop where
  ext : ∀ b o, H b = some o → (∀ ps, o ≠ .tbl ps) → H' b = some o
  t0 : Tb T H
  t1 : Tb T H'
  free : ∀ b, H' b = none → H b = none
section
variable {T : List Addr} {H H1 H2 : Hp}
theorem Ext.refl (h : Tb T H) : Ext T H H := ⟨fun _ _ e _ => e, h, h, fun _ e => e⟩
theorem Ext.trans (a : Ext T H H1) (b : Ext T H1 H2) : Ext T H H2 := ⟨fun c o e n => b.ext c o (a.ext c o e n) n, a.t0, b.t1, fun c e => a.free c (b.free c e)⟩
theorem Ext.lst (a : Ext T H H1) {p : Addr} {xs : List V} (h : H p = some (.lst xs)) : H1 p = some (.lst xs) := a.ext _ _ h fun _ z => nomatch z
theorem Ext.tup (a : Ext T H H1) {p : Addr} {xs : List V} (h : H p = some (.tup xs)) : H1 p = some (.tup xs) := a.ext _ _ h fun _ z => nomatch z
theorem Ext.same (s : Same H H1) (h : Tb T H) : Ext T H H1 := ⟨fun b o e _ => s b o e, h, fun t ht => by
  obtain ⟨ps, h1, h2⟩ := h t ht
  exact ⟨ps, s _ _ h1, h2⟩, fun b e => s.free e⟩
theorem Ext.new (a : Ext T H H1) {p : Addr} {o : HO} (hp : H p = none) : Ext T H (upd H1 p o) := by
  refine ⟨fun b u e n => ?_, a.t0, fun t ht => ?_, fun b e => ?_⟩
  · rw [upd_ne (ne_of_none e hp)]
    exact a.ext b u e n
  · obtain ⟨ps, h1, h2⟩ := a.t1 t ht
    obtain ⟨qs, h3, _⟩ := a.t0 t ht
    exact ⟨ps, by rw [upd_ne (ne_of_none h3 hp)]; exact h1, h2⟩
  · by_cases z : b = p
    · subst z
      exact hp
    · rw [upd_ne z] at e
      exact a.free b e
theorem Ext.tabbed {t : Addr} (h : Tb T H) (x : GxR.Tabbed t H H1) (ht : t ∈ T) : Ext T H H1 := by
  refine ⟨fun b o e n => ?_, h, fun u hu => ?_, fun b e => ?_⟩
  · obtain ⟨ps, h1, _⟩ := h t ht
    rw [x.2 b (fun z => by rw [z, h1] at e; exact n ps (Option.some.inj e).symm)]
    exact e
  · by_cases z : u = t
    · rw [z]
      exact x.1
    · obtain ⟨ps, h1, h2⟩ := h u hu
      exact ⟨ps, by rw [x.2 u z]; exact h1, h2⟩
  · by_cases z : b = t
    · obtain ⟨ps, h1, _⟩ := x.1
      rw [z, h1] at e
      cases e
    · rw [x.2 b z] at e
      exact e
end
/-! ### shops -/
inductive Ofr where
  | pack (c : List Int) (p : Int)
  | many (c : List Int) (ts : List (Int × Int))
  | add (c : List Int) (p k : Int)
def Ofr.cont : Ofr → List Int
  | .pack c _ => c
  | .many c _ => c
  | .add c _ _ => c
def Ofr.word : Ofr → Str
  | .pack _ _ => "pack"
  | .many _ _ => "many"
  | .add _ _ _ => "add"
def TiersAt (H : Hp) (a : Addr) (ts : List (Int × Int)) : Prop := ∃ us : List Addr, H a = some (.lst (us.map V.ref)) ∧ us.length = ts.length ∧ ∀ (i : Nat) u (t : Int × Int), us[i]? = some u → ts[i]? = some t → H u = some (.tup [.int t.1, .int t.2])
def OfrAt (H : Hp) (a : Addr) : Ofr → Prop
  | .pack c p => ∃ b, H a = some (.tup [.str "pack", .ref b, .int p]) ∧ H b = some (LI c)
  | .many c ts => ∃ b t, H a = some (.tup [.str "many", .ref b, .ref t]) ∧ H b = some (LI c) ∧ TiersAt H t ts
  | .add c p k => ∃ b, H a = some (.tup [.str "add", .ref b, .int p, .int k]) ∧ H b = some (LI c)
def ShopAt (H : Hp) (a : Addr) (os : List Ofr) : Prop := ∃ vs : List Addr, H a = some (.lst (vs.map V.ref)) ∧ vs.length = os.length ∧ ∀ (i : Nat) v o, vs[i]? = some v → os[i]? = some o → OfrAt H v o
section
variable {T : List Addr} {H H1 : Hp} (e : Ext T H H1)
include e
theorem TiersAt.ext {a : Addr} {ts : List (Int × Int)} (h : TiersAt H a ts) : TiersAt H1 a ts := by
  obtain ⟨us, h1, h2, h3⟩ := h
  exact ⟨us, e.lst h1, h2, fun i u t a b => e.tup (h3 i u t a b)⟩
theorem OfrAt.ext {a : Addr} : ∀ {o : Ofr}, OfrAt H a o → OfrAt H1 a o
  | .pack c p, ⟨b, h1, h2⟩ => ⟨b, e.tup h1, e.lst h2⟩
  | .many c ts, ⟨b, t, h1, h2, h3⟩ => ⟨b, t, e.tup h1, e.lst h2, h3.ext e⟩
  | .add c p k, ⟨b, h1, h2⟩ => ⟨b, e.tup h1, e.lst h2⟩
theorem ShopAt.ext {a : Addr} {os : List Ofr} (h : ShopAt H a os) : ShopAt H1 a os := by
  obtain ⟨vs, h1, h2, h3⟩ := h
  exact ⟨vs, e.lst h1, h2, fun i v o a b => (h3 i v o a b).ext e⟩
end
/-- the offer's word and its content, whatever it is -/
theorem OfrAt.head {H : Hp} {a : Addr} : ∀ {o : Ofr}, OfrAt H a o → ∃ b r, H a = some (.tup (.str o.word :: .ref b :: r)) ∧ H b = some (LI o.cont)
  | .pack c p, ⟨b, h1, h2⟩ => ⟨b, _, h1, h2⟩
  | .many c ts, ⟨b, t, h1, h2, h3⟩ => ⟨b, _, h1, h2⟩
  | .add c p k, ⟨b, h1, h2⟩ => ⟨b, _, h1, h2⟩
theorem ShopAt.get {H : Hp} {a : Addr} {os : List Ofr} {vs : List Addr} (h : vs.length = os.length) {i : Nat} (hi : i < os.length) : ∃ v o, vs[i]? = some v ∧ os[i]? = some o ∧ (vs.map V.ref)[i]? = some (.ref v) := by
  refine ⟨vs[i]'(by omega), os[i], List.getElem?_eq_getElem (by omega), List.getElem?_eq_getElem hi, ?_⟩
  rw [List.getElem?_map, List.getElem?_eq_getElem (by omega)]
  rfl
structure GoodT (ts : List (Int × Int)) : Prop where
  pos : 1 ≤ ts.length
  few : ts.length ≤ 4
  one : ∀ t, ts[0]? = some t → t.1 = 1
  most : ∀ t ∈ ts, t.1 ≤ 12
  rise : ∀ (i : Nat) a b, ts[i]? = some a → ts[i + 1]? = some b → a.1 < b.1
def GoodO (os : List Ofr) (i : Nat) : Ofr → Prop
  | .pack _ _ => True
  | .many _ ts => GoodT ts
  | .add _ _ k => ∃ j : Nat, k = (j : Int) ∧ j < i ∧ ∃ c p, os[j]? = some (.pack c p)
def Good (os : List Ofr) : Prop := os.length ≤ 8 ∧ ∀ (i : Nat) o, os[i]? = some o → GoodO os i o
/-- F.ok with the code object told -/
theorem okc {P : Program} {w : World} {K : PySem.W.Frag} {mg : Str → Option Value} {base : Heap} {x qual : Str} {st : Stmt} {f c : Addr} {fd : FuncData} {N ps : List Str} {k : Nat} {sp : Sp} (F : Fun K x qual st f fd) (hc : fd.code = .ref c) (S : FnScope N ps (defScope st)) (len : ∀ vs H Q E, sp vs H Q E → vs.length = ps.length)
    (hbody : ∀ (cdv : Value) (A : Around) (outer : List Env) (s : Shared) (H : Hp) (vs : List V) (Q : VK) (E : XK), cdv = .ref c → Room k (A.deeper (envOfC qual (defScope st) s.heap.objs.size f cdv)) → sp vs H Q E →
      ∃ t, PSs (cxOf CX0 P w K mg base N qual (defScope st) f cdv A outer s H E).nox (defBody st) t ∧ t { nx := fun _ H' => Q .non H', rt := Q } (start N vs) H) : FnOk P w K mg base CX0 (k + 1) f fd ps sp := by
  obtain ⟨oc, od, kV, doc, pm, an, cdv, ct, osl, rfl, lk, hcd⟩ := F.ex
  refine fn_of lk hcd S len fun A outer s H vs Q E hr hsp => ?_
  obtain ⟨t, h, q⟩ := hbody cdv A outer s H vs Q E hc hr hsp
  exact ⟨t, h.nox, q⟩
/-- a list without its first -/
theorem cut1 (l : List V) : cutV l (some 1) none = l.drop 1 := by
  have a : HT.sIx l.length 0 (some ((1 : Nat) : Int)) = min 1 l.length := HT.sIx_nat _ _ _
  show (l.drop (HT.sIx l.length 0 (some ((1 : Nat) : Int)))).take (l.length - HT.sIx l.length 0 (some ((1 : Nat) : Int))) = l.drop 1
  rw [a]
  rcases Nat.eq_zero_or_pos l.length with z | z
  · rw [List.eq_nil_of_length_eq_zero z]
    rfl
  · rw [Nat.min_eq_left z]
    exact List.take_of_length_le (by rw [List.length_drop]; exact Nat.le_refl _)
/-! ### names_pack, good_tiers, can_stand, look -/
abbrev s_names_pack : Stmt := topS 6
abbrev N_names_pack : List Str := ["shop", "at", "place"]
theorem sc_names_pack : FnScope N_names_pack ["shop", "at"] (defScope s_names_pack) := ⟨rfl, rfl, rfl, by decide +kernel, rfl, by decide +kernel, by decide +kernel⟩

abbrev s_good_tiers : Stmt := topS 7
abbrev N_good_tiers : List Str := ["tiers", "begins", "begin", "price", "low", "high"]
theorem sc_good_tiers : FnScope N_good_tiers ["tiers"] (defScope s_good_tiers) := ⟨rfl, rfl, rfl, by decide +kernel, rfl, by decide +kernel, by decide +kernel⟩

abbrev s_can_stand : Stmt := topS 8
abbrev N_can_stand : List Str := ["shop", "at", "kind"]
theorem sc_can_stand : FnScope N_can_stand ["shop", "at"] (defScope s_can_stand) := ⟨rfl, rfl, rfl, by decide +kernel, rfl, by decide +kernel, by decide +kernel⟩

abbrev s_look : Stmt := topS 9
abbrev N_look : List Str := ["shop", "at"]
theorem sc_look : FnScope N_look ["shop"] (defScope s_look) := ⟨rfl, rfl, rfl, by decide +kernel, rfl, by decide +kernel, by decide +kernel⟩

def sp_names_pack : Sp := fun vs H Q _ => ∃ (a : Addr) (os : List Ofr) (i j : Nat) (c c' : List Int) (p p' : Int), vs = [.ref a, .int i] ∧ ShopAt H a os ∧ os[i]? = some (.add c p j) ∧ j < i ∧ os[j]? = some (.pack c' p') ∧ Q (.bl true) H
def sp_good_tiers (T : List Addr) : Sp := fun vs H Q _ => ∃ (a : Addr) (ts : List (Int × Int)), vs = [.ref a] ∧ TiersAt H a ts ∧ GoodT ts ∧ Tb T H ∧ ∀ H', Ext T H H' → Q (.bl true) H'
def sp_can_stand (T : List Addr) : Sp := fun vs H Q _ => ∃ (a : Addr) (os : List Ofr) (i : Nat), vs = [.ref a, .int i] ∧ ShopAt H a os ∧ Good os ∧ i < os.length ∧ Tb T H ∧ ∀ H', Ext T H H' → Q (.bl true) H'
def sp_look (T : List Addr) : Sp := fun vs H Q _ => ∃ (a : Addr) (os : List Ofr), vs = [.ref a] ∧ ShopAt H a os ∧ Good os ∧ Tb T H ∧ ∀ H', Ext T H H' → Q .non H'
section
variable {P : Program} {w : World} {K : PySem.W.Frag} {mg : Str → Option Value} {base : Heap} {T : List Addr}
theorem ok_names_pack {f : Addr} {fd : FuncData} {k : Nat} (D : Def K mg "names_pack" s_names_pack ["shop", "at"] f fd) : FnOk P w K mg base CX0 (k + 1) f fd ["shop", "at"] sp_names_pack := by
  refine D.F.ok sc_names_pack (fun vs H Q E h => ?_) (fun cdv A outer s H vs Q E hr h => ?_)
  · obtain ⟨a, os, i, j, c, c', p, p', rfl, _⟩ := h
    rfl
  · obtain ⟨a, os, i, j, c, c', p, p', rfl, ⟨vs, h1, h2, h3⟩, hi, hj, hp, q⟩ := h
    have li : i < os.length := (List.getElem?_eq_some_iff.mp hi).1
    obtain ⟨v, o, g1, g2, g3⟩ := ShopAt.get (H := H) (a := a) h2 li
    cases Option.some.inj (g2.symm.trans hi)
    obtain ⟨b, hb, _⟩ := h3 i v _ g1 g2
    obtain ⟨v', o', g4, g5, g6⟩ := ShopAt.get (H := H) (a := a) h2 (show j < os.length by omega)
    cases Option.some.inj (g5.symm.trans hp)
    obtain ⟨b', hb', _⟩ := h3 j v' _ g4 g5
    refine ⟨_, (pss_cons (ps_set (i := 2) sc_names_pack.nd rfl (Or.inl rfl) (pe_ix ix_tup (pe_ix ix_list (pv 0) (pv 1) (fun _ _ => rfl)) pe_int (fun _ _ => rfl)))
  (pss_one (ps_ret (pe_and (pe_chain op_le op_lt pe_int (pv 2) (pv 1)) (pe_one (pe_cmpR op_eq (pe_ix ix_tup (pe_ix ix_list (pv 0) (pv 2) (fun _ _ => rfl)) pe_int (fun _ _ => rfl)) pe_str (nomark _))))))), ?_⟩
    refine ⟨_, rfl, _, rfl, a, _, _, _, rfl, rfl, SqL.of h1, atI_nat g3, v, _, _, _, rfl, rfl, SqT.of hb, atI_nat (j := 3) rfl, ?_⟩
    refine ⟨_, rfl, _, _, rfl, rfl, true, (by show V.bl _ = V.bl _; rw [decide_eq_true (by omega)]), _, rfl, _, _, rfl, rfl, true, (by show V.bl _ = V.bl _; rw [decide_eq_true (by omega)]), ?_⟩
    refine ⟨_, rfl, _, rfl, a, _, _, _, rfl, rfl, SqL.of h1, atI_nat g6, v', _, _, _, rfl, rfl, SqT.of hb', atI_nat (j := 0) rfl, rfl, q⟩
theorem ok_good_tiers {f c t : Addr} {fd : FuncData} {k : Nat} (M : Names mg) (D : Def K mg "good_tiers" s_good_tiers ["tiers"] f fd) (hc : fd.code = .ref c) (TB : GxR.TabB base mg c t) (ht : t ∈ T) : FnOk P w K mg base CX0 (k + 1) f fd ["tiers"] (sp_good_tiers T) := by
  obtain ⟨t4, m_MOST_TIERS⟩ := M.c_MOST_TIERS
  obtain ⟨t12, m_MOST_PIECES⟩ := M.c_MOST_PIECES
  refine okc D.F hc sc_good_tiers (fun vs H Q E h => ?_) (fun cdv A outer s H vs Q E ec hr h => ?_)
  · obtain ⟨a, ts, rfl, _⟩ := h
    rfl
  · obtain ⟨a, ts, rfl, ⟨us, h1, h2, h3⟩, gd, hT, q⟩ := h
    refine ⟨_, (pss_cons (ps_setLc (i := 1) (own := [("begin", 2), ("price", 3)]) (by rfl) sc_good_tiers.nd rfl rfl (sw_true rfl rfl rfl (by decide +kernel)) (pi_list (pv 0)) (blkOk_by (own := [("begin", 2), ("price", 3)]) (N := N_good_tiers) (sc := defScope s_good_tiers) (by decide +kernel)) (fun _ _ _ _ _ => (pg_tupK (K := K) (n := 2) rfl rfl (pgs_cons (pg_name (i := 2) sc_good_tiers.nd rfl (Or.inl rfl)) (pgs_cons (pg_name (i := 3) sc_good_tiers.nd rfl (Or.inl rfl)) pgs_nil)))) (fun _ _ _ _ _ => pts_nil) (fun _ _ _ _ _ => (pv 2)))
  (pss_cons (ps_if (pt_not (pt_chain op_le op_le pe_int (pe_callB call_len_seq (by rfl) M.len (by decide +kernel) (pa_cons (pv 1) pa_nil)) (pe_glob (v := .int 4) (by rfl) m_MOST_TIERS ⟨_, rfl⟩)))
   (pss_one (ps_ret pe_bl))
   pss_nil)
  (pss_cons (ps_if (PW.pt (pw_or (pt_cmpR op_ne (pe_ix ix_list (pv 1) pe_int (fun _ _ => rfl)) pe_int (nomark _)) (pw_or1 (pt_cmpR op_gt (pe_ix ix_list (pv 1) (pe_un un_neg pe_int) (fun _ _ => rfl)) (pe_glob (v := .int 12) (by rfl) m_MOST_PIECES ⟨_, rfl⟩) (nomark _)))))
   (pss_one (ps_ret pe_bl))
   pss_nil)
  (pss_one (ps_ret (pe_allZip hr (by rfl) M.all (by decide +kernel) (by rfl) M.zip TB ec ⟨rfl, rfl, by decide +kernel, rfl, rfl, rfl, by decide, (by show ∀ y : Str × NameKind, y ∈ _ → y.2 = .free → (defScope s_good_tiers).names.lookup y.1 = some .cell; decide +kernel)⟩ (pv 1) (pe_slice sl_list (pv 1) (po_some pe_int) po_none) (by decide) (by decide))))))), ?_⟩
    have pos := gd.pos
    have few := gd.few
    refine ⟨_, rfl, a, rfl, ⟨_, SqL.of h1⟩, fun B nB => lc_list (xs := us.map V.ref) (fun i H' => Same H H' ∧ H' B = some (LI ((ts.take i).map (·.1)))) ⟨same_upd nB, upd_same⟩ (fun i H' _ hp => SqL.of (hp.1 _ _ h1)) (fun i x H1 hx hp => ?_) (fun H1 hp => ?_)⟩
    · obtain ⟨s1, hB⟩ := hp
      rw [List.getElem?_map] at hx
      cases hu : us[i]? with
      | none => rw [hu] at hx; cases hx
      | some u =>
        rw [hu] at hx
        cases Option.some.inj hx
        have hi : i < ts.length := by
          have := (List.getElem?_eq_some_iff.mp hu).1
          omega
        have gt := List.getElem?_eq_getElem hi
        refine ⟨u, _, rfl, SqT.of (s1 _ _ (h3 i u _ hu gt)), rfl, _, _, rfl, _, _, rfl, rfl, rfl, _, rfl, _, hB, szL' (by rw [List.length_map, List.length_map, List.length_take]; omega), sm_new s1 nB, ?_⟩
        rw [take_succ_at gt, List.map_append]
        exact at_app
    · obtain ⟨s1, hB⟩ := hp
      rw [List.length_map, h2, List.take_length] at hB
      generalize hbs : ts.map (·.1) = bs at hB
      have lbs : bs.length = ts.length := by rw [← hbs, List.length_map]
      have gbs : ∀ (i : Nat) t, ts[i]? = some t → bs[i]? = some t.1 := fun i t h => by rw [← hbs, List.getElem?_map, h]; rfl
      have gbs0 : ∀ i, i < bs.length → ∃ t, ts[i]? = some t ∧ bs[i]? = some t.1 := fun i hi => ⟨ts[i]'(by omega), List.getElem?_eq_getElem (by omega), gbs _ _ (List.getElem?_eq_getElem (by omega))⟩
      have hE : Ext T H H1 := .same s1 hT
      -- not 1 <= len(begins) <= MOST_TIERS
      refine ⟨_, rfl, B, _, rfl, .inl (SqL.of hB), _, _, rfl, rfl, true, (by show V.bl _ = V.bl _; rw [decide_eq_true (by rw [List.length_map]; omega)]), _, _, rfl, rfl, true, (by show V.bl _ = V.bl _; rw [decide_eq_true (by rw [List.length_map]; omega)]), ?_⟩
      -- begins[0] != 1 or begins[-1] > MOST_PIECES
      obtain ⟨x0, k1, k2⟩ := gbs0 0 (by omega)
      have e1 : x0.1 = 1 := gd.one _ k1
      refine ⟨_, rfl, B, _, _, _, rfl, rfl, SqL.of hB, atI_nat (j := 0) (get_ints k2), rfl, _, rfl, iteNS (by rw [e1]) ?_⟩
      obtain ⟨x1, k3, k4⟩ := gbs0 (bs.length - 1) (by omega)
      have hneg : atI (bs.map V.int) (-1) = some (.int x1.1) := by
        have e : bs.map V.int = (bs.map V.int).take (bs.length - 1) ++ [.int x1.1] := by
          rw [← take_succ_at (get_ints k4), show bs.length - 1 + 1 = bs.length by omega]
          exact (List.take_of_length_le (by rw [List.length_map]; exact Nat.le_refl _)).symm
        rw [e]
        exact atI_last _ _
      have hm := gd.most x1 (List.mem_of_getElem? k3)
      refine ⟨_, rfl, 1, rfl, B, _, -1, _, rfl, rfl, SqL.of hB, hneg, _, _, rfl, rfl, _, rfl, ?_⟩
      rw [decide_eq_false (by omega)]
      -- all(..)
      refine ⟨_, rfl, _, rfl, 1, rfl, B, _, rfl, SqL.of hB, fun z nz => ⟨B, z, bs, bs.drop 1, rfl, rfl, SqL.of ((same_upd nz) _ _ hB), SqL.of (by rw [upd_same]; congr 2; rw [List.map_drop]; exact cut1 _), (hE.new (s1.free nz)).t1 t ht, fun H3 t3 => ?_⟩⟩
      have all1 : ((List.range (min bs.length (bs.drop 1).length)).all fun i => decide (bs.getD i 0 < (bs.drop 1).getD i 0)) = true := by
        rw [List.all_eq_true]
        intro i hi
        have hi2 := List.mem_range.mp hi
        rw [List.length_drop] at hi2
        obtain ⟨y0, z1, z2⟩ := gbs0 i (by omega)
        obtain ⟨y1, z3, z4⟩ := gbs0 (i + 1) (by omega)
        have := gd.rise i y0 y1 z1 z3
        refine decide_eq_true ?_
        rw [List.getD_eq_getElem?_getD, z2, List.getD_eq_getElem?_getD, List.getElem?_drop, Nat.add_comm 1 i, z4]
        exact this
      rw [all1]
      exact q H3 ((hE.new (s1.free nz)).trans (.tabbed (hE.new (s1.free nz)).t1 t3 ht))
theorem ok_can_stand {f f1 f2 c t : Addr} {fd fd1 fd2 : FuncData} {k : Nat} (M : Names mg) (D : Def K mg "can_stand" s_can_stand ["shop", "at"] f fd) (D_names_pack : Def K mg "names_pack" s_names_pack ["shop", "at"] f1 fd1) (D_good_tiers : Def K mg "good_tiers" s_good_tiers ["tiers"] f2 fd2)
    (hc : fd2.code = .ref c) (TB : GxR.TabB base mg c t) (ht : t ∈ T) : FnOk P w K mg base CX0 (k + 2) f fd ["shop", "at"] (sp_can_stand T) := by
  have G_names_pack : FnOk P w K mg base CX0 (k + 1) f1 fd1 ["shop", "at"] sp_names_pack := ok_names_pack D_names_pack
  have G_good_tiers : FnOk P w K mg base CX0 (k + 1) f2 fd2 ["tiers"] (sp_good_tiers T) := ok_good_tiers M D_good_tiers hc TB ht
  refine D.F.ok sc_can_stand (fun vs H Q E h => ?_) (fun cdv A outer s H vs Q E hr h => ?_)
  · obtain ⟨a, os, i, rfl, _⟩ := h
    rfl
  · obtain ⟨a, os, i, rfl, ⟨vs, h1, h2, h3⟩, gd, hi, hT, q⟩ := h
    obtain ⟨v, o, g1, g2, g3⟩ := ShopAt.get (H := H) (a := a) h2 hi
    have ho := h3 i v o g1 g2
    have hg := gd.2 i o g2
    refine ⟨_, (pss_cons (ps_set (i := 2) sc_can_stand.nd rfl (Or.inl rfl) (pe_ix ix_tup (pe_ix ix_list (pv 0) (pv 1) (fun _ _ => rfl)) pe_int (fun _ _ => rfl)))
  (pss_cons (ps_if (pt_cmpR op_eq (pv 2) pe_str (nomark _))
   (pss_one (ps_ret (pe_call G_names_pack hr (by rfl) D_names_pack.g D_names_pack.F.kp D_names_pack.b .nil pass0 (pa_cons (pv 0) (pa_cons (pv 1) pa_nil)))))
   pss_nil)
  (pss_cons (ps_if (pt_cmpR op_eq (pv 2) pe_str (nomark _))
   (pss_one (ps_ret (pe_call G_good_tiers hr (by rfl) D_good_tiers.g D_good_tiers.F.kp D_good_tiers.b .nil pass0 (pa_cons (pe_ix ix_tup (pe_ix ix_list (pv 0) (pv 1) (fun _ _ => rfl)) pe_int (fun _ _ => rfl)) pa_nil))))
   pss_nil)
  (pss_one (ps_ret pe_bl))))), ?_⟩
    cases o with
    | pack c p =>
      obtain ⟨b, hb, _⟩ := ho
      refine ⟨_, rfl, _, rfl, a, _, _, _, rfl, rfl, SqL.of h1, atI_nat g3, v, _, _, _, rfl, rfl, SqT.of hb, atI_nat (j := 0) rfl, ?_⟩
      refine ⟨_, rfl, rfl, false, rfl, ?_⟩
      refine ⟨_, rfl, rfl, false, rfl, ?_⟩
      exact q H (.refl hT)
    | many c ts =>
      obtain ⟨b, t', hb, _, hts⟩ := ho
      refine ⟨_, rfl, _, rfl, a, _, _, _, rfl, rfl, SqL.of h1, atI_nat g3, v, _, _, _, rfl, rfl, SqT.of hb, atI_nat (j := 0) rfl, ?_⟩
      refine ⟨_, rfl, rfl, false, rfl, ?_⟩
      refine ⟨_, rfl, rfl, true, rfl, ?_⟩
      exact ⟨_, rfl, _, rfl, a, _, _, _, rfl, rfl, SqL.of h1, atI_nat g3, v, _, _, _, rfl, rfl, SqT.of hb, atI_nat (j := 2) rfl, t', ts, rfl, hts, hg, hT, q⟩
    | add c p kk =>
      obtain ⟨b, hb, _⟩ := ho
      obtain ⟨j, rfl, hj, c', p', hp⟩ := hg
      refine ⟨_, rfl, _, rfl, a, _, _, _, rfl, rfl, SqL.of h1, atI_nat g3, v, _, _, _, rfl, rfl, SqT.of hb, atI_nat (j := 0) rfl, ?_⟩
      refine ⟨_, rfl, rfl, true, rfl, ?_⟩
      exact ⟨_, rfl, _, rfl, a, os, i, j, c, c', p, p', rfl, ⟨vs, h1, h2, h3⟩, g2, hj, hp, q H (.refl hT)⟩
theorem ok_look {f f0 f1 f2 c t : Addr} {fd fd0 fd1 fd2 : FuncData} {k : Nat} (M : Names mg) (D : Def K mg "look" s_look ["shop"] f fd) (D_can_stand : Def K mg "can_stand" s_can_stand ["shop", "at"] f0 fd0) (D_names_pack : Def K mg "names_pack" s_names_pack ["shop", "at"] f1 fd1) (D_good_tiers : Def K mg "good_tiers" s_good_tiers ["tiers"] f2 fd2)
    (hc : fd2.code = .ref c) (TB : GxR.TabB base mg c t) (ht : t ∈ T) : FnOk P w K mg base CX0 (k + 3) f fd ["shop"] (sp_look T) := by
  have G_can_stand : FnOk P w K mg base CX0 (k + 2) f0 fd0 ["shop", "at"] (sp_can_stand T) := ok_can_stand M D_can_stand D_names_pack D_good_tiers hc TB ht
  refine D.F.ok sc_look (fun vs H Q E h => ?_) (fun cdv A outer s H vs Q E hr h => ?_)
  · obtain ⟨a, os, rfl, _⟩ := h
    rfl
  · obtain ⟨a, os, rfl, hS, gd, hT, q⟩ := h
    obtain ⟨vs, h1, h2, h3⟩ := id hS
    have l100 := gd.1
    refine ⟨_, (pss_one (ps_for PassesOwn.never rfl (pi_range1 (by rfl) M.range (pa_cons (pe_callB call_len_seq (by rfl) M.len (by decide +kernel) (pa_cons (pv 0) pa_nil)) pa_nil)) (pg_name (i := 1) sc_look.nd rfl (Or.inl rfl))
   (pss_one (ps_if (pt_not (pt_val (pe_call G_can_stand hr (by rfl) D_can_stand.g D_can_stand.F.kp D_can_stand.b .nil pass0 (pa_cons (pv 0) (pa_cons (pv 1) pa_nil)))))
   (pss_one ps_never)
   pss_nil)))), ?_⟩
    refine ⟨_, rfl, a, _, rfl, .inl (SqL.of h1), _, rfl, by omega, by rw [List.length_map]; omega, for_range (n := (((vs.map V.ref).length : Nat) : Int).toNat) (fun i σ H' => ∃ y1, σ = [some (.ref a), y1] ∧ Ext T H H') ⟨none, rfl, .refl hT⟩ (fun i σ H1 hi hp => ?_) (fun σ H1 hp => ?_)⟩
    · obtain ⟨y1, rfl, e1⟩ := hp
      rw [Int.toNat_natCast, List.length_map] at hi
      refine ⟨_, rfl, _, rfl, a, os, i, by show [V.ref a, V.int (0 + (i : Int))] = _; rw [Int.zero_add], hS.ext e1, gd, by omega, e1.t1, fun H2 e2 => ⟨true, rfl, ?_⟩⟩
      exact ⟨_, rfl, e1.trans e2⟩
    · obtain ⟨y1, rfl, e1⟩ := hp
      exact q H1 e1
end
/-! ### lines, as lists -/
/-- place by place -/
def Al {α : Type} (R : Addr → α → Prop) : List Addr → List α → Prop
  | [], [] => True
  | a :: as, x :: xs => R a x ∧ Al R as xs
  | _, _ => False
section
variable {α : Type} {R R' : Addr → α → Prop}
theorem Al.len : ∀ {as : List Addr} {xs : List α}, Al R as xs → as.length = xs.length
  | [], [], _ => rfl
  | [], _ :: _, h => h.elim
  | _ :: _, [], h => h.elim
  | _ :: _, _ :: _, h => by rw [List.length_cons, List.length_cons, Al.len h.2]
theorem Al.app : ∀ {as bs : List Addr} {xs ys : List α}, Al R as xs → Al R bs ys → Al R (as ++ bs) (xs ++ ys)
  | [], _, [], _, _, k => k
  | [], _, _ :: _, _, h, _ => h.elim
  | _ :: _, _, [], _, h, _ => h.elim
  | _ :: _, _, _ :: _, _, h, k => ⟨h.1, Al.app h.2 k⟩
theorem Al.imp (f : ∀ a x, R a x → R' a x) : ∀ {as : List Addr} {xs : List α}, Al R as xs → Al R' as xs
  | [], [], _ => True.intro
  | [], _ :: _, h => h.elim
  | _ :: _, [], h => h.elim
  | _ :: _, _ :: _, h => ⟨f _ _ h.1, Al.imp f h.2⟩
theorem Al.impM : ∀ {as : List Addr} {xs : List α}, (∀ a x, a ∈ as → R a x → R' a x) → Al R as xs → Al R' as xs
  | [], [], _, _ => True.intro
  | [], _ :: _, _, h => h.elim
  | _ :: _, [], _, h => h.elim
  | _ :: _, _ :: _, f, h => ⟨f _ _ List.mem_cons_self h.1, Al.impM (fun a x m => f a x (List.mem_cons_of_mem _ m)) h.2⟩
theorem Al.get : ∀ {as : List Addr} {xs : List α} {i : Nat} {a : Addr}, Al R as xs → as[i]? = some a → ∃ x, xs[i]? = some x ∧ R a x
  | [], [], _, _, _, e => by simp at e
  | [], _ :: _, _, _, h, _ => h.elim
  | _ :: _, [], _, _, h, _ => h.elim
  | _ :: _, x :: _, 0, _, h, e => by cases Option.some.inj e; exact ⟨x, rfl, h.1⟩
  | _ :: _, _ :: _, i + 1, _, h, e => Al.get (i := i) h.2 e
theorem Al.drop1 : ∀ {as : List Addr} {xs : List α}, Al R as xs → Al R (as.drop 1) xs.tail
  | [], [], _ => True.intro
  | [], _ :: _, h => h.elim
  | _ :: _, [], h => h.elim
  | _ :: _, _ :: _, h => h.2
theorem Al.one {a : Addr} {x : α} (h : R a x) : Al R [a] [x] := ⟨h, True.intro⟩
end
/-- a new list of ints, apart from C -/
def RowB (H0 H : Hp) (C : Addr) (a : Addr) (r : List Int) : Prop := H a = some (LI r) ∧ H0 a = none ∧ a ≠ C
def RowF (H0 H : Hp) (a : Addr) (r : List Int) : Prop := H a = some (LI r) ∧ H0 a = none
theorem RowB.keep {H0 H H' : Hp} {C a : Addr} {r : List Int} (s : SameBut C H H') (h : RowB H0 H C a r) : RowB H0 H' C a r := ⟨s _ _ h.2.2 h.1, h.2⟩
theorem RowF.keep {H0 H H' : Hp} {a : Addr} {r : List Int} (s : Same H H') (h : RowF H0 H a r) : RowF H0 H' a r := ⟨s _ _ h.1, h.2⟩
theorem RowB.toF {H0 H : Hp} {C a : Addr} {r : List Int} (h : RowB H0 H C a r) : RowF H0 H a r := ⟨h.1, h.2.1⟩
structure Ln where
  p : Int
  c : Int
  as : List Int
/-- a line, its tuple and its list new -/
def LineF (H0 H : Hp) (a : Addr) (l : Ln) : Prop := ∃ b, H a = some (.tup [.int l.p, .int l.c, .ref b]) ∧ H b = some (LI l.as) ∧ H0 a = none ∧ H0 b = none
def LineB (H0 H : Hp) (B : Addr) (a : Addr) (l : Ln) : Prop := ∃ b, H a = some (.tup [.int l.p, .int l.c, .ref b]) ∧ H b = some (LI l.as) ∧ H0 a = none ∧ H0 b = none ∧ a ≠ B ∧ b ≠ B
theorem LineB.keep {H0 H H' : Hp} {B a : Addr} {l : Ln} (s : SameBut B H H') (h : LineB H0 H B a l) : LineB H0 H' B a l := by
  obtain ⟨b, h1, h2, h3, h4, h5, h6⟩ := h
  exact ⟨b, s _ _ h5 h1, s _ _ h6 h2, h3, h4, h5, h6⟩
theorem LineB.toF {H0 H : Hp} {B a : Addr} {l : Ln} (h : LineB H0 H B a l) : LineF H0 H a l := by
  obtain ⟨b, h1, h2, h3, h4, _⟩ := h
  exact ⟨b, h1, h2, h3, h4⟩
theorem LineF.toB {H0 H1 H : Hp} {B a : Addr} {l : Ln} (h : LineF H1 H a l) (f : ∀ b, H1 b = none → H0 b = none) (hB : H1 B ≠ none) : LineB H0 H B a l := by
  obtain ⟨b, h1, h2, h3, h4⟩ := h
  exact ⟨b, h1, h2, f _ h3, f _ h4, fun z => hB (by rw [← z]; exact h3), fun z => hB (by rw [← z]; exact h4)⟩
def LinesF (H0 H : Hp) (q : Addr) (ls : List Ln) : Prop := ∃ as : List Addr, H q = some (.lst (as.map V.ref)) ∧ Al (LineF H0 H) as ls
def isAdd (os : List Ofr) (p : Int) (i : Nat) : Bool := match os[i]? with
  | some (.add _ _ k) => decide (k = p)
  | _ => false
def addsN (os : List Ofr) (p : Int) (n : Nat) : List Int := ((List.range n).filter (isAdd os p)).map fun (i : Nat) => (i : Int)
def addsM (os : List Ofr) (p : Int) : List Int := addsN os p os.length
theorem addsN_len (os : List Ofr) (p : Int) (n : Nat) : (addsN os p n).length ≤ n := by
  unfold addsN
  rw [List.length_map]
  exact Nat.le_trans (List.length_filter_le _ _) (by rw [List.length_range]; exact Nat.le_refl _)
theorem addsN_yes {os : List Ofr} {p : Int} {n : Nat} (h : isAdd os p n = true) : addsN os p (n + 1) = addsN os p n ++ [(n : Int)] := by
  unfold addsN
  rw [List.range_succ, List.filter_append, List.map_append]
  simp [h]
theorem addsN_no {os : List Ofr} {p : Int} {n : Nat} (h : isAdd os p n = false) : addsN os p (n + 1) = addsN os p n := by
  unfold addsN
  rw [List.range_succ, List.filter_append, List.map_append]
  simp [h]
def choicesM : List Int → List (List Int)
  | [] => [[]]
  | p :: ps => ([[]] ++ (choicesM ps).map (p :: ·)) ++ (choicesM ps).tail
theorem choicesM_len : ∀ ps : List Int, (choicesM ps).length = 2 ^ ps.length
  | [] => rfl
  | p :: ps => by
    have ih := choicesM_len ps
    have pos : 0 < 2 ^ ps.length := Nat.pow_pos (by decide)
    show (([[]] ++ (choicesM ps).map (p :: ·)) ++ (choicesM ps).tail).length = 2 ^ (ps.length + 1)
    rw [List.length_append, List.length_append, List.length_map, List.length_tail, ih, Nat.pow_succ]
    show 1 + 2 ^ ps.length + (2 ^ ps.length - 1) = _
    omega
theorem choicesM_le {ps : List Int} (h : ps.length ≤ 8) : (choicesM ps).length ≤ 256 := by
  rw [choicesM_len]
  exact Nat.le_trans (Nat.pow_le_pow_right (by decide) h) (by decide)
def linesAtM (os : List Ofr) (p : Nat) : List Ln := match os[p]? with
  | some (.pack _ _) => (choicesM (addsM os p)).map fun c => ⟨p, 1, c⟩
  | some (.many _ _) => (List.range 12).map fun i => ⟨p, 1 + (i : Nat), []⟩
  | _ => []
def linesM (os : List Ofr) : List Ln := (List.range os.length).flatMap (linesAtM os)
theorem linesAtM_len {os : List Ofr} (h : os.length ≤ 8) (p : Nat) : (linesAtM os p).length ≤ 256 := by
  unfold linesAtM
  split
  · rw [List.length_map]
    exact choicesM_le (Nat.le_trans (addsN_len _ _ _) h)
  · rw [List.length_map, List.length_range]
    decide
  · decide
theorem linesN_len {os : List Ofr} (h : os.length ≤ 8) : ∀ n : Nat, ((List.range n).flatMap (linesAtM os)).length ≤ n * 256
  | 0 => by simp
  | n + 1 => by
    have ih := linesN_len h n
    have := linesAtM_len h n
    rw [List.range_succ, List.flatMap_append, List.length_append, List.flatMap_singleton]
    omega
theorem OfrAt.same {H H' : Hp} (s : Same H H') {a : Addr} : ∀ {o : Ofr}, OfrAt H a o → OfrAt H' a o
  | .pack c p, ⟨b, h1, h2⟩ => ⟨b, s _ _ h1, s _ _ h2⟩
  | .many c ts, ⟨b, t, h1, h2, us, h3, h4, h5⟩ => ⟨b, t, s _ _ h1, s _ _ h2, us, s _ _ h3, h4, fun i u t a b => s _ _ (h5 i u t a b)⟩
  | .add c p k, ⟨b, h1, h2⟩ => ⟨b, s _ _ h1, s _ _ h2⟩
theorem ShopAt.same {H H' : Hp} (s : Same H H') {a : Addr} {os : List Ofr} (h : ShopAt H a os) : ShopAt H' a os := by
  obtain ⟨vs, h1, h2, h3⟩ := h
  exact ⟨vs, s _ _ h1, h2, fun i v o a b => (h3 i v o a b).same s⟩
/-! ### adds_to, choices -/
abbrev s_adds_to : Stmt := topS 10
abbrev N_adds_to : List Str := ["shop", "place", "at", "offer"]
theorem sc_adds_to : FnScope N_adds_to ["shop", "place"] (defScope s_adds_to) := ⟨rfl, rfl, rfl, by decide +kernel, rfl, by decide +kernel, by decide +kernel⟩

abbrev s_choices : Stmt := topS 11
abbrev N_choices : List Str := ["places", "told", "place", "chosen"]
theorem sc_choices : FnScope N_choices ["places"] (defScope s_choices) := ⟨rfl, rfl, rfl, by decide +kernel, rfl, by decide +kernel, by decide +kernel⟩

abbrev s_lines_at : Stmt := topS 12
abbrev N_lines_at : List Str := ["shop", "place", "kind", "adds", "count"]
theorem sc_lines_at : FnScope N_lines_at ["shop", "place"] (defScope s_lines_at) := ⟨rfl, rfl, rfl, by decide +kernel, rfl, by decide +kernel, by decide +kernel⟩

abbrev s_lines : Stmt := topS 13
abbrev N_lines : List Str := ["shop", "place", "line"]
theorem sc_lines : FnScope N_lines ["shop"] (defScope s_lines) := ⟨rfl, rfl, rfl, by decide +kernel, rfl, by decide +kernel, by decide +kernel⟩

def sp_adds_to : Sp := fun vs H Q _ => ∃ (a : Addr) (os : List Ofr) (p : Nat), vs = [.ref a, .int p] ∧ ShopAt H a os ∧ os.length ≤ 8 ∧ ∀ H' q, Same H H' → H q = none → H' q = some (LI (addsM os p)) → Q (.ref q) H'
def sp_choices : Sp := fun vs H Q _ => ∃ (a : Addr) (ps : List Int), vs = [.ref a] ∧ H a = some (LI ps) ∧ ps.length ≤ 8 ∧ ∀ H' q (as : List Addr), Same H H' → H q = none → H' q = some (.lst (as.map V.ref)) → Al (RowF H H') as (choicesM ps) → Q (.ref q) H'
def sp_lines_at : Sp := fun vs H Q _ => ∃ (a : Addr) (os : List Ofr) (p : Nat), vs = [.ref a, .int p] ∧ ShopAt H a os ∧ os.length ≤ 8 ∧ p < os.length ∧ ∀ H' q, Same H H' → H q = none → LinesF H H' q (linesAtM os p) → Q (.ref q) H'
def sp_lines (T : List Addr) : Sp := fun vs H Q _ => ∃ (a : Addr) (os : List Ofr), vs = [.ref a] ∧ ShopAt H a os ∧ Good os ∧ Tb T H ∧ ∀ H' q, Ext T H H' → H q = none → LinesF H H' q (linesM os) → Q (.ref q) H'
section
variable {P : Program} {w : World} {K : PySem.W.Frag} {mg : Str → Option Value} {base : Heap} {T : List Addr}
theorem ok_adds_to {f : Addr} {fd : FuncData} {k : Nat} (M : Names mg) (D : Def K mg "adds_to" s_adds_to ["shop", "place"] f fd) : FnOk P w K mg base CX0 (k + 1) f fd ["shop", "place"] sp_adds_to := by
  refine D.F.ok sc_adds_to (fun vs H Q E h => ?_) (fun cdv A outer s H vs Q E hr h => ?_)
  · obtain ⟨a, os, p, rfl, _⟩ := h
    rfl
  · obtain ⟨a, os, p, rfl, ⟨vs, h1, h2, h3⟩, h8, q⟩ := h
    refine ⟨_, (pss_one (ps_ret (pe_lc (own := [("at", 2), ("offer", 3)]) (by rfl) sc_adds_to.nd (pi_enum (by rfl) M.enumerate (pa_cons (pv 0) pa_nil)) (blkOk_by (own := [("at", 2), ("offer", 3)]) (N := N_adds_to) (sc := defScope s_adds_to) (by decide +kernel)) (fun _ _ _ _ _ => (pg_tupK (K := K) (n := 2) rfl rfl (pgs_cons (pg_name (i := 2) sc_adds_to.nd rfl (Or.inl rfl)) (pgs_cons (pg_name (i := 3) sc_adds_to.nd rfl (Or.inl rfl)) pgs_nil)))) (fun _ _ _ _ _ => (pts_one (PW.pt (pw_and (pt_cmpR op_eq (pe_ix (ix_tupK (K := K) rfl) (pv 3) pe_int (fun _ _ => rfl)) pe_str (nomark _)) (pw_and1 (pt_cmpR op_eq (pe_ix (ix_tupK (K := K) rfl) (pv 3) pe_int (fun _ _ => rfl)) (pv 1) (nomark _))))))) (fun _ _ _ _ _ => (pv 2))))), ?_⟩
    refine ⟨_, rfl, a, _, rfl, SqL.of h1, fun B nB => lc_it (walk_enum (xs := vs.map V.ref)) (fun i H' => Same H H' ∧ H' B = some (LI (addsN os p i))) ⟨same_upd nB, upd_same⟩ (fun i H' _ hp => SqL.of (hp.1 _ _ h1)) (fun i x H1 H2 hi hp hy => ?_) (fun H1 hp => ?_)⟩
    · obtain ⟨s1, hB⟩ := hp
      obtain ⟨Tt, x1, x2, rfl, nT, rfl, e1, e2⟩ := hy
      cases Option.some.inj e1
      rw [List.length_map] at hi
      obtain ⟨v, o, g1, g2, g3⟩ := ShopAt.get (H := H) (a := a) h2 (show i < os.length by omega)
      have e2' : (vs.map V.ref)[i]? = some x2 := e2
      rw [g3] at e2'
      cases Option.some.inj e2'
      have s2 : Same H (upd H1 Tt (.tup [.int (i : Nat), .ref v])) := s1.trans (same_upd nT)
      have hB2 : upd H1 Tt (.tup [.int (i : Nat), .ref v]) B = some (LI (addsN os p i)) := (same_upd nT) _ _ hB
      have ho := (h3 i v o g1 g2).same s2
      have nlen := addsN_len os p i
      cases o with
      | pack c pr =>
        obtain ⟨b, hb, _⟩ := ho
        have hn : isAdd os p i = false := by unfold isAdd; rw [g2]
        refine ⟨Tt, _, rfl, SqT.of upd_same, rfl, _, _, rfl, _, _, rfl, rfl, rfl, _, rfl, v, _, _, _, rfl, rfl, SqT.of hb, atI_nat (j := 0) rfl, rfl, false, rfl, ?_⟩
        exact ⟨s2, by rw [addsN_no hn]; exact hB2⟩
      | many c ts =>
        obtain ⟨b, t', hb, _⟩ := ho
        have hn : isAdd os p i = false := by unfold isAdd; rw [g2]
        refine ⟨Tt, _, rfl, SqT.of upd_same, rfl, _, _, rfl, _, _, rfl, rfl, rfl, _, rfl, v, _, _, _, rfl, rfl, SqT.of hb, atI_nat (j := 0) rfl, rfl, false, rfl, ?_⟩
        exact ⟨s2, by rw [addsN_no hn]; exact hB2⟩
      | add c pr kk =>
        obtain ⟨b, hb, _⟩ := ho
        refine ⟨Tt, _, rfl, SqT.of upd_same, rfl, _, _, rfl, _, _, rfl, rfl, rfl, _, rfl, v, _, _, _, rfl, rfl, SqT.of hb, atI_nat (j := 0) rfl, rfl, true, rfl, ?_⟩
        refine ⟨_, rfl, v, _, _, _, rfl, rfl, SqT.of hb, atI_nat (j := 3) rfl, _, rfl, rfl, _, rfl, ite2 (fun c => ?_) (fun c => ?_)⟩
        · have ek : kk = (p : Int) := V.int.inj (of_decide_eq_true c)
          have hn : isAdd os p i = true := by unfold isAdd; rw [g2]; exact decide_eq_true ek
          refine ⟨_, rfl, _, hB2, szL' (by rw [List.length_map]; omega), sm_new s2 nB, ?_⟩
          rw [addsN_yes hn]
          exact at_app
        · have hn : isAdd os p i = false := by unfold isAdd; rw [g2]; exact decide_eq_false fun z => c (decide_eq_true (by rw [z]))
          exact ⟨s2, by rw [addsN_no hn]; exact hB2⟩
    · obtain ⟨s1, hB⟩ := hp
      rw [List.length_map, h2] at hB
      exact q H1 B s1 nB hB
theorem ok_choices {f : Addr} {fd : FuncData} {k : Nat} (M : Names mg) (D : Def K mg "choices" s_choices ["places"] f fd) : FnOk P w K mg base CX0 (k + 1) f fd ["places"] sp_choices := by
  refine D.F.ok sc_choices (fun vs H Q E h => ?_) (fun cdv A outer s H vs Q E hr h => ?_)
  · obtain ⟨a, ps, rfl, _⟩ := h
    rfl
  · obtain ⟨a, ps, rfl, ha, h8, q⟩ := h
    refine ⟨_, (pss_cons (ps_set (i := 1) sc_choices.nd rfl (Or.inl rfl) (pe_lst (pa_cons (pe_lst pa_nil) pa_nil)))
  (pss_cons (ps_for PassesOwn.never rfl (pi_reversed (by rfl) M.reversed (pa_cons (pv 0) pa_nil)) (pg_name (i := 2) sc_choices.nd rfl (Or.inr rfl))
   (pss_one (ps_set (i := 1) sc_choices.nd rfl (Or.inl rfl) (pe_op op_cat (pe_op op_cat (pe_lst (pa_cons (pe_lst pa_nil) pa_nil)) (pe_lc (own := [("chosen", 3)]) (by rfl) sc_choices.nd (pi_list (pv 1)) (blkOk_by (own := [("chosen", 3)]) (N := N_choices) (sc := defScope s_choices) (by decide +kernel)) (fun _ _ _ _ _ => (pg_name (i := 3) sc_choices.nd rfl (Or.inl rfl))) (fun _ _ _ _ _ => pts_nil) (fun _ _ _ _ _ => (pe_op op_cat (pe_lst (pa_cons (pv 2) pa_nil)) (pv 3))))) (pe_slice sl_list (pv 1) (po_some pe_int) po_none)))))
  (pss_one (ps_ret (pv 1))))), ?_⟩
    refine ⟨Nat.zero_le _, fun z nz => ⟨by show 1 ≤ sizeLine; decide, fun t nt => ?_⟩⟩
    have nzt : z ≠ t := ne_of_none upd_same nt
    have s0 : Same H (upd (upd H z (.lst [])) t (.lst [.ref z])) := (same_upd nz).trans (same_upd nt)
    refine ⟨_, rfl, a, _, rfl, SqL.of (s0 _ _ ha), for_it (walk_rev (xs := ps.map V.int)) (fun i σ H' => ∃ t y2 as, σ = [some (.ref a), some (.ref t), y2, none] ∧ Same H H' ∧ H t = none ∧ H' t = some (.lst (as.map V.ref)) ∧ Al (RowF H H') as (choicesM (ps.drop (ps.length - i)))) ⟨t, none, [z], rfl, s0, (same_upd nz).free nt, upd_same, ?_⟩ (fun i σ H' _ hp => ?_) (fun i x σ H1 H2 hi hp hy => ?_) (fun σ H1 hp => ?_)⟩
    · rw [Nat.sub_zero, List.drop_length]
      exact .one ⟨by rw [upd_ne nzt]; exact upd_same, nz⟩
    · obtain ⟨t, y2, as, _, s1, _⟩ := hp
      exact SqL.of (s1 _ _ ha)
    · obtain ⟨t1, y2, as, rfl, s1, nt1, ht1, al⟩ := hp
      obtain ⟨rfl, hx⟩ := hy
      rw [List.length_map] at hi hx
      obtain ⟨n, hn, rfl⟩ := of_get_ints hx
      have ed : ps.drop (ps.length - (i + 1)) = n :: ps.drop (ps.length - i) := by
        have hlt : ps.length - 1 - i < ps.length := by omega
        rw [show ps.length - (i + 1) = ps.length - 1 - i by omega, List.drop_eq_getElem_cons hlt, show ps.length - 1 - i + 1 = ps.length - i by omega]
        congr 1
        exact (List.getElem?_eq_some_iff.mp hn).2
      generalize hrs : choicesM (ps.drop (ps.length - i)) = rs at al
      have lrs : rs.length ≤ 256 := by
        rw [← hrs]
        exact choicesM_le (by rw [List.length_drop]; omega)
      have lal := al.len
      refine ⟨Nat.zero_le _, fun z nz => ⟨by show 1 ≤ sizeLine; decide, fun e ne => ?_⟩⟩
      have nze : z ≠ e := ne_of_none upd_same ne
      have s2 : Same H2 (upd (upd H2 z (.lst [])) e (.lst [.ref z])) := (same_upd nz).trans (same_upd ne)
      have hz2 : upd (upd H2 z (.lst [])) e (.lst [.ref z]) z = some (LI []) := by rw [upd_ne nze]; exact upd_same
      have he2 : upd (upd H2 z (.lst [])) e (.lst [.ref z]) e = some (.lst [.ref z]) := upd_same
      generalize upd (upd H2 z (.lst [])) e (.lst [.ref z]) = H3 at s2 hz2 he2 ⊢
      refine ⟨_, rfl, t1, rfl, ⟨_, SqL.of (s2 _ _ ht1)⟩, fun C nC => lc_list (xs := as.map V.ref) (fun j H' => Same H3 H' ∧ ∃ cs : List Addr, H' C = some (.lst (cs.map V.ref)) ∧ Al (RowB H H' C) cs ((rs.take j).map (n :: ·))) ⟨same_upd nC, [], upd_same, True.intro⟩ (fun j H' _ hp => SqL.of (hp.1 _ _ (s2 _ _ ht1))) (fun j x H4 hx hp => ?_) (fun H4 hp => ?_)⟩
      · obtain ⟨s4, cs, hC, alc⟩ := hp
        rw [List.getElem?_map] at hx
        cases hu : as[j]? with
        | none => rw [hu] at hx; cases hx
        | some u =>
          rw [hu] at hx
          cases Option.some.inj hx
          obtain ⟨r, hr, hur⟩ := al.get hu
          have lr : r.length ≤ 8 := by
            have : ∀ (ps : List Int) r, r ∈ choicesM ps → r.length ≤ ps.length := by
              intro ps
              induction ps with
              | nil => intro r h; rw [List.mem_singleton.mp h]; exact Nat.le_refl _
              | cons p ps ih =>
                intro r h
                rcases List.mem_append.mp h with h | h
                · rcases List.mem_append.mp h with h | h
                  · rw [List.mem_singleton.mp h]; exact Nat.zero_le _
                  · obtain ⟨r', h', rfl⟩ := List.mem_map.mp h
                    have := ih r' h'
                    rw [List.length_cons, List.length_cons]
                    omega
                · have := ih r (List.mem_of_mem_tail h)
                  rw [List.length_cons]
                  omega
            have := this (ps.drop (ps.length - i)) r (by rw [hrs]; exact List.mem_of_getElem? hr)
            rw [List.length_drop] at this
            omega
          refine ⟨rfl, _, rfl, by show 1 ≤ sizeLine; decide, fun g ng => ?_⟩
          have hu4 : H4 u = some (LI r) := s4 _ _ (s2 _ _ hur.1)
          have ngu : u ≠ g := ne_of_none hu4 ng
          refine ⟨_, rfl, g, u, _, _, rfl, rfl, upd_same, (by rw [upd_ne ngu]; exact hu4), szL (by rw [List.length_map]; show 1 + r.length ≤ _; omega), fun v nv => ?_⟩
          have s5 : Same H4 (upd (upd H4 g (.lst [.int n])) v (.lst ([.int n] ++ r.map V.int))) := (same_upd ng).trans (same_upd nv)
          have lc := alc.len
          rw [List.length_map, List.length_take] at lc
          refine ⟨_, s5 _ _ hC, szL' (by rw [List.length_map]; omega), sm_new (s4.trans s5) nC, cs ++ [v], ?_, ?_⟩
          · rw [upd_same, List.map_append]
            rfl
          · have nvC : v ≠ C := fun z => by
              rw [z] at nv
              rw [(same_upd ng) _ _ hC] at nv
              cases nv
            rw [take_succ_at hr, List.map_append]
            exact Al.app (alc.imp fun a x h => h.keep ((SameBut.of s5).trans .upd)) (.one ⟨by rw [upd_ne nvC, upd_same]; rfl, ((s1.trans s2).trans s4).free ((same_upd ng).free nv), nvC⟩)
      · obtain ⟨s4, cs, hC, alc⟩ := hp
        rw [List.length_map, lal, List.take_length] at alc
        have lc := alc.len
        rw [List.length_map] at lc
        refine ⟨e, C, _, _, rfl, rfl, s4 _ _ he2, hC, szL (by rw [List.length_map]; show 1 + _ ≤ _; omega), fun g ng => ?_⟩
        refine ⟨_, rfl, 1, rfl, t1, _, rfl, SqL.of ((same_upd ng) _ _ (s4 _ _ (s2 _ _ ht1))), fun sl nsl => ?_⟩
        have s5 : Same H4 (upd (upd H4 g (.lst ([.ref z] ++ cs.map V.ref))) sl (.lst (cutV (as.map V.ref) (some 1) none))) := (same_upd ng).trans (same_upd nsl)
        have hg5 : upd (upd H4 g (.lst ([.ref z] ++ cs.map V.ref))) sl (.lst (cutV (as.map V.ref) (some 1) none)) g = some (.lst ([.ref z] ++ cs.map V.ref)) := (same_upd nsl) _ _ upd_same
        refine ⟨g, sl, _, _, rfl, rfl, hg5, upd_same, szL (by rw [cut1, List.length_drop, List.length_map, List.length_append, List.length_map]; show 1 + _ + _ ≤ _; omega), fun t' nt' => ?_⟩
        have s6 := s5.trans (same_upd (o := .lst ([.ref z] ++ cs.map V.ref ++ cutV (as.map V.ref) (some 1) none)) nt')
        have s46 := (s2.trans s4).trans s6
        refine ⟨t', _, ([z] ++ cs) ++ as.drop 1, rfl, s1.trans s46, ((s1.trans (s2.trans s4)).trans s5).free nt', ?_, ?_⟩
        · rw [upd_same, cut1, List.map_append, List.map_append, List.map_drop]
          rfl
        · rw [ed]
          show Al _ _ (([[]] ++ (choicesM (ps.drop (ps.length - i))).map (n :: ·)) ++ (choicesM (ps.drop (ps.length - i))).tail)
          rw [hrs]
          exact Al.app (Al.app (.one ⟨s6 _ _ (s4 _ _ hz2), s1.free nz⟩) (alc.imp fun a x h => h.toF.keep s6)) ((al.drop1).imp fun a x h => h.keep s46)
    · obtain ⟨t1, y2, as, rfl, s1, nt1, ht1, al⟩ := hp
      rw [List.length_map, Nat.sub_self, List.drop_zero] at al
      exact ⟨_, rfl, q H1 t1 as s1 nt1 ht1 al⟩
end
section
variable {P : Program} {w : World} {K : PySem.W.Frag} {mg : Str → Option Value} {base : Heap} {T : List Addr}
theorem ok_lines_at {f f1 f2 : Addr} {fd fd1 fd2 : FuncData} {k : Nat} (M : Names mg) (D : Def K mg "lines_at" s_lines_at ["shop", "place"] f fd) (D_adds_to : Def K mg "adds_to" s_adds_to ["shop", "place"] f1 fd1) (D_choices : Def K mg "choices" s_choices ["places"] f2 fd2) : FnOk P w K mg base CX0 (k + 2) f fd ["shop", "place"] sp_lines_at := by
  have G_adds_to : FnOk P w K mg base CX0 (k + 1) f1 fd1 ["shop", "place"] sp_adds_to := ok_adds_to M D_adds_to
  have G_choices : FnOk P w K mg base CX0 (k + 1) f2 fd2 ["places"] sp_choices := ok_choices M D_choices
  obtain ⟨t12, m_MOST_PIECES⟩ := M.c_MOST_PIECES
  refine D.F.ok sc_lines_at (fun vs H Q E h => ?_) (fun cdv A outer s H vs Q E hr h => ?_)
  · obtain ⟨a, os, p, rfl, _⟩ := h
    rfl
  · obtain ⟨a, os, p, rfl, hS, h8, hp, q⟩ := h
    obtain ⟨vs, h1, h2, h3⟩ := id hS
    obtain ⟨v, o, g1, g2, g3⟩ := ShopAt.get (H := H) (a := a) h2 hp
    have ho := h3 p v o g1 g2
    refine ⟨_, (pss_cons (ps_set (i := 2) sc_lines_at.nd rfl (Or.inl rfl) (pe_ix ix_tup (pe_ix ix_list (pv 0) (pv 1) (fun _ _ => rfl)) pe_int (fun _ _ => rfl)))
  (pss_cons (ps_if (pt_cmpR op_eq (pv 2) pe_str (nomark _))
   (pss_one (ps_ret (pe_lc (own := [("adds", 3)]) (by rfl) sc_lines_at.nd (pi_list (pe_call G_choices hr (by rfl) D_choices.g D_choices.F.kp D_choices.b .nil pass0 (pa_cons (pe_call G_adds_to hr (by rfl) D_adds_to.g D_adds_to.F.kp D_adds_to.b .nil pass0 (pa_cons (pv 0) (pa_cons (pv 1) pa_nil))) pa_nil))) (blkOk_by (own := [("adds", 3)]) (N := N_lines_at) (sc := defScope s_lines_at) (by decide +kernel)) (fun _ _ _ _ _ => (pg_name (i := 3) sc_lines_at.nd rfl (Or.inl rfl))) (fun _ _ _ _ _ => pts_nil) (fun _ _ _ _ _ => (pe_tup (pa_cons (pv 1) (pa_cons pe_int (pa_cons (pv 3) pa_nil))))))))
   pss_nil)
  (pss_cons (ps_if (pt_cmpR op_eq (pv 2) pe_str (nomark _))
   (pss_one (ps_ret (pe_lc (own := [("count", 4)]) (by rfl) sc_lines_at.nd (pi_range2 (by rfl) M.range (pa_cons pe_int (pa_cons (pe_op op_add (pe_glob (v := .int 12) (by rfl) m_MOST_PIECES ⟨_, rfl⟩) pe_int) pa_nil))) (blkOk_by (own := [("count", 4)]) (N := N_lines_at) (sc := defScope s_lines_at) (by decide +kernel)) (fun _ _ _ _ _ => (pg_name (i := 4) sc_lines_at.nd rfl (Or.inl rfl))) (fun _ _ _ _ _ => pts_nil) (fun _ _ _ _ _ => (pe_tup (pa_cons (pv 1) (pa_cons (pv 4) (pa_cons (pe_lst pa_nil) pa_nil))))))))
   pss_nil)
  (pss_one (ps_ret (pe_lst pa_nil)))))), ?_⟩
    cases o with
    | pack c pr =>
      obtain ⟨b, hb, _⟩ := ho
      have em : linesAtM os p = (choicesM (addsM os p)).map fun c => ⟨p, 1, c⟩ := by unfold linesAtM; rw [g2]
      refine ⟨_, rfl, _, rfl, a, _, _, _, rfl, rfl, SqL.of h1, atI_nat g3, v, _, _, _, rfl, rfl, SqT.of hb, atI_nat (j := 0) rfl, ?_⟩
      refine ⟨_, rfl, rfl, true, rfl, ?_⟩
      refine ⟨_, rfl, _, rfl, a, os, p, rfl, hS, h8, fun H1 ad s1 nad had => ?_⟩
      have la : (addsM os p).length ≤ 8 := Nat.le_trans (addsN_len _ _ _) h8
      refine ⟨ad, addsM os p, rfl, had, la, fun H2 ch as s2 nch hch al => ?_⟩
      have lal := al.len
      have lch := choicesM_le la
      refine ⟨ch, rfl, ⟨_, SqL.of hch⟩, fun B nB => lc_list (xs := as.map V.ref) (fun j H' => Same H2 H' ∧ ∃ ls : List Addr, H' B = some (.lst (ls.map V.ref)) ∧ Al (LineB H H' B) ls (((choicesM (addsM os p)).take j).map fun c => ⟨p, 1, c⟩)) ⟨same_upd nB, [], upd_same, True.intro⟩ (fun j H' _ hp => SqL.of (hp.1 _ _ hch)) (fun j x H3 hx hp => ?_) (fun H3 hp => ?_)⟩
      · obtain ⟨s3, ls, hB, all⟩ := hp
        rw [List.getElem?_map] at hx
        cases hu : as[j]? with
        | none => rw [hu] at hx; cases hx
        | some u =>
          rw [hu] at hx
          cases Option.some.inj hx
          obtain ⟨r, hr, hur, nu⟩ := al.get hu
          have hu3 : H3 u = some (LI r) := s3 _ _ hur
          have nuB : u ≠ B := ne_of_none hur nB
          refine ⟨rfl, _, rfl, _, rfl, by show 3 ≤ sizeLine; decide, fun t nt => ?_⟩
          have ntB : t ≠ B := fun z => by
            rw [z, hB] at nt
            cases nt
          have ntu : u ≠ t := ne_of_none hu3 nt
          have lls := all.len
          rw [List.length_map, List.length_take] at lls
          refine ⟨_, (same_upd nt) _ _ hB, szL' (by rw [List.length_map]; omega), sm_new (s3.trans (same_upd nt)) nB, ls ++ [t], ?_, ?_⟩
          · rw [upd_same, List.map_append]
            rfl
          · rw [take_succ_at hr, List.map_append]
            refine Al.app (all.imp fun l x h => h.keep ((SameBut.of (same_upd nt)).trans .upd)) (.one ⟨u, ?_, ?_, (((s1.trans s2).trans s3).free nt), s1.free nu, ntB, nuB⟩)
            · rw [upd_ne ntB]
              exact upd_same
            · rw [upd_ne nuB]
              exact (same_upd nt) _ _ hu3
      · obtain ⟨s3, ls, hB, all⟩ := hp
        rw [List.length_map, lal, List.take_length] at all
        refine q H3 B ((s1.trans s2).trans s3) ((s1.trans s2).free nB) ⟨ls, hB, ?_⟩
        rw [em]
        exact all.imp fun l x h => h.toF
    | many c ts =>
      obtain ⟨b, t', hb, _⟩ := ho
      have em : linesAtM os p = (List.range 12).map fun i => ⟨p, 1 + (i : Nat), []⟩ := by unfold linesAtM; rw [g2]
      refine ⟨_, rfl, _, rfl, a, _, _, _, rfl, rfl, SqL.of h1, atI_nat g3, v, _, _, _, rfl, rfl, SqT.of hb, atI_nat (j := 0) rfl, ?_⟩
      refine ⟨_, rfl, rfl, false, rfl, ?_⟩
      refine ⟨_, rfl, rfl, true, rfl, ?_⟩
      refine ⟨_, _, rfl, rfl, 1, _, rfl, ⟨by decide, by decide, by decide, by decide⟩, fun B nB => lc_range (lo := 1) (n := 12) (fun j H' => Same H H' ∧ ∃ ls : List Addr, H' B = some (.lst (ls.map V.ref)) ∧ Al (LineB H H' B) ls ((List.range j).map fun i => ⟨p, 1 + (i : Nat), []⟩)) ⟨same_upd nB, [], upd_same, True.intro⟩ (fun j H3 hj hp => ?_) (fun H3 hp => ?_)⟩
      · obtain ⟨s3, ls, hB, all⟩ := hp
        refine ⟨rfl, _, rfl, _, rfl, Nat.zero_le _, fun u nu => ⟨by show 3 ≤ sizeLine; decide, fun t nt => ?_⟩⟩
        have nuB : u ≠ B := fun z => by
          rw [z, hB] at nu
          cases nu
        have hB1 : upd H3 u (.lst []) B = some (.lst (ls.map V.ref)) := (same_upd nu) _ _ hB
        have ntB : t ≠ B := fun z => by
          rw [z, hB1] at nt
          cases nt
        have ntu : u ≠ t := ne_of_none upd_same nt
        have s4 : Same H3 (upd (upd H3 u (.lst [])) t (.tup [.int p, .int (1 + (j : Nat)), .ref u])) := (same_upd nu).trans (same_upd nt)
        have lls := all.len
        rw [List.length_map, List.length_range] at lls
        refine ⟨_, s4 _ _ hB, szL' (by rw [List.length_map]; omega), sm_new (s3.trans s4) nB, ls ++ [t], ?_, ?_⟩
        · rw [upd_same, List.map_append]
          rfl
        · rw [List.range_succ, List.map_append]
          refine Al.app (all.imp fun l x h => h.keep ((SameBut.of s4).trans .upd)) (.one ⟨u, ?_, ?_, s3.free ((same_upd nu).free nt), s3.free nu, ntB, nuB⟩)
          · rw [upd_ne ntB]
            exact upd_same
          · rw [upd_ne nuB, upd_ne ntu]
            exact upd_same
      · obtain ⟨s3, ls, hB, all⟩ := hp
        refine q H3 B s3 nB ⟨ls, hB, ?_⟩
        rw [em]
        exact all.imp fun l x h => h.toF
    | add c pr kk =>
      obtain ⟨b, hb, _⟩ := ho
      have em : linesAtM os p = [] := by unfold linesAtM; rw [g2]
      refine ⟨_, rfl, _, rfl, a, _, _, _, rfl, rfl, SqL.of h1, atI_nat g3, v, _, _, _, rfl, rfl, SqT.of hb, atI_nat (j := 0) rfl, ?_⟩
      refine ⟨_, rfl, rfl, false, rfl, ?_⟩
      refine ⟨_, rfl, rfl, false, rfl, ?_⟩
      refine ⟨Nat.zero_le _, fun B nB => q _ B (same_upd nB) nB ⟨[], upd_same, ?_⟩⟩
      rw [em]
      exact True.intro
theorem ok_lines {f f1 f2 f3 f4 f5 f6 f7 c t : Addr} {fd fd1 fd2 fd3 fd4 fd5 fd6 fd7 : FuncData} {k : Nat} (M : Names mg) (D : Def K mg "lines" s_lines ["shop"] f fd) (D_look : Def K mg "look" s_look ["shop"] f1 fd1) (D_can_stand : Def K mg "can_stand" s_can_stand ["shop", "at"] f2 fd2) (D_names_pack : Def K mg "names_pack" s_names_pack ["shop", "at"] f3 fd3) (D_good_tiers : Def K mg "good_tiers" s_good_tiers ["tiers"] f4 fd4)
    (hc : fd4.code = .ref c) (TB : GxR.TabB base mg c t) (ht : t ∈ T) (D_lines_at : Def K mg "lines_at" s_lines_at ["shop", "place"] f5 fd5) (D_adds_to : Def K mg "adds_to" s_adds_to ["shop", "place"] f6 fd6) (D_choices : Def K mg "choices" s_choices ["places"] f7 fd7) : FnOk P w K mg base CX0 (k + 4) f fd ["shop"] (sp_lines T) := by
  have G_look : FnOk P w K mg base CX0 (k + 3) f1 fd1 ["shop"] (sp_look T) := ok_look M D_look D_can_stand D_names_pack D_good_tiers hc TB ht
  have G_lines_at : FnOk P w K mg base CX0 (k + 3) f5 fd5 ["shop", "place"] sp_lines_at := ok_lines_at M D_lines_at D_adds_to D_choices
  refine D.F.ok sc_lines (fun vs H Q E h => ?_) (fun cdv A outer s H vs Q E hr h => ?_)
  · obtain ⟨a, os, rfl, _⟩ := h
    rfl
  · obtain ⟨a, os, rfl, hS, gd, hT, q⟩ := h
    refine ⟨_, (pss_cons (ps_expr (pe_call G_look hr (by rfl) D_look.g D_look.F.kp D_look.b .nil pass0 (pa_cons (pv 0) pa_nil)))
  (pss_one (ps_ret (pe_lc2 (own := [("place", 1), ("line", 2)]) (vs1 := [2]) (by rfl) sc_lines.nd (pi_range1 (by rfl) M.range (pa_cons (pe_callB call_len_seq (by rfl) M.len (by decide +kernel) (pa_cons (pv 0) pa_nil)) pa_nil)) (blkOk_by (own := [("place", 1), ("line", 2)]) (N := N_lines) (sc := defScope s_lines) (by decide +kernel)) (by decide) (fun _ _ _ _ _ => (pg_name (i := 1) sc_lines.nd rfl (Or.inl rfl))) (fun _ _ _ _ _ => pts_nil) (fun _ _ _ _ _ => (pi_listK (K := K) rfl (pe_call G_lines_at hr (by rfl) D_lines_at.g D_lines_at.F.kp D_lines_at.b .nil pass0 (pa_cons (pv 0) (pa_cons (pv 1) pa_nil))))) (fun _ _ _ _ _ => (pg_name (i := 2) sc_lines.nd rfl (Or.inl rfl))) (fun _ _ _ _ _ => pts_nil) (fun _ _ _ _ _ => (pv 2)))))), ?_⟩
    refine ⟨_, rfl, a, os, rfl, hS, gd, hT, fun H1 e1 => ?_⟩
    have hS1 := hS.ext e1
    obtain ⟨vs, h1, h2, h3⟩ := id hS1
    have h8 := gd.1
    refine ⟨_, rfl, a, _, rfl, .inl (SqL.of h1), _, rfl, by omega, by rw [List.length_map]; omega, fun B nB => ?_⟩
    have nBH : H B = none := e1.free _ nB
    refine ⟨fun i m H' => m = os.length - i ∧ i ≤ os.length ∧ Same H1 H' ∧ ∃ ls : List Addr, H' B = some (.lst (ls.map V.ref)) ∧ Al (LineB H H' B) ls ((List.range i).flatMap (linesAtM os)), ⟨_, rfl, Nat.zero_le _, same_upd nB, [], upd_same, True.intro⟩, fun i m H2 hW => ?_⟩
    obtain ⟨rfl, hi, s2, ls, hB, all⟩ := hW
    by_cases hil : i < os.length
    · refine .inr ⟨by show i < Int.toNat _; rw [Int.toNat_natCast, List.length_map]; omega, fun H' => Same H1 H' ∧ ∃ ls : List Addr, H' B = some (.lst (ls.map V.ref)) ∧ Al (LineB H H' B) ls ((List.range (i + 1)).flatMap (linesAtM os)), fun H' hN => ⟨_, by omega, rfl, hil, hN⟩, fun x H3 hy => ?_⟩
      obtain ⟨rfl, rfl⟩ := hy
      refine ⟨rfl, _, rfl, _, rfl, a, os, i, by show [V.ref a, V.int (0 + (i : Int))] = _; rw [Int.zero_add], hS1.same s2, h8, hil, fun H4 L s4 nL hL => ?_⟩
      obtain ⟨as, hLl, alL⟩ := hL
      have lal := alL.len
      have tot := linesN_len h8 i
      have one := linesAtM_len h8 i
      have hB4 := s4 _ _ hB
      have nLB : L ≠ B := fun z => by
        rw [z, hB] at nL
        cases nL
      have fr : ∀ b, H3 b = none → H b = none := fun b z => e1.free _ (s2.free z)
      have alB : Al (LineB H H4 B) as (linesAtM os i) := alL.imp fun l x h => h.toB fr (by rw [hB]; exact fun z => nomatch z)
      refine ⟨L, rfl, ⟨_, SqL.of hLl⟩, fun j m' H' => m' = as.length - j ∧ j ≤ as.length ∧ Same H1 H' ∧ H' L = some (.lst (as.map V.ref)) ∧ Al (LineB H H' B) as (linesAtM os i) ∧ ∃ ls : List Addr, H' B = some (.lst (ls.map V.ref)) ∧ Al (LineB H H' B) ls ((List.range i).flatMap (linesAtM os) ++ (linesAtM os i).take j), ⟨_, rfl, Nat.zero_le _, s2.trans s4, hLl, alB, ls, hB4, ?_⟩, fun j m' H5 hW1 => ?_⟩
      · rw [List.take_zero, List.append_nil]
        exact all.imp fun l x h => h.keep (.of s4)
      · obtain ⟨rfl, hj, s5, hL5, al5, ls5, hB5, all5⟩ := hW1
        by_cases hjl : j < as.length
        · obtain ⟨l, hl⟩ : ∃ l, as[j]? = some l := ⟨_, List.getElem?_eq_getElem hjl⟩
          have gl : (as.map V.ref)[j]? = some (.ref l) := by rw [List.getElem?_map, hl]; rfl
          obtain ⟨ln, hln, hlat⟩ := al5.get hl
          refine .inr ⟨⟨_, _, SqL.of hL5, gl⟩, fun H' => Same H1 H' ∧ H' L = some (.lst (as.map V.ref)) ∧ Al (LineB H H' B) as (linesAtM os i) ∧ ∃ ls : List Addr, H' B = some (.lst (ls.map V.ref)) ∧ Al (LineB H H' B) ls ((List.range i).flatMap (linesAtM os) ++ (linesAtM os i).take (j + 1)), fun H' hN => ⟨_, by omega, rfl, hjl, hN⟩, fun x H6 hy => ?_⟩
          obtain ⟨rfl, fy⟩ := hy
          have ex : x = .ref l := Option.some.inj ((fy _ (SqL.of hL5)).symm.trans gl)
          subst ex
          have l5 := all5.len
          rw [List.length_append, List.length_take] at l5
          refine ⟨rfl, _, rfl, _, hB5, szL' (by rw [List.length_map]; omega), sm_new s5 nB, ?_, ?_, ls5 ++ [l], ?_, ?_⟩
          · rw [upd_ne nLB]
            exact hL5
          · exact al5.imp fun l x h => h.keep .upd
          · rw [upd_same, List.map_append]
            rfl
          · rw [take_succ_at hln, ← List.append_assoc]
            exact Al.app (all5.imp fun l x h => h.keep .upd) (.one (hlat.keep .upd))
        · refine .inl ⟨⟨_, SqL.of hL5, by rw [List.length_map]; omega⟩, s5, ls5, hB5, ?_⟩
          rw [List.take_of_length_le (by omega)] at all5
          rw [List.range_succ, List.flatMap_append, List.flatMap_singleton]
          exact all5
    · have ei : i = os.length := by omega
      refine .inl ⟨by show Int.toNat _ ≤ i; rw [Int.toNat_natCast, List.length_map]; omega, ?_⟩
      rw [ei] at all
      exact q H2 B (e1.trans (.same s2 e1.t1)) nBH ⟨ls, hB, all.imp fun l x h => h.toF⟩
end
/-! ### sum(number for x in list): a generator expression over a list -/
def tSumN (K : PySem.W.Frag) (P : Addr) (R : L2.St → Hp → List V → (Nat → Int) → Prop) (te : TE) : TE := fun σ H Q => te σ H fun v H1 => ∃ (a : Addr) (xs : List V) (val : Nat → Int), v = .ref a ∧ SqL K H1 a xs ∧ GxR.TabG H1 P ∧ R σ H1 xs val ∧
  (∀ j, j < xs.length → InLong (val j) ∧ InLong (preSum val (j + 1))) ∧ ∀ H2, GxR.Tabbed P H1 H2 → Q (.int (preSum val xs.length)) H2
def EltN (X : Cx) (P : Addr) (scope : Scope) (x : Str) (elt : Expr) (R : L2.St → Hp → List V → (Nat → Int) → Prop) : Prop :=
  ∀ (pins : List (Addr × Obj)) (σ : L2.St) (H1 : Hp) (s1 : Shared) (xs : List V) (val : Nat → Int), Inv X pins σ H1 s1 → GxR.TabG H1 P → R σ H1 xs val →
    ∀ (cenv : Env) (A' : Around) (E' : Value → Shared → Prop) (i : Nat) (v : V) (va : Value) (s₂ : Shared) (m₂ : Str → Option Value), cenv.scope = scope → cenv.cells = cloFrom X.env.cells scope.names [] → cenv.globals = mainGlobals → cenv.builtins = builtinsNs →
      A'.handled = none → xs[i]? = some v → RelV v va → s₂.heap.Ns cenv.locals m₂ → m₂ x = some va → (∀ b o, b ≠ P → s1.heap.get? b = some o → s₂.heap.get? b = some o) →
      wpAny (model X.prog X.w) A' (eval elt cenv) (fun y s₃ => (∃ t, y = .int (val i) t) ∧ Keeps s₂ s₃) E' s₂
section
variable {X : Cx}
theorem pe_sumList {c P : Addr} {elt e : Expr} {x : Str} {px p pos gpos : Pos} {scope : Scope} {te : TE} {k : Nat} {R : L2.St → Hp → List V → (Nat → Int) → Prop}
    (hr : Room k X.A) (hg : Gl X "sum") (hm : X.mg "sum" = none) (hb : bootBuiltins "sum" = some (.builtin "sum")) (TB : GxR.TabB X.base X.mg c P) (hcode : X.env.code = .ref c) (S : GenS1 X.env.scope scope x) (hi : PE X e te)
    (hel : EltN X P scope x elt R)
    (hs : ∀ v, genFold e X.env v = pure v := by intro _; rfl)
    (he : starEach [.GeneratorExp elt [⟨.Name x px, e, [], 0⟩] scope gpos] X.env = (false, eval (.GeneratorExp elt [⟨.Name x px, e, [], 0⟩] scope gpos) X.env) :: starEach [] X.env := by rfl) :
    PE X (.Call (.Name "sum" p) [.GeneratorExp elt [⟨.Name x px, e, [], 0⟩] scope gpos] [] pos) (tSumN X.K P R te) := by
  refine ⟨fun pins s σ H Q I h => call_gen hg hm hb he I (gen_ones hr TB hcode S hs I (thn (hi.run pins s σ H _ I h) fun u0 s1 r => ?_))⟩
  obtain ⟨_, H1, J, isRef, a, xs, val, rfl, sq, tab, hR, fit, q⟩ := r
  cases isRef
  obtain ⟨its, rv, at_, _⟩ := J.list sq
  have many : its.toArray.size = xs.length := List.size_toArray.trans rv.length.symm
  have la : a < s1.heap.objs.size := at_.lt
  obtain ⟨oa, ea, ca, _⟩ := id at_.isList
  have aP : a ≠ P := tab_ne J tab ea (.inl fun z => by rw [ca] at z; cases z)
  have lP : P < s1.heap.objs.size := tab.elim fun _ x => Heap.lt_size (show s1.heap.get? P = _ from J.hok P _ x.1)
  refine wpAny_pyIter_list at_.isList ?_
  refine ⟨_, _, _, _, _, _, fun i y => ∃ t, y = .int (val i) t, pins, σ, H1, s1, rfl, ⟨J, tab, ⟨_, s1.toks, rfl⟩, fun b o e => Heap.get?_push_of_some _ e, by rw [Heap.size_push]; exact Nat.le_succ _, fun b hb => ?_, fun b hb => ?_⟩,
    fun A' calm => Walks.list calm s1.heap.objs.size a (Nat.ne_of_lt la) its.toArray, ⟨⟨_, Heap.get?_push_size _ rfl, rfl, rfl⟩, at_.isList.push _⟩, ?_, ?_⟩
  · rw [Heap.size_push]
    simp only [List.mem_cons, List.not_mem_nil, or_false] at hb
    rcases hb with rfl | rfl
    · exact ⟨Nat.lt_succ_self _, Nat.ne_of_gt lP⟩
    · exact ⟨Nat.lt_succ_of_lt la, aP⟩
  · exact Nat.le_of_eq (List.mem_singleton.mp hb).symm
  · intro cenv A' E' i va u m T hPt ns ma
    have there : its[i]? = some va := by simpa using hPt
    obtain ⟨v, hv⟩ : ∃ v, xs[i]? = some v := ⟨_, List.getElem?_eq_getElem (rv.length.symm ▸ (List.getElem?_eq_some_iff.mp there).1)⟩
    obtain ⟨w, hw, rw_⟩ := rv.get hv
    cases there.symm.trans hw
    exact hel pins σ H1 s1 xs val J tab hR cenv A' E' i v _ u m T.own T.cells T.glob T.blt T.calm hv rw_ ns ma T.still
  · rintro g s5 ⟨fp, wr, G, F', St, W, st, low, say, held⟩
    refine call_sum_walkS (W.self 0 _ _ _ st ⟨g, fp, wr, G, _, F', St, val, rfl, W, st, low, say, fun j lj => fit j (many ▸ lj), fun s' t' mv => ?_⟩)
    obtain ⟨H2, grown, J2⟩ := held s' mv
    exact ⟨.int _, H2, J2, ⟨t', rfl⟩, many ▸ q H2 grown⟩
end
/-! ### lines: what they hold and cost, as lists -/
def togM (a b : List Int) : List Int := List.zipWith (· + ·) a b
theorem togM_get {a b : List Int} {i : Nat} {x y : Int} (h : a[i]? = some x) (h2 : b[i]? = some y) : (togM a b)[i]? = some (x + y) := by
  unfold togM
  rw [List.getElem?_zipWith, h, h2]
theorem togM_len (a b : List Int) : (togM a b).length = min a.length b.length := by
  unfold togM
  rw [List.length_zipWith]
def contAt (os : List Ofr) (x : Int) : List Int := match os[x.toNat]? with
  | some o => o.cont
  | none => []
def contM (os : List Ofr) (l : Ln) : List Int := l.as.foldl (fun acc x => togM acc (contAt os x)) ((contAt os l.p).map (l.c * ·))
def pieceL (ts : List (Int × Int)) (c : Int) : List Int := (ts.filter fun t => decide (t.1 ≤ c)).map (·.2)
def pieceM (ts : List (Int × Int)) (c : Int) : Int := (pieceL ts c).getLastD 0
def addPr (os : List Ofr) (x : Int) : Int := match os[x.toNat]? with
  | some (.add _ p _) => p
  | some (.pack _ p) => p
  | _ => 0
def priceM (os : List Ofr) (l : Ln) : Int := match os[l.p.toNat]? with
  | some (.many _ ts) => l.c * pieceM ts l.c
  | some (.pack _ p) => p + (l.as.map (addPr os)).sum
  | _ => 0
/-- l is a line of os -/
def LineOk (os : List Ofr) (l : Ln) : Prop := ∃ p : Nat, l.p = (p : Int) ∧ ((∃ c ts, os[p]? = some (.many c ts) ∧ GoodT ts ∧ 1 ≤ l.c ∧ l.c ≤ 12 ∧ l.as = []) ∨
  (∃ c pr, os[p]? = some (.pack c pr) ∧ l.c = 1 ∧ l.as.length ≤ 8 ∧ ∀ x ∈ l.as, ∃ j : Nat, x = (j : Int) ∧ ∃ c' pr' k, os[j]? = some (.add c' pr' k)))
/-- contents are short, prices of adds within bounds -/
def Fit (os : List Ofr) : Prop := ∀ o ∈ os, o.cont.length ≤ 1000 ∧ ∀ c p k, o = .add c p k → -10000000000000000 ≤ p ∧ p ≤ 10000000000000000
def LineAt (H : Hp) (a : Addr) (l : Ln) : Prop := ∃ b, H a = some (.tup [.int l.p, .int l.c, .ref b]) ∧ H b = some (LI l.as)
theorem LineF.at {H0 H : Hp} {a : Addr} {l : Ln} (h : LineF H0 H a l) : LineAt H a l := by
  obtain ⟨b, h1, h2, _⟩ := h
  exact ⟨b, h1, h2⟩
theorem LineAt.ext {T : List Addr} {H H' : Hp} {a : Addr} {l : Ln} (e : Ext T H H') (h : LineAt H a l) : LineAt H' a l := by
  obtain ⟨b, h1, h2⟩ := h
  exact ⟨b, e.tup h1, e.lst h2⟩
theorem contAt_get {os : List Ofr} {j : Nat} {o : Ofr} (h : os[j]? = some o) : contAt os (j : Int) = o.cont := by
  unfold contAt
  rw [Int.toNat_natCast, h]
theorem pieceL_take {ts : List (Int × Int)} {c : Int} {i : Nat} {t : Int × Int} (h : ts[i]? = some t) : pieceL (ts.take (i + 1)) c = if t.1 ≤ c then pieceL (ts.take i) c ++ [t.2] else pieceL (ts.take i) c := by
  unfold pieceL
  rw [take_succ_at h, List.filter_append, List.map_append]
  by_cases z : t.1 ≤ c
  · rw [if_pos z]
    simp [z]
  · rw [if_neg z]
    simp [z]
/-! ### together, content_of, piece_price -/
abbrev s_together : Stmt := topS 14
abbrev N_together : List Str := ["content", "other", "number", "more"]
theorem sc_together : FnScope N_together ["content", "other"] (defScope s_together) := ⟨rfl, rfl, rfl, by decide +kernel, rfl, by decide +kernel, by decide +kernel⟩

abbrev s_content_of : Stmt := topS 15
abbrev N_content_of : List Str := ["shop", "line", "content", "add", "adds", "place", "count", "number"]
theorem sc_content_of : FnScope N_content_of ["shop", "line"] (defScope s_content_of) := ⟨rfl, rfl, rfl, by decide +kernel, rfl, by decide +kernel, by decide +kernel⟩

abbrev s_piece_price : Stmt := topS 16
abbrev N_piece_price : List Str := ["tiers", "count", "begin", "price"]
theorem sc_piece_price : FnScope N_piece_price ["tiers", "count"] (defScope s_piece_price) := ⟨rfl, rfl, rfl, by decide +kernel, rfl, by decide +kernel, by decide +kernel⟩

abbrev s_price_of : Stmt := topS 17
abbrev N_price_of : List Str := ["shop", "line", "offer", "place", "count", "adds", "add"]
theorem sc_price_of : FnScope N_price_of ["shop", "line"] (defScope s_price_of) := ⟨rfl, rfl, rfl, by decide +kernel, rfl, by decide +kernel, by decide +kernel⟩

def sp_together : Sp := fun vs H Q _ => ∃ (a b : Addr) (xs ys : List Int), vs = [.ref a, .ref b] ∧ H a = some (LI xs) ∧ H b = some (LI ys) ∧ xs.length ≤ 1000 ∧ ∀ H' q, Same H H' → H q = none → H' q = some (LI (togM xs ys)) → Q (.ref q) H'
def sp_content_of : Sp := fun vs H Q _ => ∃ (a la : Addr) (os : List Ofr) (l : Ln), vs = [.ref a, .ref la] ∧ ShopAt H a os ∧ LineAt H la l ∧ LineOk os l ∧ Fit os ∧ ∀ H' q, Same H H' → H q = none → H' q = some (LI (contM os l)) → Q (.ref q) H'
def sp_piece_price : Sp := fun vs H Q _ => ∃ (a : Addr) (ts : List (Int × Int)) (c : Int), vs = [.ref a, .int c] ∧ TiersAt H a ts ∧ GoodT ts ∧ 1 ≤ c ∧ ∀ H', Same H H' → Q (.int (pieceM ts c)) H'
def sp_price_of (T : List Addr) : Sp := fun vs H Q _ => ∃ (a la : Addr) (os : List Ofr) (l : Ln), vs = [.ref a, .ref la] ∧ ShopAt H a os ∧ LineAt H la l ∧ LineOk os l ∧ Fit os ∧ Tb T H ∧ ∀ H', Ext T H H' → Q (.int (priceM os l)) H'
section
variable {P : Program} {w : World} {K : PySem.W.Frag} {mg : Str → Option Value} {base : Heap} {T : List Addr}
theorem ok_together {f : Addr} {fd : FuncData} {k : Nat} (M : Names mg) (D : Def K mg "together" s_together ["content", "other"] f fd) : FnOk P w K mg base CX0 (k + 1) f fd ["content", "other"] sp_together := by
  refine D.F.ok sc_together (fun vs H Q E h => ?_) (fun cdv A outer s H vs Q E hr h => ?_)
  · obtain ⟨a, b, xs, ys, rfl, _⟩ := h
    rfl
  · obtain ⟨a, b, xs, ys, rfl, ha, hb, hl, q⟩ := h
    refine ⟨_, (pss_one (ps_ret (pe_lc (own := [("number", 2), ("more", 3)]) (by rfl) sc_together.nd (pi_zip (by rfl) M.zip (pa_cons (pv 0) (pa_cons (pv 1) pa_nil))) (blkOk_by (own := [("number", 2), ("more", 3)]) (N := N_together) (sc := defScope s_together) (by decide +kernel)) (fun _ _ _ _ _ => (pg_tupK (K := K) (n := 2) rfl rfl (pgs_cons (pg_name (i := 2) sc_together.nd rfl (Or.inl rfl)) (pgs_cons (pg_name (i := 3) sc_together.nd rfl (Or.inl rfl)) pgs_nil)))) (fun _ _ _ _ _ => pts_nil) (fun _ _ _ _ _ => (pe_op op_add (pv 2) (pv 3)))))), ?_⟩
    refine ⟨_, rfl, _, rfl, a, b, _, _, rfl, SqL.of ha, SqL.of hb, fun B nB => lc_it (walk_zip (xs := xs.map V.int) (ys := ys.map V.int) rfl) (fun i H' => Same H H' ∧ H' B = some (LI ((togM xs ys).take i))) ⟨same_upd nB, upd_same⟩ (fun i H' _ hp => ⟨SqL.of (hp.1 _ _ ha), SqL.of (hp.1 _ _ hb)⟩) (fun i x H1 H2 hi hp hy => ?_) (fun H1 hp => ?_)⟩
    · obtain ⟨s1, hB⟩ := hp
      obtain ⟨Tt, x1, x2, rfl, nT, rfl, e1, e2⟩ := hy
      obtain ⟨n, hn, rfl⟩ := of_get_ints e1
      obtain ⟨m, hm, rfl⟩ := of_get_ints e2
      rw [List.length_map, List.length_map] at hi
      have hB2 := (same_upd (o := .tup [.int n, .int m]) nT) _ _ hB
      refine ⟨Tt, _, rfl, SqT.of upd_same, rfl, _, _, rfl, _, _, rfl, rfl, rfl, _, rfl, _, rfl, _, _, rfl, rfl, _, hB2, szL' (by rw [List.length_map, List.length_take]; omega), sm_new (s1.trans (same_upd nT)) nB, ?_⟩
      rw [take_succ_at (togM_get hn hm)]
      exact at_app
    · obtain ⟨s1, hB⟩ := hp
      rw [List.length_map, List.length_map, List.take_of_length_le (by rw [togM_len]; exact Nat.le_refl _)] at hB
      exact q H1 B s1 nB hB
theorem ok_content_of {f f1 : Addr} {fd fd1 : FuncData} {k : Nat} (M : Names mg) (D : Def K mg "content_of" s_content_of ["shop", "line"] f fd) (D_together : Def K mg "together" s_together ["content", "other"] f1 fd1) : FnOk P w K mg base CX0 (k + 2) f fd ["shop", "line"] sp_content_of := by
  have G_together : FnOk P w K mg base CX0 (k + 1) f1 fd1 ["content", "other"] sp_together := ok_together M D_together
  refine D.F.ok sc_content_of (fun vs H Q E h => ?_) (fun cdv A outer s H vs Q E hr h => ?_)
  · obtain ⟨a, la, os, l, rfl, _⟩ := h
    rfl
  · obtain ⟨a, la, os, l, rfl, hS, ⟨b, hl1, hl2⟩, lok, fit, q⟩ := h
    obtain ⟨vs, h1, h2, h3⟩ := id hS
    obtain ⟨p, ep, ways⟩ := lok
    have main : ∃ o, os[p]? = some o ∧ -1000 ≤ l.c ∧ l.c ≤ 1000 ∧ ∀ x ∈ l.as, ∃ j : Nat, x = (j : Int) ∧ j < os.length := by
      rcases ways with ⟨c, ts, w1, _, w2, w3, w4⟩ | ⟨c, pr, w1, w2, w3, w4⟩
      · exact ⟨_, w1, by omega, by omega, fun x hx => by rw [w4] at hx; cases hx⟩
      · refine ⟨_, w1, by omega, by omega, fun x hx => ?_⟩
        obtain ⟨j, ej, c', pr', k', hj⟩ := w4 x hx
        exact ⟨j, ej, (List.getElem?_eq_some_iff.mp hj).1⟩
    obtain ⟨o, ho, hc1, hc2, hadds⟩ := main
    have hp : p < os.length := (List.getElem?_eq_some_iff.mp ho).1
    obtain ⟨v, o', g1, g2, g3⟩ := ShopAt.get (H := H) (a := a) h2 hp
    cases Option.some.inj (g2.symm.trans ho)
    obtain ⟨bc, r, hv, hbc⟩ := (h3 p v _ g1 g2).head
    have fo := (fit _ (List.mem_of_getElem? ho)).1
    refine ⟨_, (pss_cons (ps_asg (pv 1) (pg_tup rfl (pgs_cons (pg_name (i := 5) sc_content_of.nd rfl (Or.inl rfl)) (pgs_cons (pg_name (i := 6) sc_content_of.nd rfl (Or.inr rfl)) (pgs_cons (pg_name (i := 4) sc_content_of.nd rfl (Or.inl rfl)) pgs_nil)))))
  (pss_cons (ps_setLc (i := 2) (own := [("number", 7)]) (by rfl) sc_content_of.nd rfl rfl (sw_true rfl rfl rfl (by decide +kernel)) (pi_list (pe_ix ix_tup (pe_ix ix_list (pv 0) (pv 5) (fun _ _ => rfl)) pe_int (fun _ _ => rfl))) (blkOk_by (own := [("number", 7)]) (N := N_content_of) (sc := defScope s_content_of) (by decide +kernel)) (fun _ _ _ _ _ => (pg_name (i := 7) sc_content_of.nd rfl (Or.inl rfl))) (fun _ _ _ _ _ => pts_nil) (fun _ _ _ _ _ => (pe_op op_mul (pv 6) (pv 7))))
  (pss_cons (ps_for PassesOwn.never rfl (pi_list (pv 4)) (pg_name (i := 3) sc_content_of.nd rfl (Or.inl rfl))
   (pss_one (ps_set (i := 2) sc_content_of.nd rfl (Or.inl rfl) (pe_call G_together hr (by rfl) D_together.g D_together.F.kp D_together.b .nil pass0 (pa_cons (pv 2) (pa_cons (pe_ix ix_tup (pe_ix ix_list (pv 0) (pv 3) (fun _ _ => rfl)) pe_int (fun _ _ => rfl)) pa_nil))))))
  (pss_one (ps_ret (pv 2)))))), ?_⟩
    refine ⟨_, rfl, la, _, rfl, SqT.of hl1, rfl, _, _, rfl, _, _, rfl, _, _, rfl, rfl, ?_⟩
    refine ⟨_, rfl, _, rfl, a, _, _, _, rfl, rfl, SqL.of h1, at_of ep g3, v, _, _, _, rfl, rfl, SqT.of hv, atI_nat (j := 1) rfl, bc, rfl, ⟨_, SqL.of hbc⟩, fun B nB => lc_list (xs := o.cont.map V.int) (fun j H' => Same H H' ∧ H' B = some (LI ((o.cont.take j).map (l.c * ·)))) ⟨same_upd nB, upd_same⟩ (fun j H' _ hp => SqL.of (hp.1 _ _ hbc)) (fun j x H1 hx hp => ?_) (fun H1 hp => ?_)⟩
    · obtain ⟨s1, hB⟩ := hp
      obtain ⟨n, hn, rfl⟩ := of_get_ints hx
      have hj := (List.getElem?_eq_some_iff.mp hn).1
      refine ⟨rfl, _, rfl, _, rfl, _, _, rfl, rfl, .inl ⟨by omega, by omega⟩, _, hB, szL' (by rw [List.length_map, List.length_map, List.length_take]; omega), sm_new s1 nB, ?_⟩
      rw [take_succ_at hn, List.map_append]
      exact at_app
    · obtain ⟨s1, hB⟩ := hp
      rw [List.length_map, List.take_length] at hB
      have e0 : contAt os l.p = o.cont := by rw [ep]; exact contAt_get ho
      refine ⟨_, rfl, b, rfl, ⟨_, SqL.of (s1 _ _ hl2)⟩, for_list (xs := l.as.map V.int) (fun j σ H' => ∃ (cq : Addr) (y3 : Option V), σ = [some (.ref a), some (.ref la), some (.ref cq), y3, some (.ref b), some (.int l.p), some (.int l.c), none] ∧ Same H H' ∧ H cq = none ∧ H' cq = some (LI ((l.as.take j).foldl (fun acc x => togM acc (contAt os x)) (o.cont.map (l.c * ·)))) ∧ ((l.as.take j).foldl (fun acc x => togM acc (contAt os x)) (o.cont.map (l.c * ·))).length ≤ 1000) ⟨B, _, rfl, s1, nB, hB, by rw [List.take_zero]; show (o.cont.map _).length ≤ _; rw [List.length_map]; exact fo⟩ (fun j σ H' _ hp => ?_) (fun j x σ H2 hx hp => ?_) (fun σ H2 hp => ?_)⟩
      · obtain ⟨_, _, _, s2, _⟩ := hp
        exact SqL.of (s2 _ _ hl2)
      · obtain ⟨cq, y3, rfl, s2, ncq, hcq, hlen⟩ := hp
        obtain ⟨n, hn, rfl⟩ := of_get_ints hx
        obtain ⟨j2, rfl, hj2⟩ := hadds n (List.mem_of_getElem? hn)
        obtain ⟨v2, o2, k1, k2, k3⟩ := ShopAt.get (H := H) (a := a) h2 hj2
        obtain ⟨b2, r2, hv2, hb2⟩ := (h3 j2 v2 _ k1 k2).head
        refine ⟨_, rfl, _, rfl, _, rfl, a, _, _, _, rfl, rfl, SqL.of (s2 _ _ h1), atI_nat k3, v2, _, _, _, rfl, rfl, SqT.of (s2 _ _ hv2), atI_nat (j := 1) rfl, cq, b2, _, _, rfl, hcq, s2 _ _ hb2, hlen, fun H3 q3 s3 nq3 hq3 => ?_⟩
        refine ⟨q3, _, rfl, s2.trans s3, s2.free nq3, ?_, ?_⟩
        · rw [take_succ_at hn, List.foldl_append]
          show H3 q3 = some (LI (togM _ (contAt os (j2 : Int))))
          rw [contAt_get k2]
          exact hq3
        · rw [take_succ_at hn, List.foldl_append]
          show (togM _ _).length ≤ 1000
          rw [togM_len]
          omega
      · obtain ⟨cq, y3, rfl, s2, ncq, hcq, hlen⟩ := hp
        rw [List.length_map, List.take_length] at hcq
        refine ⟨_, rfl, q H2 cq s2 ncq ?_⟩
        unfold contM
        rw [e0]
        exact hcq
theorem ok_piece_price {f : Addr} {fd : FuncData} {k : Nat} (M : Names mg) (D : Def K mg "piece_price" s_piece_price ["tiers", "count"] f fd) : FnOk P w K mg base CX0 (k + 1) f fd ["tiers", "count"] sp_piece_price := by
  refine D.F.ok sc_piece_price (fun vs H Q E h => ?_) (fun cdv A outer s H vs Q E hr h => ?_)
  · obtain ⟨a, ts, c, rfl, _⟩ := h
    rfl
  · obtain ⟨a, ts, c, rfl, ⟨us, h1, h2, h3⟩, gd, hc, q⟩ := h
    have few := gd.few
    have pos := gd.pos
    refine ⟨_, (pss_one (ps_ret (pe_ix ix_list (pe_lc (own := [("begin", 2), ("price", 3)]) (by rfl) sc_piece_price.nd (pi_list (pv 0)) (blkOk_by (own := [("begin", 2), ("price", 3)]) (N := N_piece_price) (sc := defScope s_piece_price) (by decide +kernel)) (fun _ _ _ _ _ => (pg_tupK (K := K) (n := 2) rfl rfl (pgs_cons (pg_name (i := 2) sc_piece_price.nd rfl (Or.inl rfl)) (pgs_cons (pg_name (i := 3) sc_piece_price.nd rfl (Or.inl rfl)) pgs_nil)))) (fun _ _ _ _ _ => (pts_one (pt_cmpR op_le (pv 2) (pv 1) (nomark _)))) (fun _ _ _ _ _ => (pv 3))) (pe_un un_neg pe_int) (fun _ _ => rfl)))), ?_⟩
    refine ⟨_, rfl, a, rfl, ⟨_, SqL.of h1⟩, fun B nB => lc_list (xs := us.map V.ref) (fun i H' => Same H H' ∧ H' B = some (LI (pieceL (ts.take i) c)) ∧ (pieceL (ts.take i) c).length ≤ i) ⟨same_upd nB, upd_same, Nat.le_refl _⟩ (fun i H' _ hp => SqL.of (hp.1 _ _ h1)) (fun i x H1 hx hp => ?_) (fun H1 hp => ?_)⟩
    · obtain ⟨s1, hB, hlen⟩ := hp
      rw [List.getElem?_map] at hx
      cases hu : us[i]? with
      | none => rw [hu] at hx; cases hx
      | some u =>
        rw [hu] at hx
        cases Option.some.inj hx
        have hi : i < ts.length := by
          have := (List.getElem?_eq_some_iff.mp hu).1
          omega
        have gt := List.getElem?_eq_getElem hi
        refine ⟨u, _, rfl, SqT.of (s1 _ _ (h3 i u _ hu gt)), rfl, _, _, rfl, _, _, rfl, rfl, rfl, _, rfl, _, rfl, _, _, rfl, rfl, _, rfl, ite2 (fun z => ?_) (fun z => ?_)⟩
        · have z2 := of_decide_eq_true z
          refine ⟨_, rfl, _, hB, szL' (by rw [List.length_map]; omega), sm_new s1 nB, ?_, ?_⟩
          · rw [pieceL_take gt, if_pos z2]
            exact at_app
          · rw [pieceL_take gt, if_pos z2, List.length_append, List.length_singleton]
            omega
        · have z2 : ¬ (ts[i]).1 ≤ c := fun y => z (decide_eq_true y)
          refine ⟨s1, ?_, ?_⟩
          · rw [pieceL_take gt, if_neg z2]
            exact hB
          · rw [pieceL_take gt, if_neg z2]
            omega
    · obtain ⟨s1, hB, hlen⟩ := hp
      rw [List.length_map, h2, List.take_length] at hB
      have ne : pieceL ts c ≠ [] := by
        have g0 := List.getElem?_eq_getElem (show 0 < ts.length by omega)
        have e1 := gd.one _ g0
        have hm : (ts[0]'(by omega)) ∈ ts.filter fun t => decide (t.1 ≤ c) := List.mem_filter.mpr ⟨List.getElem_mem _, decide_eq_true (by omega)⟩
        intro z
        unfold pieceL at z
        rw [List.map_eq_nil_iff] at z
        rw [z] at hm
        cases hm
      have hneg : atI ((pieceL ts c).map V.int) (-1) = some (.int (pieceM ts c)) := by
        have e : pieceL ts c = (pieceL ts c).dropLast ++ [pieceM ts c] := by
          unfold pieceM
          rw [List.getLastD_eq_getLast?, List.getLast?_eq_getLast ne]
          exact (List.dropLast_concat_getLast ne).symm
        rw [e, List.map_append]
        exact atI_last _ _
      exact ⟨1, rfl, B, _, -1, _, rfl, rfl, SqL.of hB, hneg, q H1 s1⟩
end
/-! ### price_of -/
/-- the element: shop[add][2] -/
def RPr (H0 : Hp → Prop) : L2.St → Hp → List V → (Nat → Int) → Prop := fun σ H xs val => ∃ (a : Addr) (os : List Ofr) (as : List Int), σ[0]? = some (some (.ref a)) ∧ ShopAt H a os ∧ xs = as.map V.int ∧ (∀ x ∈ as, ∃ j : Nat, x = (j : Int) ∧ ∃ c p k, os[j]? = some (.add c p k)) ∧ val = fun i => addPr os (as.getD i 0)
theorem preSum_map (os : List Ofr) (as : List Int) : ∀ n, n ≤ as.length → preSum (fun i => addPr os (as.getD i 0)) n = ((as.take n).map (addPr os)).sum
  | 0, _ => rfl
  | n + 1, h => by
    have ih := preSum_map os as n (by omega)
    have g := List.getElem?_eq_getElem (show n < as.length by omega)
    show preSum _ n + addPr os (as.getD n 0) = _
    rw [ih, take_succ_at g, List.map_append, List.sum_append, List.getD_eq_getElem?_getD, g]
    simp
theorem sum_bound (os : List Ofr) : ∀ (as : List Int), (∀ x ∈ as, -10000000000000000 ≤ addPr os x ∧ addPr os x ≤ 10000000000000000) → -(10000000000000000 * (as.length : Int)) ≤ (as.map (addPr os)).sum ∧ (as.map (addPr os)).sum ≤ 10000000000000000 * (as.length : Int)
  | [], _ => by simp
  | a :: r, h => by
    have ih := sum_bound os r fun x hx => h x (List.mem_cons_of_mem _ hx)
    have h1 := h a List.mem_cons_self
    rw [List.map_cons, List.sum_cons, List.length_cons]
    omega
section
variable {P : Program} {w : World} {K : PySem.W.Frag} {mg : Str → Option Value} {base : Heap} {T : List Addr}
theorem ok_price_of {f f1 c t : Addr} {fd fd1 : FuncData} {k : Nat} (M : Names mg) (D : Def K mg "price_of" s_price_of ["shop", "line"] f fd) (hc : fd.code = .ref c) (TB : GxR.TabB base mg c t) (ht : t ∈ T) (D_piece_price : Def K mg "piece_price" s_piece_price ["tiers", "count"] f1 fd1) : FnOk P w K mg base CX0 (k + 2) f fd ["shop", "line"] (sp_price_of T) := by
  have G_piece_price : FnOk P w K mg base CX0 (k + 1) f1 fd1 ["tiers", "count"] sp_piece_price := ok_piece_price M D_piece_price
  refine okc D.F hc sc_price_of (fun vs H Q E h => ?_) (fun cdv A outer s H vs Q E ec hr h => ?_)
  · obtain ⟨a, la, os, l, rfl, _⟩ := h
    rfl
  · obtain ⟨a, la, os, l, rfl, hS, ⟨b, hl1, hl2⟩, lok, fit, hT, q⟩ := h
    obtain ⟨vs, h1, h2, h3⟩ := id hS
    obtain ⟨p, ep, ways⟩ := lok
    refine ⟨_, (pss_cons (ps_asg (pv 1) (pg_tup rfl (pgs_cons (pg_name (i := 3) sc_price_of.nd rfl (Or.inl rfl)) (pgs_cons (pg_name (i := 4) sc_price_of.nd rfl (Or.inl rfl)) (pgs_cons (pg_name (i := 5) sc_price_of.nd rfl (Or.inl rfl)) pgs_nil)))))
  (pss_cons (ps_set (i := 2) sc_price_of.nd rfl (Or.inl rfl) (pe_ix ix_list (pv 0) (pv 3) (fun _ _ => rfl)))
  (pss_cons (ps_if (pt_cmpR op_eq (pe_ix ix_tup (pv 2) pe_int (fun _ _ => rfl)) pe_str (nomark _))
   (pss_one (ps_ret (pe_op op_mul (pv 4) (pe_call G_piece_price hr (by rfl) D_piece_price.g D_piece_price.F.kp D_piece_price.b .nil pass0 (pa_cons (pe_ix ix_tup (pv 2) pe_int (fun _ _ => rfl)) (pa_cons (pv 4) pa_nil))))))
   pss_nil)
  (pss_one (ps_ret (pe_op op_add (pe_ix ix_tup (pv 2) pe_int (fun _ _ => rfl)) (pe_sumList (R := RPr (fun _ => True)) hr (by rfl) M.sum (by decide +kernel) TB ec ⟨rfl, rfl, by decide +kernel, rfl, rfl, (by show ∀ y : Str × NameKind, y ∈ _ → y.2 = .free → (defScope s_price_of).names.lookup y.1 = some .cell; decide +kernel)⟩ (pv 5) ?el))))))), ?_⟩
    case el =>
      intro pins σ H1 s1 xs val I1 hT1 hR cenv A' E' i v va s₂ m₂ c1 c2 c3 c4 c5 hv rva hn hma hk
      obtain ⟨a1, os1, as1, e0, ⟨vs1, k1, k2, k3⟩, rfl, hadds, rfl⟩ := hR
      obtain ⟨n, hnn, rfl⟩ := of_get_ints hv
      obtain ⟨t2, rfl⟩ := rva
      obtain ⟨j, rfl, cc', pp, kk, hj⟩ := hadds n (List.mem_of_getElem? hnn)
      have lj : j < os1.length := (List.getElem?_eq_some_iff.mp hj).1
      obtain ⟨v1, o1, g1, g2, g3⟩ := ShopAt.get (H := H1) (a := a1) k2 lj
      cases Option.some.inj (g2.symm.trans hj)
      obtain ⟨b1, hv1, _⟩ := k3 j v1 _ g1 g2
      obtain ⟨m1, hns1, hl1'⟩ := I1.loc
      obtain ⟨u, ru, lk⟩ := hl1' 0 "shop" _ rfl e0 (.inr (.inl rfl))
      cases ru
      rcases lk with ⟨kk', _⟩ | ⟨_, cc, hcc, hcell⟩
      · exact absurd (show (defScope s_price_of).names.lookup ("shop" : Str) = some .local from kk') (by decide +kernel)
      · obtain ⟨its, rv, pl, hz⟩ := I1.list (SqL.of k1)
        obtain ⟨itst, rvt, plt, hzt⟩ := I1.tuple (SqT.of hv1)
        obtain ⟨oc, eoc, doc⟩ := id hcell
        have ncP : cc ≠ t := tab_ne I1 hT1 eoc (.inr fun vs z => by rw [doc] at z; cases z)
        obtain ⟨oa, ea, ca, na, da⟩ := id pl.isList
        have naP : a1 ≠ t := tab_ne I1 hT1 ea (.inl (by rw [ca]; exact fun z => nomatch z))
        obtain ⟨ot, et, ct, nt, dt⟩ := id plt
        have nvP : v1 ≠ t := tab_ne I1 hT1 et (.inl (by rw [ct]; exact fun z => nomatch z))
        have hcell2 : s₂.heap.IsCell cc (some (.ref a1)) := ⟨oc, hk _ _ ncP eoc, doc⟩
        have hL2 : s₂.heap.IsList a1 its.toArray := pl.isList.at fun o e => hk _ _ naP e
        have hT2 : IsTup s₂.heap v1 itst.toArray := ⟨ot, hk _ _ nvP et, ct, nt, dt⟩
        have hcl : cenv.cells.lookup ("shop" : Str) = some cc := by
          rw [c2]
          show some (((envOfC "price_of" (defScope s_price_of) s.heap.objs.size f cdv).cells.lookup ("shop" : Str)).getD 0) = some cc
          rw [show (envOfC "price_of" (defScope s_price_of) s.heap.objs.size f cdv).cells.lookup ("shop" : Str) = some cc from hcc]
          rfl
        have sk : cenv.scope.kind = .function := by rw [c1]
        have hn63 := line63
        obtain ⟨uj, hu1, ru1⟩ := rv.get g3
        cases ru1
        obtain ⟨up, hu2, ru2⟩ := rvt.get (show ([V.str "add", V.ref b1, V.int pp, V.int kk] : List V)[2]? = some (.int pp) from rfl)
        obtain ⟨tp, rfl⟩ := ru2
        have lv := rv.length
        have lvt := rvt.length
        rw [List.length_map] at lv
        have l4 : itst.length = 4 := by rw [← lvt]; rfl
        refine Subscript_ (Subscript_ (wpAny_Name (wpAny_loadName_free sk (by show cenv.scope.names.lookup ("shop" : Str) = _; rw [c1]; rfl) hcl hcell2 (wpAny_Name (wpAny_loadName_local sk (by show cenv.scope.names.lookup ("add" : Str) = _; rw [c1]; rfl) hn hma ?_)))))
        have hz' : os1.length ≤ sizeLine := by
          have := hz
          rw [List.length_map, k2] at this
          exact this
        have hj63 : (j : Int) < 2 ^ 63 := by omega
        refine item_listR hL2 (by omega) hj63 (x := .ref v1) (by rw [Int.toNat_natCast]; simpa using hu1) ?_
        refine wpAny_Constant_int ?_
        refine subscriptTail_builtinR (x := .int pp tp) hT2.typeIs slot_tuple_getitem.lookup (getItem_tuple (s := { s₂ with toks := s₂.toks + 1 }) (j := 2) (Q := fun r s' => r = .int pp tp ∧ (∃ t, r = .int (addPr os1 (as1.getD i 0)) t) ∧ Keeps s₂ s') hT2 (by decide) (by decide) (by rw [List.size_toArray, l4]; exact (ixN_seq (ixN_nat (n := 4) (j := 2) (by decide))).1) (by simpa using hu2) ⟨rfl, ⟨tp, ?_⟩, GxR.keeps_tok _ _⟩) rfl
        rw [show as1.getD i 0 = ((j : Nat) : Int) by rw [List.getD_eq_getElem?_getD, hnn]; rfl]
        unfold addPr
        rw [Int.toNat_natCast, hj]
    refine ⟨_, rfl, la, _, rfl, SqT.of hl1, rfl, _, _, rfl, _, _, rfl, _, _, rfl, rfl, ?_⟩
    rcases ways with ⟨c0, ts, w1, w0, w2, w3, w4⟩ | ⟨c0, pr, w1, w2, w3, w4⟩
    · have hp : p < os.length := (List.getElem?_eq_some_iff.mp w1).1
      obtain ⟨v, o', g1, g2, g3⟩ := ShopAt.get (H := H) (a := a) h2 hp
      cases Option.some.inj (g2.symm.trans w1)
      obtain ⟨bc, tt, hv, hbc, hts⟩ := h3 p v _ g1 g2
      refine ⟨_, rfl, _, rfl, a, _, _, _, rfl, rfl, SqL.of h1, at_of ep g3, ?_⟩
      refine ⟨_, rfl, v, _, _, _, rfl, rfl, SqT.of hv, atI_nat (j := 0) rfl, rfl, true, rfl, ?_⟩
      refine ⟨_, rfl, _, rfl, v, _, _, _, rfl, rfl, SqT.of hv, atI_nat (j := 2) rfl, _, rfl, tt, ts, l.c, rfl, hts, w0, w2, fun H1 s1 => ⟨_, _, rfl, rfl, .inl ⟨by omega, by omega⟩, ?_⟩⟩
      have e := q H1 (.same s1 hT)
      unfold priceM at e
      rw [ep, Int.toNat_natCast, w1] at e
      exact e
    · have hp : p < os.length := (List.getElem?_eq_some_iff.mp w1).1
      obtain ⟨v, o', g1, g2, g3⟩ := ShopAt.get (H := H) (a := a) h2 hp
      cases Option.some.inj (g2.symm.trans w1)
      obtain ⟨bc, hv, hbc⟩ := h3 p v _ g1 g2
      have bnd : ∀ x ∈ l.as, -10000000000000000 ≤ addPr os x ∧ addPr os x ≤ 10000000000000000 := fun x hx => by
        obtain ⟨j, rfl, c', p', k', hj⟩ := w4 x hx
        have := (fit _ (List.mem_of_getElem? hj)).2 c' p' k' rfl
        unfold addPr
        rw [Int.toNat_natCast, hj]
        exact this
      have bsub : ∀ n, n ≤ l.as.length → InLong (((l.as.take n).map (addPr os)).sum) := fun n hn => by
        have := sum_bound os (l.as.take n) fun x hx => bnd x (List.mem_of_mem_take hx)
        rw [List.length_take, Nat.min_eq_left hn] at this
        unfold InLong
        omega
      refine ⟨_, rfl, _, rfl, a, _, _, _, rfl, rfl, SqL.of h1, at_of ep g3, ?_⟩
      refine ⟨_, rfl, v, _, _, _, rfl, rfl, SqT.of hv, atI_nat (j := 0) rfl, rfl, false, rfl, ?_⟩
      refine ⟨_, rfl, v, _, _, _, rfl, rfl, SqT.of hv, atI_nat (j := 2) rfl, _, rfl, b, _, (fun i => addPr os (l.as.getD i 0)), rfl, SqL.of hl2, hT t ht, ⟨a, os, l.as, rfl, hS, rfl, w4, rfl⟩, fun j hj => ?_, fun H2 t2 => ⟨_, _, rfl, rfl, ?_⟩⟩
      · rw [List.length_map] at hj
        refine ⟨?_, ?_⟩
        · have := bnd _ (List.getElem_mem hj)
          show InLong (addPr os (l.as.getD j 0))
          rw [show l.as.getD j 0 = l.as[j] by rw [List.getD_eq_getElem?_getD, List.getElem?_eq_getElem hj]; rfl]
          unfold InLong
          omega
        · rw [preSum_map os l.as (j + 1) (by omega)]
          exact bsub _ (by omega)
      · rw [List.length_map, preSum_map os l.as _ (Nat.le_refl _), List.take_length]
        have e := q H2 (.tabbed hT t2 ht)
        unfold priceM at e
        rw [ep, Int.toNat_natCast, w1] at e
        exact e
end
/-! ### any(xs) of ints; tuple(xs) at a written K -/
theorem truth_ints {prog : Program} {w : World} {A : Around} {ns : List Int} {its : List Value} (rv : Vals (ns.map V.int) its) :
    TruthOf prog w A (fun i v => its.toArray[i]? = some v) (fun i => (ns.getD i 0) != 0) := by
  intro i v s Q E at_ q
  have inIts : its[i]? = some v := by simpa using at_
  have li : i < ns.length := List.length_map (f := V.int) ▸ rv.length.symm ▸ (List.getElem?_eq_some_iff.mp inIts).1
  obtain ⟨_, hu, t, rfl⟩ := rv.get (get_ints (List.getElem?_eq_getElem li))
  cases inIts.symm.trans hu
  have same : ns.getD i 0 = ns[i] := by
    rw [List.getD_eq_getElem?_getD, List.getElem?_eq_getElem li]
    rfl
  exact PySem.P.truthy_int (same ▸ q)
def anyI (ns : List Int) : Bool := ns.any (· != 0)
theorem anyI_range : ∀ ns : List Int, (List.range ns.length).any (fun i => (ns.getD i 0) != 0) = anyI ns
  | [] => rfl
  | b :: bs => by
    unfold anyI
    rw [List.length_cons, List.range_succ_eq_map, List.any_cons, List.any_map, List.any_cons]
    have ih := anyI_range bs
    unfold anyI at ih
    rw [← ih]
    rfl
def rAnyI (K : PySem.W.Frag) : List V → Hp → VK → Prop := fun vs H Q => ∃ (a : Addr) (ns : List Int), vs = [V.ref a] ∧ SqL K H a (ns.map V.int) ∧ Q (.bl (anyI ns)) H
theorem cr_anyI {X : Cx} (hc : X.calm = true) : CallR X (.builtin "any") (rAnyI X.K) := by
  rintro pins s σ H _ us Q I r ⟨a, ns, rfl, held, q⟩
  obtain ⟨its, rv, there, _⟩ := I.list held
  have many : its.length = ns.length := rv.length.symm.trans (List.length_map ..)
  cases Vals.ref1 r
  refine call_any_walk (iter_any there.isList ?_)
  rintro t rfl st apart
  refine ⟨_, _, _, _, _, _, _, rfl, Walks.list (A := X.A.in1) (I.ok.hd hc) _ a apart its.toArray, st, truth_ints rv, fun h' tk more => ⟨.bl _, H, I.kept fun b o e => more b o (fun z => ?_) (Heap.get?_push_of_some _ e), ?_, q⟩⟩
  · cases List.mem_singleton.mp z
    exact Nat.lt_irrefl _ (Heap.lt_size e)
  · exact congrArg Value.bool (by rw [← anyI_range, List.size_toArray, many])
theorem cr_anyIK {X : Cx} {K : PySem.W.Frag} (h : X.K = K) (hc : X.calm = true) : CallR X (.builtin "any") (rAnyI K) := by subst h; exact cr_anyI hc
theorem pe_tupleOfK {X : Cx} {K : PySem.W.Frag} {a : Expr} {ta : TE} {p pos : Pos} (h : X.K = K) (hg : Gl X "tuple") (hm : X.mg "tuple" = none) (ha : PE X a ta) (na : starEach [a] X.env = (false, eval a X.env) :: starEach [] X.env := by rfl) :
    PE X (.Call (.Name "tuple" p) [a] [] pos) (tThen ta (kTup K)) := by subst h; exact pe_tupleOf hg hm ha na
/-! ### had -/
abbrev s_had : Stmt := topS 20
abbrev N_had : List Str := ["content", "thing"]
theorem sc_had : FnScope N_had ["content", "thing"] (defScope s_had) := ⟨rfl, rfl, rfl, by decide +kernel, rfl, by decide +kernel, by decide +kernel⟩

def hadM (cs : List Int) (i : Nat) : Int := cs.getD i 0
theorem hadM_in {cs : List Int} {i : Nat} (h : i < cs.length) : cs[i]? = some (hadM cs i) := by
  unfold hadM
  rw [List.getD_eq_getElem?_getD, List.getElem?_eq_getElem h]
  rfl
theorem hadM_out {cs : List Int} {i : Nat} (h : ¬ i < cs.length) : hadM cs i = 0 := by
  unfold hadM
  rw [List.getD_eq_getElem?_getD, List.getElem?_eq_none (by omega)]
  rfl
def sp_had (K : PySem.W.Frag) : Sp := fun vs H Q _ => ∃ (a : Addr) (cs : List Int) (i : Nat), vs = [.ref a, .int i] ∧ SqL K H a (cs.map V.int) ∧ Q (.int (hadM cs i)) H
section
variable {P : Program} {w : World} {K : PySem.W.Frag} {mg : Str → Option Value} {base : Heap}
theorem ok_had {f : Addr} {fd : FuncData} {k : Nat} (M : Names mg) (D : Def K mg "had" s_had ["content", "thing"] f fd) : FnOk P w K mg base CX0 (k + 1) f fd ["content", "thing"] (sp_had K) := by
  refine D.F.ok sc_had (fun vs H Q E h => ?_) (fun cdv A outer s H vs Q E hr h => ?_)
  · obtain ⟨a, cs, i, rfl, _⟩ := h
    rfl
  · obtain ⟨a, cs, i, rfl, ha, q⟩ := h
    refine ⟨_, (pss_one (ps_ret (pe_ifExp (pt_cmpR op_lt (pv 1) (pe_callB call_len_seq (by rfl) M.len (by decide +kernel) (pa_cons (pv 0) pa_nil)) (nomark _)) (pe_ix ix_list (pv 0) (pv 1) (fun _ _ => rfl)) pe_int))), ?_⟩
    refine ⟨_, rfl, _, rfl, a, _, rfl, .inl ha, _, _, rfl, rfl, _, rfl, ite2 (fun c => ?_) (fun c => ?_)⟩
    · have c2 : (i : Int) < ((cs.map V.int).length : Int) := of_decide_eq_true c
      rw [List.length_map] at c2
      exact ⟨_, rfl, _, rfl, a, _, _, _, rfl, rfl, ha, atI_nat (get_ints (hadM_in (by omega))), q⟩
    · have c2 : ¬ (i : Int) < ((cs.map V.int).length : Int) := fun z => c (decide_eq_true z)
      rw [List.length_map] at c2
      rw [hadM_out (by omega)] at q
      exact q
/-- had, called where nothing is known of the frames: all objects stay -/
theorem had_quiet {f : Addr} {fd : FuncData} {mb : Str → Option Value} (M : Names mg) (D : Def K mg "had" s_had ["content", "thing"] f fd) {A' : Around} {E' : Value → Shared → Prop} {s : Shared} {L : Addr} {cs : List Int} {its : List Value} {i : Nat} {t : Tok} (KX : K.In s.heap)
    (hg : s.heap.Ns mainGlobals mg) (hb : s.heap.Ns builtinsNs mb) (hbb : ∀ x : Str, x ≠ "__name__" → mb x = bootBuiltins x) (hlim : s.heap.NoLimit) (hA : A'.depth < recursionLimit)
    (hL : s.heap.IsList L its.toArray) (rv : Vals (cs.map V.int) its) (hz : cs.length ≤ sizeLine) :
    wpAny (model P w) A' (call (.ref f) [.ref L, .int i t]) (fun y s₃ => (∃ t', y = .int (hadM cs i) t') ∧ Keeps s s₃) E' s := by
  obtain ⟨oc, od, kV, doc, pm, an, cdv, ct, osl, rfl, lk, hcd⟩ := D.F.ex
  refine wpAny_call (Att.call_fn KX hlim lk hcd hA (D.b s [.ref L, .int i t] KX rfl) (by rfl) (fun s₁ x => ?_) rfl rfl rfl)
  obtain ⟨h1, tk1, e1, keep1⟩ := x.done
  have hn := x.toInCall.ns
  subst e1
  have hL1 : h1.IsList L its.toArray := hL.at fun o e => keep1 L o e
  have hll := rv.length
  rw [List.length_map] at hll
  have hn63 := line63
  have fin : ∀ (v : Value) (s' : Shared), (∃ t', v = .int (hadM cs i) t') → Keeps { s with heap := h1, toks := tk1 } s' → (∃ t', v = .int (hadM cs i) t') ∧ Keeps s s' := fun v s' hv ⟨h', tk', e, kk⟩ => ⟨hv, h', tk', e, fun b o e => kk b o (keep1 b o e)⟩
  have nameC : ∀ {Q : Value → Shared → Prop} {E : Value → Shared → Prop} {pos : Pos} {tk : Nat}, Q (.ref L) { s with heap := h1, toks := tk } → wpAny (model P w) (A'.deeper (envOfC "had" (defScope s_had) s.heap.objs.size f cdv)) (eval (.Name "content" pos) (envOfC "had" (defScope s_had) s.heap.objs.size f cdv)) Q E { s with heap := h1, toks := tk } := fun h => wpAny_Name (wpAny_loadName_local rfl rfl hn rfl h)
  have nameT : ∀ {Q : Value → Shared → Prop} {E : Value → Shared → Prop} {pos : Pos} {tk : Nat}, Q (.int i t) { s with heap := h1, toks := tk } → wpAny (model P w) (A'.deeper (envOfC "had" (defScope s_had) s.heap.objs.size f cdv)) (eval (.Name "thing" pos) (envOfC "had" (defScope s_had) s.heap.objs.size f cdv)) Q E { s with heap := h1, toks := tk } := fun h => wpAny_Name (wpAny_loadName_local rfl rfl hn rfl h)
  show wpAny _ _ (execs (defBody s_had) (envOfC "had" (defScope s_had) s.heap.objs.size f cdv)) _ _ _
  refine wpAny_execs_cons (wpAny_Return_some (wpAny_IfExp (wpAny_isTrue_Compare1 (nameT ?_))))
  refine wpAny_Call_Name_kw (Calls.Name_function_global rfl rfl (Calls.loadGlobal_builtin (hg.keeps keep1) M.len (hb.keeps keep1) ((hbb "len" (by decide)).trans boot_len) ?_))
  refine PyProof.Rows.callWith_builtin1 (Calls.spliced_cons (nameC (Calls.spliced_nil ?_)))
  refine Calls.call_len_list (hl := hL1) (by rw [List.size_toArray]; omega) ?_
  refine lt_int (wpAny_truthy_bool ?_)
  by_cases c : (i : Int) < (its.toArray.size : Int)
  · rw [decide_eq_true c]
    rw [List.size_toArray] at c
    have hi : i < cs.length := by omega
    obtain ⟨u, hu, ru⟩ := rv.get (get_ints (hadM_in hi))
    obtain ⟨t', rfl⟩ := ru
    refine Subscript_ (nameC (nameT ?_))
    refine item_listR hL1 (by omega) (by omega) (x := .int (hadM cs i) t') (by rw [Int.toNat_natCast]; simpa using hu) ?_
    exact fin _ _ ⟨t', rfl⟩ ⟨_, _, rfl, fun b o e => e⟩
  · rw [decide_eq_false c]
    rw [List.size_toArray] at c
    refine wpAny_Constant_int ?_
    exact fin _ _ ⟨_, by rw [hadM_out (by omega)]⟩ ⟨_, _, rfl, fun b o e => e⟩
end
abbrev s_rest : Stmt := topS 21
abbrev N_rest : List Str := ["want", "content", "thing", "number"]
theorem sc_rest : FnScope N_rest ["want", "content"] (defScope s_rest) := ⟨rfl, rfl, rfl, by decide +kernel, rfl, by decide +kernel, by decide +kernel⟩

/-! ### rest -/
def restM (ws cs : List Int) : List Int := (List.range ws.length).map fun i => if ws.getD i 0 - hadM cs i > 0 then ws.getD i 0 - hadM cs i else 0
theorem restM_get {ws cs : List Int} {i : Nat} {n : Int} (h : ws[i]? = some n) : (restM ws cs)[i]? = some (if n - hadM cs i > 0 then n - hadM cs i else 0) := by
  have hi : i < ws.length := (List.getElem?_eq_some_iff.mp h).1
  unfold restM
  rw [List.getElem?_map, List.getElem?_range hi]
  show some (if ws.getD i 0 - hadM cs i > 0 then ws.getD i 0 - hadM cs i else 0) = _
  rw [show ws.getD i 0 = n by rw [List.getD_eq_getElem?_getD, h]; rfl]
theorem restM_len (ws cs : List Int) : (restM ws cs).length = ws.length := by
  unfold restM
  rw [List.length_map, List.length_range]
def sp_rest (K : PySem.W.Frag) : Sp := fun vs H Q _ => ∃ (a b : Addr) (ws cs : List Int), vs = [.ref a, .ref b] ∧ SqL K H a (ws.map V.int) ∧ SqL K H b (cs.map V.int) ∧ ws.length ≤ 1000 ∧ ∀ H' p, Same H H' → H p = none → H' p = some (LI (restM ws cs)) → Q (.ref p) H'
section
variable {P : Program} {w : World} {K : PySem.W.Frag} {mg : Str → Option Value} {base : Heap}
theorem ok_rest {f fh : Addr} {fd fdh : FuncData} {k : Nat} (M : Names mg) (D : Def K mg "rest" s_rest ["want", "content"] f fd) (D_had : Def K mg "had" s_had ["content", "thing"] fh fdh) : FnOk P w K mg base CX0 (k + 2) f fd ["want", "content"] (sp_rest K) := by
  have G_had : FnOk P w K mg base CX0 (k + 1) fh fdh ["content", "thing"] (sp_had K) := ok_had M D_had
  refine D.F.ok sc_rest (fun vs H Q E h => ?_) (fun cdv A outer s H vs Q E hr h => ?_)
  · obtain ⟨a, b, ws, cs, rfl, _⟩ := h
    rfl
  · obtain ⟨a, b, ws, cs, rfl, ha, hb, hl, q⟩ := h
    refine ⟨_, (pss_one (ps_ret (pe_lc (own := [("thing", 2), ("number", 3)]) (by rfl) sc_rest.nd (pi_enum (by rfl) M.enumerate (pa_cons (pv 0) pa_nil)) (blkOk_by (own := [("thing", 2), ("number", 3)]) (N := N_rest) (sc := defScope s_rest) (by decide +kernel)) (fun _ _ _ _ _ => (pg_tupK (K := K) (n := 2) rfl rfl (pgs_cons (pg_name (i := 2) sc_rest.nd rfl (Or.inl rfl)) (pgs_cons (pg_name (i := 3) sc_rest.nd rfl (Or.inl rfl)) pgs_nil)))) (fun _ _ _ _ _ => pts_nil) (fun _ _ _ _ _ => (pe_callB (call_max2 rfl) (by rfl) M.max (by decide +kernel) (pa_cons pe_int (pa_cons (pe_op op_sub (pv 3) (pe_call G_had hr (by rfl) D_had.g D_had.F.kp D_had.b .nil pass0 (pa_cons (pv 1) (pa_cons (pv 2) pa_nil)))) pa_nil))))))), ?_⟩
    refine ⟨_, rfl, a, _, rfl, ha, fun L nL => lc_it (walk_enum (xs := ws.map V.int)) (fun i H' => Same H H' ∧ H' L = some (LI ((restM ws cs).take i))) ⟨same_upd nL, upd_same⟩ (fun i H' _ hp => hp.1.seq ha) (fun i x H1 H2 hi hp hy => ?_) (fun H1 hp => ?_)⟩
    · obtain ⟨s1, hL⟩ := hp
      obtain ⟨T, x1, x2, rfl, nT, rfl, e1, e2⟩ := hy
      cases Option.some.inj e1
      obtain ⟨n, hn, rfl⟩ := of_get_ints e2
      have nLT : L ≠ T := ne_of_none hL nT
      have s2 : Same H (upd H1 T (.tup [.int (i : Nat), .int n])) := s1.trans (same_upd nT)
      rw [List.length_map] at hi
      refine ⟨T, _, rfl, SqT.of upd_same, rfl, _, _, rfl, _, _, rfl, rfl, rfl, _, rfl, _, rfl, _, rfl, b, cs, i, rfl, s2.seq hb, _, _, rfl, rfl, _, _, rfl, _, (by rw [upd_ne nLT]; exact hL), szL' (by rw [List.length_map, List.length_take]; omega), sm_new s2 nL, ?_⟩
      rw [take_succ_at (restM_get hn)]
      exact at_app
    · obtain ⟨s1, hL⟩ := hp
      rw [List.length_map, List.take_of_length_le (by rw [restM_len]; omega)] at hL
      exact q _ L s1 nL hL
end
/-! ### small numbers -/
def casesM (ws : List Int) : Int := ws.foldl (fun p w => p * (w + 1)) 1
theorem casesM_take {ws : List Int} {i : Nat} {x : Int} (h : ws[i]? = some x) : casesM (ws.take (i + 1)) = casesM (ws.take i) * (x + 1) := by
  unfold casesM
  rw [take_succ_at h, List.foldl_append]
  rfl
theorem first_at : ∀ {l : List Int} {x : Int}, x ∈ l → ∃ j : Nat, l[j]? = some x ∧ ∀ (m : Nat) y, m < j → l[m]? = some y → y ≠ x
  | a :: r, x, h => by
    by_cases e : a = x
    · subst e
      exact ⟨0, rfl, fun m y hm => absurd hm (Nat.not_lt_zero _)⟩
    · obtain ⟨j, h1, h2⟩ := first_at (l := r) ((List.mem_cons.mp h).resolve_left fun z => e z.symm)
      refine ⟨j + 1, h1, fun m y hm hy => ?_⟩
      cases m with
      | zero =>
        have : a = y := Option.some.inj hy
        rw [← this]
        exact e
      | succ m => exact h2 m y (by omega) hy
theorem casesM_zero : ∀ (ws : List Int) (p : Int), (∀ w ∈ ws, w = 0) → ws.foldl (fun p w => p * (w + 1)) p = p
  | [], _, _ => rfl
  | a :: r, p, h => by
    have e : a = 0 := h a List.mem_cons_self
    subst e
    show r.foldl (fun p w => p * (w + 1)) (p * (0 + 1)) = p
    rw [casesM_zero r _ fun w hw => h w (List.mem_cons_of_mem _ hw)]
    omega
theorem sum_nonneg : ∀ {ws : List Int}, (∀ w ∈ ws, 0 ≤ w) → 0 ≤ ws.sum
  | [], _ => by decide
  | a :: r, h => by
    have h1 := h a List.mem_cons_self
    have h2 := sum_nonneg (ws := r) fun w hw => h w (List.mem_cons_of_mem _ hw)
    rw [List.sum_cons]
    omega
theorem sum_get : ∀ {ws : List Int} {j : Nat} {x : Int}, (∀ w ∈ ws, 0 ≤ w) → ws[j]? = some x → x ≤ ws.sum
  | [], j, x, _, h => by simp at h
  | a :: r, 0, x, hh, h => by
    have e : a = x := Option.some.inj h
    have := sum_nonneg (ws := r) fun w hw => hh w (List.mem_cons_of_mem _ hw)
    rw [List.sum_cons]
    omega
  | a :: r, j + 1, x, hh, h => by
    have h1 := hh a List.mem_cons_self
    have h2 := sum_get (ws := r) (j := j) (x := x) (fun w hw => hh w (List.mem_cons_of_mem _ hw)) h
    rw [List.sum_cons]
    omega
def Small (ws : List Int) : Prop := ∀ w ∈ ws, 0 ≤ w ∧ w ≤ 9
theorem Small.app {ws : List Int} {n : Int} (h : Small ws) (h1 : 0 ≤ n) (h2 : n ≤ 9) : Small (ws ++ [n]) := fun w hw => by
  rcases List.mem_append.mp hw with z | z
  · exact h w z
  · rw [List.mem_singleton.mp z]
    exact ⟨h1, h2⟩
theorem Small.big {ws : List Int} (h : Small ws) : ∀ w ∈ ws, -1000000 ≤ w ∧ w ≤ 1000000 := fun w hw => by
  have := h w hw
  omega
/-! ### lesser wants, in order -/
/-- 0, 1, .. n (none below nought) -/
def upto (n : Int) : List Int := (List.range (n + 1).toNat).map fun (i : Nat) => (i : Int)
def lesserF : List Int → List (List Int)
  | [] => [[]]
  | n :: w => (upto n).flatMap fun a => (lesserF w).map (a :: ·)
theorem lesserF_snoc : ∀ (w : List Int) (n : Int), lesserF (w ++ [n]) = (lesserF w).flatMap fun s => (upto n).map fun l => s ++ [l]
  | [], n => by
    show (upto n).flatMap (fun a => [[a]]) = _
    simp only [lesserF, List.flatMap_cons, List.flatMap_nil, List.append_nil, List.nil_append]
    induction upto n with
    | nil => rfl
    | cons x r ih => rw [List.flatMap_cons, List.map_cons, ih]; rfl
  | m :: w, n => by
    show (upto m).flatMap (fun a => (lesserF (w ++ [n])).map (a :: ·)) = ((upto m).flatMap fun a => (lesserF w).map (a :: ·)).flatMap _
    rw [lesserF_snoc w n, List.flatMap_assoc]
    congr 1
    funext a
    rw [List.map_flatMap, List.flatMap_map]
    congr 1
    funext s
    rw [List.map_map]
    rfl
theorem upto_length {n : Int} : (upto n).length = (n + 1).toNat := by
  unfold upto
  rw [List.length_map, List.length_range]
theorem upto_get {n : Int} {i : Nat} (h : i < (n + 1).toNat) : (upto n)[i]? = some (i : Int) := by
  unfold upto
  rw [List.getElem?_map, List.getElem?_range h]
  rfl
theorem flatMap_const_length {α β : Type} (l : List α) (f : α → List β) (c : Nat) (h : ∀ a ∈ l, (f a).length = c) : (l.flatMap f).length = l.length * c := by
  induction l with
  | nil => simp
  | cons a r ih =>
    rw [List.flatMap_cons, List.length_append, h a List.mem_cons_self, ih fun b hb => h b (List.mem_cons_of_mem _ hb), List.length_cons, Nat.add_mul]
    omega
theorem lesserF_length_cons (n : Int) (w : List Int) : (lesserF (n :: w)).length = (n + 1).toNat * (lesserF w).length := by
  show ((upto n).flatMap fun a => (lesserF w).map (a :: ·)).length = _
  rw [flatMap_const_length _ _ (lesserF w).length (fun a _ => List.length_map _), upto_length]
theorem cases_foldl : ∀ (w : List Int) (p : Int), (∀ x ∈ w, 0 ≤ x) → w.foldl (fun p w => p * (w + 1)) p = p * ((lesserF w).length : Int)
  | [], p, _ => by
    show p = p * ((1 : Nat) : Int)
    omega
  | n :: w, p, h => by
    have hn := h n List.mem_cons_self
    show w.foldl (fun p w => p * (w + 1)) (p * (n + 1)) = _
    rw [cases_foldl w _ fun x hx => h x (List.mem_cons_of_mem _ hx), lesserF_length_cons, Int.natCast_mul, Int.toNat_of_nonneg (by omega), Int.mul_assoc]
theorem casesM_lesser {w : List Int} (h : ∀ x ∈ w, 0 ≤ x) : casesM w = ((lesserF w).length : Int) := by
  unfold casesM
  rw [cases_foldl w 1 h]
  omega
/-- the next one, by the last place that is less -/
def nextF : List Int → List Int → Option (List Int)
  | a :: r, b :: w => match nextF r w with
    | some r' => some (a :: r')
    | none => if a = b then none else some ((a + 1) :: List.replicate r.length 0)
  | _, _ => none
theorem nextF_self : ∀ w : List Int, nextF w w = none
  | [] => rfl
  | a :: w => by
    unfold nextF
    rw [nextF_self w]
    simp
theorem nextF_at : ∀ (l l' r : List Int) (a b : Int), l.length = l'.length → a ≠ b → nextF (l ++ a :: r) (l' ++ b :: r) = some (l ++ (a + 1) :: List.replicate r.length 0)
  | [], [], r, a, b, _, h => by
    show nextF (a :: r) (b :: r) = some ((a + 1) :: List.replicate r.length 0)
    unfold nextF
    rw [nextF_self r]
    simp [h]
  | x :: l, y :: l', r, a, b, hl, h => by
    show nextF (x :: (l ++ a :: r)) (y :: (l' ++ b :: r)) = _
    unfold nextF
    rw [nextF_at l l' r a b (by simpa using hl) h]
    rfl
/-- what a row of lists is behind another -/
inductive Chain (w : List Int) : List (List Int) → Prop
  | one {r : List Int} (h : nextF r w = none) : Chain w [r]
  | cons {r s : List Int} {l : List (List Int)} (h : nextF r w = some s) (t : Chain w (s :: l)) : Chain w (r :: s :: l)
theorem Chain.map {w : List Int} {a n : Int} : ∀ {l : List (List Int)} {r : List Int}, Chain w (r :: l) → ∀ {rest : List (List Int)}, (a = n ∧ rest = [] ∨ a ≠ n ∧ ∃ z m, rest = z :: m ∧ z = (a + 1) :: List.replicate w.length 0 ∧ Chain (n :: w) (z :: m)) → (∀ s ∈ r :: l, s.length = w.length) →
    Chain (n :: w) (((r :: l).map (a :: ·)) ++ rest)
  | [], r, .one h, rest, hr, hlen => by
    have hrl := hlen r List.mem_cons_self
    rcases hr with ⟨e, rfl⟩ | ⟨e, z, m, rfl, ez, c⟩
    · refine .one ?_
      show nextF (a :: r) (n :: w) = none
      unfold nextF
      rw [h]
      simp [e]
    · refine .cons ?_ c
      show nextF (a :: r) (n :: w) = some z
      unfold nextF
      rw [h]
      simp [e, ez, hrl]
  | s :: l, r, .cons h t, rest, hr, hlen => by
    refine .cons ?_ (Chain.map t hr fun x hx => hlen x (List.mem_cons_of_mem _ hx))
    show nextF (a :: r) (n :: w) = some (a :: s)
    unfold nextF
    rw [h]
theorem lesserF_len : ∀ {w r : List Int}, r ∈ lesserF w → r.length = w.length
  | [], r, h => by
    rw [List.mem_singleton.mp h]
  | n :: w, r, h => by
    obtain ⟨a, _, h2⟩ := List.mem_flatMap.mp h
    obtain ⟨s, h3, rfl⟩ := List.mem_map.mp h2
    rw [List.length_cons, List.length_cons, lesserF_len h3]
/-- the tail of the order: from first number k on, d more -/
theorem chain_from {n : Int} {w : List Int} {l : List (List Int)} (hl : lesserF w = List.replicate w.length 0 :: l) (c : Chain w (lesserF w)) : ∀ (d k : Nat), ((k + d : Nat) : Int) = n →
    ∃ z m, ((List.range (d + 1)).map fun (i : Nat) => ((k + i : Nat) : Int)).flatMap (fun a => (lesserF w).map (a :: ·)) = z :: m ∧ z = (k : Int) :: List.replicate w.length 0 ∧ Chain (n :: w) (z :: m)
  | 0, k, e => by
    have c' := c
    rw [hl] at c'
    have q := Chain.map (a := (k : Int)) (n := n) c' (rest := []) (.inl ⟨by omega, rfl⟩) (fun s hs => lesserF_len (by rw [hl]; exact hs))
    refine ⟨(k : Int) :: List.replicate w.length 0, l.map ((k : Int) :: ·), ?_, rfl, ?_⟩
    · simp [hl]
    · simpa using q
  | d + 1, k, e => by
    obtain ⟨z, m, h1, h2, h3⟩ := chain_from (n := n) hl c d (k + 1) (by omega)
    have c' := c
    rw [hl] at c'
    have q := Chain.map (a := (k : Int)) (n := n) c' (rest := z :: m) (.inr ⟨by omega, z, m, rfl, by rw [h2]; rfl, h3⟩) (fun s hs => lesserF_len (by rw [hl]; exact hs))
    refine ⟨(k : Int) :: List.replicate w.length 0, l.map ((k : Int) :: ·) ++ (z :: m), ?_, rfl, ?_⟩
    · rw [List.range_succ_eq_map, List.map_cons, List.flatMap_cons, List.map_map]
      have e2 : ((fun (i : Nat) => ((k + i : Nat) : Int)) ∘ Nat.succ) = fun (i : Nat) => ((k + 1 + i : Nat) : Int) := by
        funext i
        show ((k + (i + 1) : Nat) : Int) = _
        congr 1
        omega
      rw [e2, h1, hl]
      rfl
    · simpa using q
theorem lesserF_chain : ∀ {w : List Int}, (∀ x ∈ w, 0 ≤ x) → Chain w (lesserF w) ∧ ∃ l, lesserF w = List.replicate w.length 0 :: l
  | [], _ => ⟨.one rfl, [], rfl⟩
  | n :: w, h => by
    have hn := h n List.mem_cons_self
    obtain ⟨c, l, hl⟩ := lesserF_chain (w := w) fun x hx => h x (List.mem_cons_of_mem _ hx)
    obtain ⟨z, m, h1, h2, h3⟩ := chain_from (n := n) hl c n.toNat 0 (by omega)
    have e : lesserF (n :: w) = z :: m := by
      rw [← h1]
      show (upto n).flatMap _ = _
      unfold upto
      rw [show (n + 1).toNat = n.toNat + 1 by omega]
      congr 2
      funext i
      congr 1
      omega
    rw [e]
    exact ⟨h3, m, by rw [h2]; rfl⟩
theorem Chain.at {w : List Int} : ∀ {l : List (List Int)} {i : Nat} {r : List Int}, Chain w l → l[i]? = some r → nextF r w = l[i + 1]?
  | _, 0, r, .one h, e => by
    cases Option.some.inj e
    exact h
  | _, i + 1, r, .one h, e => by simp at e
  | _, 0, r, .cons h t, e => by
    cases Option.some.inj e
    exact h
  | _, i + 1, r, .cons h t, e => by
    have q := Chain.at (i := i) (r := r) t (by simpa using e)
    simpa using q
/-! ### lesser -/
abbrev s_lesser : Stmt := topS 22
abbrev N_lesser : List Str := ["want", "begun", "number", "start", "less"]
theorem sc_lesser : FnScope N_lesser ["want"] (defScope s_lesser) := ⟨rfl, rfl, rfl, by decide +kernel, rfl, by decide +kernel, by decide +kernel⟩

/-- at D stands a list of new lists, one for each of rs -/
def Made (H1 : Hp) (D : Addr) (H' : Hp) (rs : List (List Int)) : Prop := ∃ bs : List Addr, H' D = some (.lst (bs.map V.ref)) ∧ bs.length = rs.length ∧ bs.Nodup ∧ ∀ (i : Nat) b r, bs[i]? = some b → rs[i]? = some r → H1 b = none ∧ b ≠ D ∧ H' b = some (LI r)
theorem Made.snoc {H1 H' H2 : Hp} {D p : Addr} {rs : List (List Int)} {r : List Int} (h : Made H1 D H' rs) (s1 : Same H1 H') (s2 : Same H' H2) (np : H' p = none) (hp : H2 p = some (LI r)) :
    ∃ acc, H2 D = some (.lst acc) ∧ acc.length = rs.length ∧ Made H1 D (upd H2 D (.lst (acc ++ [.ref p]))) (rs ++ [r]) := by
  obtain ⟨bs, hD, hl, nd, hr⟩ := h
  have npD : p ≠ D := (ne_of_none hD np).symm
  refine ⟨bs.map V.ref, s2 _ _ hD, by rw [List.length_map]; exact hl, bs ++ [p], ?_, ?_, ?_, fun i b r' hb hr' => ?_⟩
  · rw [upd_same, List.map_append]
    rfl
  · rw [List.length_append, List.length_append, hl]
    rfl
  · refine List.nodup_append.mpr ⟨nd, by simp, fun x hx y hy => ?_⟩
    rw [List.mem_singleton.mp hy]
    obtain ⟨i, hi, e⟩ := List.getElem_of_mem hx
    have h1 : bs[i]? = some x := by rw [List.getElem?_eq_getElem hi, e]
    obtain ⟨r0, h2⟩ : ∃ r0, rs[i]? = some r0 := ⟨rs[i]'(by omega), List.getElem?_eq_getElem (by omega)⟩
    exact ne_of_none (hr i x r0 h1 h2).2.2 np
  · rcases Nat.lt_or_ge i bs.length with hi | hi
    · rw [List.getElem?_append_left hi] at hb
      rw [List.getElem?_append_left (by omega)] at hr'
      obtain ⟨t1, t2, t3⟩ := hr i b r' hb hr'
      exact ⟨t1, t2, by rw [upd_ne t2]; exact s2 _ _ t3⟩
    · rw [List.getElem?_append_right hi] at hb
      rw [List.getElem?_append_right (by omega)] at hr'
      have e0 : i - bs.length = 0 := by
        cases e : i - bs.length with
        | zero => rfl
        | succ n => rw [e] at hb; simp at hb
      rw [← hl] at hr'
      rw [e0] at hb hr'
      cases Option.some.inj hb
      cases Option.some.inj hr'
      exact ⟨s1.free np, npD, by rw [upd_ne npD]; exact hp⟩
theorem lesserF_le : ∀ {w : List Int}, Small w → (lesserF w).length ≤ 10 ^ w.length
  | [], _ => by decide
  | n :: w, h => by
    have hn := h n List.mem_cons_self
    have ih := lesserF_le (w := w) fun x hx => h x (List.mem_cons_of_mem _ hx)
    rw [lesserF_length_cons, List.length_cons, Nat.pow_succ, Nat.mul_comm]
    exact Nat.mul_le_mul ih (by omega)
theorem lesserF_le4 {w : List Int} (h : Small w) (h4 : w.length ≤ 4) : (lesserF w).length ≤ 10000 :=
  Nat.le_trans (lesserF_le h) (Nat.le_trans (Nat.pow_le_pow_right (by decide) h4) (by decide))
def sp_lesser (K : PySem.W.Frag) : Sp := fun vs H Q _ => ∃ (a : Addr) (ws : List Int), vs = [.ref a] ∧ SqL K H a (ws.map V.int) ∧ ws.length ≤ 4 ∧ Small ws ∧
  ∀ H' p, Same H H' → H p = none → Made H p H' (lesserF ws) → Q (.ref p) H'
section
variable {P : Program} {w : World} {K : PySem.W.Frag} {mg : Str → Option Value} {base : Heap}
theorem ok_lesser {f : Addr} {fd : FuncData} {k : Nat} (M : Names mg) (D : Def K mg "lesser" s_lesser ["want"] f fd) : FnOk P w K mg base CX0 (k + 1) f fd ["want"] (sp_lesser K) := by
  refine D.F.ok sc_lesser (fun vs H Q E h => ?_) (fun cdv A outer s H vs Q E hr h => ?_)
  · obtain ⟨a, ws, rfl, _⟩ := h
    rfl
  · obtain ⟨a, ws, rfl, ha, h4, sm, q⟩ := h
    refine ⟨_, (pss_cons (ps_set (i := 1) sc_lesser.nd rfl (Or.inl rfl) (pe_lst (pa_cons (pe_lst pa_nil) pa_nil)))
  (pss_cons (ps_for PassesOwn.never rfl (pi_list (pv 0)) (pg_name (i := 2) sc_lesser.nd rfl (Or.inr rfl))
   (pss_one (ps_setLc2 (i := 1) (own := [("start", 3), ("less", 4)]) (vs1 := [4]) (by rfl) sc_lesser.nd rfl rfl (sw_true rfl rfl rfl (by decide +kernel)) (pi_list (pv 1)) (blkOk_by (own := [("start", 3), ("less", 4)]) (N := N_lesser) (sc := defScope s_lesser) (by decide +kernel)) (by decide) (fun _ _ _ _ _ => (pg_name (i := 3) sc_lesser.nd rfl (Or.inl rfl))) (fun _ _ _ _ _ => pts_nil) (fun _ _ _ _ _ => (pi_range1 (by rfl) M.range (pa_cons (pe_op op_add (pv 2) pe_int) pa_nil))) (fun _ _ _ _ _ => (pg_name (i := 4) sc_lesser.nd rfl (Or.inl rfl))) (fun _ _ _ _ _ => pts_nil) (fun _ _ _ _ _ => (pe_op op_cat (pv 3) (pe_lst (pa_cons (pv 4) pa_nil)))))))
  (pss_one (ps_ret (pv 1))))), ?_⟩
    refine ⟨Nat.zero_le _, fun z nz => ⟨by show 1 ≤ sizeLine; decide, fun b nb => ?_⟩⟩
    have nzb : z ≠ b := ne_of_none upd_same nb
    have s1 : Same H (upd H z (.lst [])) := same_upd nz
    have s2 : Same H (upd (upd H z (.lst [])) b (.lst [.ref z])) := s1.trans (same_upd nb)
    refine ⟨_, rfl, a, rfl, ⟨_, s2.seq ha⟩, for_list (xs := ws.map V.int) (fun i σ H' => ∃ p y2, σ = [some (.ref a), some (.ref p), y2, none, none] ∧ Same H H' ∧ H p = none ∧ Made H p H' (lesserF (ws.take i))) ⟨b, none, rfl, s2, s1.free nb, [z], upd_same, rfl, by simp, fun i b' r hb hr => ?_⟩ (fun i σ H' _ hp => ?_) (fun i x σ H1 hx hp => ?_) (fun σ H' hp => ?_)⟩
    · cases i with
      | succ i => simp at hb
      | zero =>
        cases Option.some.inj hb
        cases Option.some.inj hr
        exact ⟨nz, nzb, by rw [upd_ne nzb]; exact upd_same⟩
    · obtain ⟨p, y2, _, s3, _⟩ := hp
      exact s3.seq ha
    · obtain ⟨p, y2, rfl, s3, np, as, hp, hal, nd, hrows⟩ := hp
      obtain ⟨n, hn, rfl⟩ := of_get_ints hx
      have bn := sm n (List.mem_of_getElem? hn)
      have etk := take_succ_at hn
      have smk : Small (ws.take (i + 1)) := fun x hx => sm x (List.mem_of_mem_take hx)
      have big : (lesserF (ws.take (i + 1))).length ≤ 10000 := lesserF_le4 smk (by rw [List.length_take]; omega)
      rw [etk, lesserF_snoc] at big
      generalize hrs : lesserF (ws.take i) = rs at hal hrows big
      have blen : ∀ j, ((rs.take j).flatMap fun s => (upto n).map fun l => s ++ [l]).length = min j rs.length * (n + 1).toNat := fun j => by
        rw [flatMap_const_length _ _ (n + 1).toNat (fun a _ => by rw [List.length_map, upto_length]), List.length_take]
      rw [flatMap_const_length _ _ (n + 1).toNat (fun a _ => by rw [List.length_map, upto_length])] at big
      refine ⟨_, rfl, p, rfl, ⟨_, SqL.of hp⟩, fun L nL => ?_⟩
      have nLH : H L = none := s3.free nL
      refine ⟨fun j m H' => m = as.length - j ∧ j ≤ as.length ∧ Same H1 H' ∧ Made H1 L H' ((rs.take j).flatMap fun s => (upto n).map fun l => s ++ [l]), ⟨_, rfl, Nat.zero_le _, same_upd nL, [], upd_same, rfl, by simp, fun j b' r hb => by simp at hb⟩, fun j m H2 hW => ?_⟩
      obtain ⟨rfl, hj, s4, md⟩ := hW
      have hA : SqL K H2 p (as.map V.ref) := SqL.of (s4 _ _ hp)
      by_cases hjl : j < as.length
      · obtain ⟨c, hc⟩ : ∃ c, as[j]? = some c := ⟨as[j], List.getElem?_eq_getElem hjl⟩
        obtain ⟨r, hr⟩ : ∃ r, rs[j]? = some r := ⟨rs[j]'(by omega), List.getElem?_eq_getElem (by omega)⟩
        have gc : (as.map V.ref)[j]? = some (.ref c) := by rw [List.getElem?_map, hc]; rfl
        obtain ⟨nc, ncp, hcr⟩ := hrows j c r hc hr
        have hc2 := s4 _ _ hcr
        refine .inr ⟨⟨_, _, hA, gc⟩, fun H' => Same H1 H' ∧ Made H1 L H' ((rs.take (j + 1)).flatMap fun s => (upto n).map fun l => s ++ [l]), fun H' hN => ⟨_, by omega, rfl, by omega, hN⟩, fun x H3 hy => ?_⟩
        obtain ⟨rfl, fy⟩ := hy
        have ex : x = .ref c := Option.some.inj ((fy _ hA).symm.trans gc)
        subst ex
        refine ⟨rfl, _, rfl, _, _, rfl, rfl, _, rfl, by omega, by omega, fun t m' H' => m' = (n + 1).toNat - t ∧ t ≤ (n + 1).toNat ∧ Same H1 H' ∧ H' c = some (LI r) ∧ Made H1 L H' (((rs.take j).flatMap fun s => (upto n).map fun l => s ++ [l]) ++ ((upto n).take t).map fun l => r ++ [l]), ⟨_, rfl, Nat.zero_le _, s4, hc2, ?_⟩, fun t m' H4 hW1 => ?_⟩
        · rw [List.take_zero, List.map_nil, List.append_nil]
          exact md
        · obtain ⟨rfl, ht, s5, hc5, md5⟩ := hW1
          by_cases htl : t < (n + 1).toNat
          · refine .inr ⟨htl, fun H' => Same H1 H' ∧ H' c = some (LI r) ∧ Made H1 L H' (((rs.take j).flatMap fun s => (upto n).map fun l => s ++ [l]) ++ ((upto n).take (t + 1)).map fun l => r ++ [l]), fun H' hN => ⟨_, by omega, rfl, htl, hN⟩, fun x H5 hy => ?_⟩
            obtain ⟨rfl, rfl⟩ := hy
            refine ⟨rfl, _, rfl, _, rfl, by show 1 ≤ sizeLine; decide, fun u nu => ?_⟩
            have ncu : c ≠ u := ne_of_none hc5 nu
            have hc6 : upd H5 u (.lst [.int (0 + (t : Int))]) c = some (LI r) := by rw [upd_ne ncu]; exact hc5
            have hrl : r.length ≤ 4 := by
              have z := lesserF_len (w := ws.take i) (r := r) (by rw [hrs]; exact List.mem_of_getElem? hr)
              rw [z, List.length_take]
              omega
            refine ⟨c, u, _, _, rfl, rfl, hc6, upd_same, szL (by rw [List.length_map]; show r.length + 1 ≤ _; omega), fun v nv => ?_⟩
            have s6 : Same H5 (upd (upd H5 u (.lst [.int (0 + (t : Int))])) v (.lst (r.map V.int ++ [.int (0 + (t : Int))]))) := (same_upd nu).trans (same_upd nv)
            have nv5 : H5 v = none := (same_upd nu).free nv
            obtain ⟨acc, ha1, ha2, ha3⟩ := md5.snoc (r := r ++ [(0 + (t : Int))]) s5 s6 nv5 (by rw [upd_same, li_app])
            refine ⟨acc, ha1, szL' ?_, ?_, ?_, ?_⟩
            · rw [ha2, List.length_append, blen, List.length_map, List.length_take, upto_length]
              have m1 : min j rs.length = j := by omega
              have m2 : min t (n + 1).toNat ≤ 10 := by omega
              have m3 : j * (n + 1).toNat ≤ rs.length * (n + 1).toNat := Nat.mul_le_mul_right _ (by omega)
              rw [m1]
              omega
            · refine sm_new (s5.trans s6) nL
            · have ncL : c ≠ L := ne_of_none hcr nL
              rw [upd_ne ncL]
              exact s6 _ _ hc5
            · have e2 : (upto n).take (t + 1) = (upto n).take t ++ [(0 + (t : Int))] := take_succ_at (by rw [upto_get htl, Int.zero_add])
              rw [e2, List.map_append, ← List.append_assoc]
              exact ha3
          · have et : t = (n + 1).toNat := by omega
            refine .inl ⟨by show (n + 1).toNat ≤ t; omega, s5, ?_⟩
            have e2 : (upto n).take t = upto n := List.take_of_length_le (by rw [upto_length]; omega)
            rw [e2] at md5
            rw [take_succ_at hr, List.flatMap_append]
            simpa using md5
      · have ej : j = as.length := by omega
        refine .inl ⟨⟨_, hA, by rw [List.length_map]; omega⟩, ?_⟩
        rw [List.take_of_length_le (by omega)] at md
        refine ⟨L, _, rfl, s3.trans s4, nLH, ?_⟩
        rw [etk, lesserF_snoc, hrs]
        obtain ⟨bs, m1, m2, m3, m4⟩ := md
        exact ⟨bs, m1, m2, m3, fun i b r hb hr => ⟨s3.free (m4 i b r hb hr).1, (m4 i b r hb hr).2⟩⟩
    · obtain ⟨p, y2, rfl, s3, np, md⟩ := hp
      rw [List.length_map, List.take_length] at md
      exact ⟨_, rfl, q H' p s3 np md⟩
end
/-! ### tables through calls -/
theorem tabG_same {H H' : Hp} {T : Addr} (s : Same H H') (h : GxR.TabG H T) : GxR.TabG H' T := by
  obtain ⟨ps, h1, h2⟩ := h
  exact ⟨ps, s _ _ h1, h2⟩
theorem tabG_but {H H' : Hp} {T d : Addr} {xs : List V} (s : SameBut d H H') (hd : H d = some (.lst xs)) (h : GxR.TabG H T) : GxR.TabG H' T := by
  obtain ⟨ps, h1, h2⟩ := h
  exact ⟨ps, s _ _ (ne_of h1 hd (fun z => nomatch z)) h1, h2⟩
theorem tabbed_lst {H H' : Hp} {T a : Addr} {xs : List V} (t : GxR.Tabbed T H H') (hT : GxR.TabG H T) (h : H a = some (.lst xs)) : H' a = some (.lst xs) := by
  obtain ⟨ps, h1, h2⟩ := hT
  rw [t.2 a (ne_of h h1 (fun z => nomatch z))]
  exact h
theorem draw4 (x : Int) : ∃ m : Nat, 1 ≤ m ∧ m ≤ 4 ∧ 1 + x % 4 = (m : Int) := ⟨(1 + x % 4).toNat, by omega, by omega, by omega⟩
/-! ### a heap without one address; what is kept apart from tables -/
def cutH (d : Addr) (H : Hp) : Hp := fun b => if b = d then none else H b
section
variable {d : Addr} {H H' : Hp}
theorem cut_at {b : Addr} (h : b ≠ d) : cutH d H b = H b := if_neg h
theorem cut_put {b : Addr} {o : HO} (h : b ≠ d) (e : H b = some o) : cutH d H b = some o := by rw [cut_at h]; exact e
theorem cut_some {b : Addr} {o : HO} (h : cutH d H b = some o) : b ≠ d ∧ H b = some o := by
  unfold cutH at h
  by_cases e : b = d
  · rw [if_pos e] at h
    cases h
  · rw [if_neg e] at h
    exact ⟨e, h⟩
theorem cut_same (s : SameBut d H H') : Same (cutH d H) (cutH d H') := fun b o h => by
  obtain ⟨n, e⟩ := cut_some h
  exact cut_put n (s b o n e)
theorem cut_le : Same (cutH d H) H := fun _ _ h => (cut_some h).2
theorem cut_upd {u : Addr} {o : HO} (h : u ≠ d) : cutH d (upd H u o) = upd (cutH d H) u o := by
  funext b
  by_cases e : b = d
  · rw [e, upd_ne (fun z => h z.symm)]
    unfold cutH
    rw [if_pos rfl, if_pos rfl]
  · rw [cut_at e]
    by_cases e2 : b = u
    · rw [e2, upd_same, upd_same]
    · rw [upd_ne e2, upd_ne e2, cut_at e]
/-- all but tables stay -/
def Ke (H H' : Hp) : Prop := ∀ b o, H b = some o → (∀ ps, o ≠ .tbl ps) → H' b = some o
theorem Ke.refl (H : Hp) : Ke H H := fun _ _ e _ => e
theorem Ke.trans {H1 H2 : Hp} (a : Ke H H1) (b : Ke H1 H2) : Ke H H2 := fun c o e n => b c o (a c o e n) n
theorem Ke.of (s : Same H H') : Ke H H' := fun b o e _ => s b o e
theorem Ke.cut (a : Ke H H') : Ke (cutH d H) (cutH d H') := fun b o e n => by
  obtain ⟨n1, e1⟩ := cut_some e
  exact cut_put n1 (a b o e1 n)
theorem Ke.lst (a : Ke H H') {p : Addr} {xs : List V} (h : H p = some (.lst xs)) : H' p = some (.lst xs) := a _ _ h fun _ z => nomatch z
theorem Ke.tup (a : Ke H H') {p : Addr} {xs : List V} (h : H p = some (.tup xs)) : H' p = some (.tup xs) := a _ _ h fun _ z => nomatch z
theorem Ext.ke {T : List Addr} (e : Ext T H H') : Ke H H' := e.ext
theorem tb_same {T : List Addr} (s : Same H H') (h : Tb T H) : Tb T H' := fun t ht => tabG_same s (h t ht)
theorem tb_but {T : List Addr} {xs : List V} (s : SameBut d H H') (hd : H d = some (.lst xs)) (h : Tb T H) : Tb T H' := fun t ht => tabG_but s hd (h t ht)
theorem TiersAt.ke (e : Ke H H') {a : Addr} {ts : List (Int × Int)} (h : TiersAt H a ts) : TiersAt H' a ts := by
  obtain ⟨us, h1, h2, h3⟩ := h
  exact ⟨us, e.lst h1, h2, fun i u t a b => e.tup (h3 i u t a b)⟩
theorem OfrAt.ke (e : Ke H H') {a : Addr} : ∀ {o : Ofr}, OfrAt H a o → OfrAt H' a o
  | .pack c p, ⟨b, h1, h2⟩ => ⟨b, e.tup h1, e.lst h2⟩
  | .many c ts, ⟨b, t, h1, h2, h3⟩ => ⟨b, t, e.tup h1, e.lst h2, h3.ke e⟩
  | .add c p k, ⟨b, h1, h2⟩ => ⟨b, e.tup h1, e.lst h2⟩
theorem ShopAt.ke (e : Ke H H') {a : Addr} {os : List Ofr} (h : ShopAt H a os) : ShopAt H' a os := by
  obtain ⟨vs, h1, h2, h3⟩ := h
  exact ⟨vs, e.lst h1, h2, fun i v o a b => (h3 i v o a b).ke e⟩
theorem TiersAt.same (s : Same H H') {a : Addr} {ts : List (Int × Int)} (h : TiersAt H a ts) : TiersAt H' a ts := h.ke (.of s)
/-- a tier more -/
theorem TiersAt.push {F u : Addr} {ts : List (Int × Int)} {t : Int × Int} (h : TiersAt H F ts) (nu : H u = none) : ∃ xs, H F = some (.lst xs) ∧ xs.length = ts.length ∧ TiersAt (upd (upd H u (.tup [.int t.1, .int t.2])) F (.lst (xs ++ [.ref u]))) F (ts ++ [t]) := by
  obtain ⟨us, h1, h2, h3⟩ := h
  refine ⟨_, h1, by rw [List.length_map]; exact h2, us ++ [u], ?_, by rw [List.length_append, List.length_append, h2]; rfl, fun i v t' hv ht => ?_⟩
  · rw [upd_same, List.map_append]
    rfl
  · by_cases z : i < us.length
    · rw [List.getElem?_append_left z] at hv
      rw [List.getElem?_append_left (by omega)] at ht
      have e := h3 i v t' hv ht
      rw [upd_ne (ne_of e h1 (fun z => nomatch z)), upd_ne (ne_of_none e nu)]
      exact e
    · rw [List.getElem?_append_right (by omega)] at hv
      rw [List.getElem?_append_right (by omega)] at ht
      rw [← h2] at ht
      have ei : i - us.length = 0 := by
        rcases Nat.eq_zero_or_pos (i - us.length) with z | z
        · exact z
        · rw [List.getElem?_eq_none (by rw [List.length_singleton]; omega)] at hv
          cases hv
      rw [ei] at hv ht
      cases Option.some.inj hv
      cases Option.some.inj ht
      rw [upd_ne (fun z => by rw [z, h1] at nu; cases nu), upd_same]
end
/-! ### offers within bounds -/
def PriceT (ts : List (Int × Int)) : Prop := ∀ t ∈ ts, 0 ≤ t.2 ∧ t.2 < 1000000000000
theorem cut_off {d : Addr} {H : Hp} {o : HO} : cutH d (upd H d o) = cutH d H := by
  funext b
  by_cases e : b = d
  · unfold cutH
    rw [if_pos e, if_pos e]
  · rw [cut_at e, cut_at e, upd_ne e]
theorem cut_mono {d : Addr} {H H' : Hp} (s : Same H H') : Same (cutH d H) (cutH d H') := cut_same (.of s)
theorem TiersAt.cut {H : Hp} {S t : Addr} {ts : List (Int × Int)} {xs : List V} (h : TiersAt H t ts) (n : t ≠ S) (hS : H S = some (.lst xs)) : TiersAt (cutH S H) t ts := by
  obtain ⟨us, h1, h2, h3⟩ := h
  refine ⟨us, cut_put n h1, h2, fun i u t a b => ?_⟩
  have e := h3 i u t a b
  exact cut_put (ne_of e hS (fun z => nomatch z)) e
def FitO (m : Nat) : Ofr → Prop
  | .pack c p => c.length = m ∧ Small c ∧ 0 ≤ p ∧ p < 1000000000000
  | .many c ts => c.length = m ∧ Small c ∧ PriceT ts
  | .add c p _ => c.length = m ∧ Small c ∧ 0 ≤ p ∧ p < 1000000000000
def FitS (m : Nat) (os : List Ofr) : Prop := ∀ o ∈ os, FitO m o
theorem FitO.cont {m : Nat} : ∀ {o : Ofr}, FitO m o → o.cont.length = m ∧ Small o.cont
  | .pack _ _, h => ⟨h.1, h.2.1⟩
  | .many _ _, h => ⟨h.1, h.2.1⟩
  | .add _ _ _, h => ⟨h.1, h.2.1⟩
theorem FitS.fit {m : Nat} {os : List Ofr} (hm : m ≤ 4) (h : FitS m os) : Fit os := fun o ho => by
  refine ⟨?_, fun c p k e => ?_⟩
  · have := (h o ho).cont.1
    omega
  · subst e
    have := h _ ho
    exact ⟨by have := this.2.2.1; omega, by have := this.2.2.2; omega⟩
theorem FitS.push {m : Nat} {os : List Ofr} {o : Ofr} (h : FitS m os) (ho : FitO m o) : FitS m (os ++ [o]) := fun x hx => by
  rcases List.mem_append.mp hx with z | z
  · exact h x z
  · rw [List.mem_singleton.mp z]
    exact ho
theorem GoodO.mono {os : List Ofr} {i : Nat} {x : Ofr} : ∀ {o : Ofr}, GoodO os i o → GoodO (os ++ [x]) i o
  | .pack _ _, _ => True.intro
  | .many _ _, h => h
  | .add _ _ _, ⟨j, e, hj, c, p, h⟩ => ⟨j, e, hj, c, p, by rw [List.getElem?_append_left (List.getElem?_eq_some_iff.mp h).1]; exact h⟩
theorem Good.push {os : List Ofr} {o : Ofr} (h : Good os) (h8 : os.length < 8) (ho : GoodO os os.length o) : Good (os ++ [o]) := by
  refine ⟨by rw [List.length_append, List.length_singleton]; omega, fun i x hx => ?_⟩
  by_cases z : i < os.length
  · rw [List.getElem?_append_left z] at hx
    exact (h.2 i x hx).mono
  · have hi := (List.getElem?_eq_some_iff.mp hx).1
    rw [List.length_append, List.length_singleton] at hi
    have ei : i = os.length := by omega
    rw [List.getElem?_append_right (by omega), ei, Nat.sub_self] at hx
    cases Option.some.inj hx
    rw [ei]
    exact ho.mono
/-! ### lines as data -/
abbrev dInts (ns : List Int) : PyData := .list (ns.map PyData.int)
def dLine (l : Ln) : PyData := .tuple [.int l.p, .int l.c, dInts l.as]
abbrev dLines (ls : List Ln) : PyData := .list (ls.map dLine)
theorem LineAt.dp {K : PySem.W.Frag} {H : Hp} {a : Addr} {l : Ln} (h : LineAt H a l) : Dp K H (.ref a) (dLine l) := by
  obtain ⟨b, h1, h2⟩ := h
  exact .tup (SqT.of h1) (.cons (.int _) (.cons (.int _) (.cons (dp_ints (SqL.of h2)) .nil)))
theorem LineAt.same {H H' : Hp} (s : Same H H') {a : Addr} {l : Ln} (h : LineAt H a l) : LineAt H' a l := by
  obtain ⟨b, h1, h2⟩ := h
  exact ⟨b, s _ _ h1, s _ _ h2⟩
theorem LineAt.ke {H H' : Hp} (s : Ke H H') {a : Addr} {l : Ln} (h : LineAt H a l) : LineAt H' a l := by
  obtain ⟨b, h1, h2⟩ := h
  exact ⟨b, s.tup h1, s.lst h2⟩
theorem dp_lines {K : PySem.W.Frag} {H : Hp} : ∀ {as : List Addr} {ls : List Ln}, Al (LineAt H) as ls → DpAll K H (as.map V.ref) (ls.map dLine)
  | [], [], _ => .nil
  | [], _ :: _, h => h.elim
  | _ :: _, [], h => h.elim
  | _ :: _, _ :: _, h => .cons h.1.dp (dp_lines h.2)
theorem lay_line (l : Ln) : PyData.canLay0 (dLine l) = true := by
  have := lay_ints l.as
  simp [dLine, PyData.canLayAll0, PyData.canLay0, this]
theorem depth_line (l : Ln) : PyData.depth (dLine l) ≤ 2 := by
  have := depth_ints l.as
  simp only [dLine, PyData.depth, PyData.depthAll, this]
  decide
theorem lay_lines : ∀ ls : List Ln, PyData.canLayAll0 (ls.map dLine) = true
  | [] => by simp [PyData.canLayAll0]
  | l :: r => by
    have ih := lay_lines r
    have h1 := lay_line l
    simp [PyData.canLayAll0, ih, h1]
theorem depth_lines : ∀ ls : List Ln, PyData.depthAll (ls.map dLine) ≤ 2
  | [] => by simp [PyData.depthAll]
  | l :: r => by
    have ih := depth_lines r
    have h1 := depth_line l
    simp only [List.map_cons, PyData.depthAll]
    omega
theorem shaped_lines (ls : List Ln) : SeqAt.shaped (dLines ls) = true := by
  unfold SeqAt.shaped
  have h1 : PyData.canLay0 (dLines ls) = true := by
    simp only [PyData.canLay0]
    exact lay_lines ls
  have h2 : PyData.depth (dLines ls) ≤ 64 := by
    have := depth_lines ls
    simp only [PyData.depth]
    omega
  rw [h1, decide_eq_true h2]
  rfl
theorem shaped_line (l : Ln) : SeqAt.shaped (dLine l) = true := by
  unfold SeqAt.shaped
  have h2 : PyData.depth (dLine l) ≤ 64 := Nat.le_trans (depth_line l) (by decide)
  rw [lay_line l, decide_eq_true h2]
  rfl
theorem linesAtM_p {os : List Ofr} {i : Nat} {l : Ln} (h : l ∈ linesAtM os i) : l.p = (i : Int) := by
  unfold linesAtM at h
  split at h
  · obtain ⟨c, _, rfl⟩ := List.mem_map.mp h
    rfl
  · obtain ⟨c, _, rfl⟩ := List.mem_map.mp h
    rfl
  · cases h
theorem flat_one {α : Type} (X : List α) (p : Nat) : ∀ n : Nat, (List.range n).flatMap (fun i => if i = p then X else []) = if p < n then X else []
  | 0 => by simp
  | n + 1 => by
    rw [List.range_succ, List.flatMap_append, flat_one X p n, List.flatMap_singleton]
    by_cases h1 : p < n
    · rw [if_pos h1, if_neg (by omega), if_pos (by omega), List.append_nil]
    · rw [if_neg h1, List.nil_append]
      by_cases h2 : n = p
      · rw [if_pos h2, if_pos (by omega)]
      · rw [if_neg h2, if_neg (by omega)]
theorem lines_filter {os : List Ofr} {p : Nat} (h : p < os.length) : (linesM os).filter (fun l => decide (l.p = (p : Int))) = linesAtM os p := by
  unfold linesM
  rw [List.filter_flatMap]
  have e : ∀ i : Nat, (linesAtM os i).filter (fun l => decide (l.p = (p : Int))) = if i = p then linesAtM os p else [] := fun i => by
    by_cases z : i = p
    · rw [if_pos z, z, List.filter_eq_self]
      exact fun l hl => decide_eq_true (linesAtM_p hl)
    · rw [if_neg z, List.filter_eq_nil_iff]
      intro l hl
      have := linesAtM_p hl
      rw [decide_eq_true_eq]
      omega
  rw [show (fun i => (linesAtM os i).filter (fun l => decide (l.p = (p : Int)))) = fun i => if i = p then linesAtM os p else [] from funext e, flat_one, if_pos h]
/-! ### the tier of a count -/
def stepT (q : Int → Prop) [DecidablePred q] (ts : List (Int × Int)) (e : Int) : Int := ts.foldl (fun e t => if q t.1 then t.2 else e) e
theorem stepT_none {q : Int → Prop} [DecidablePred q] : ∀ {ts : List (Int × Int)} {e : Int}, (∀ t ∈ ts, ¬ q t.1) → stepT q ts e = e
  | [], _, _ => rfl
  | t :: r, e, h => by
    show stepT q r (if q t.1 then t.2 else e) = e
    rw [if_neg (h t List.mem_cons_self)]
    exact stepT_none fun t ht => h t (List.mem_cons_of_mem _ ht)
theorem stepT_split (c : Int) : ∀ (ts : List (Int × Int)) (e : Int), ts.Pairwise (fun a b => a.1 < b.1) → stepT (· = c) ts (stepT (· ≤ c - 1) ts e) = stepT (· ≤ c) ts e
  | [], _, _ => rfl
  | t :: r, e, h => by
    obtain ⟨h1, h2⟩ := List.pairwise_cons.mp h
    show stepT (· = c) r (if t.1 = c then t.2 else stepT (· ≤ c - 1) r (if t.1 ≤ c - 1 then t.2 else e)) = stepT (· ≤ c) r (if t.1 ≤ c then t.2 else e)
    by_cases z1 : t.1 ≤ c - 1
    · rw [if_pos z1, if_neg (by omega), if_pos (by omega)]
      exact stepT_split c r t.2 h2
    · rw [if_neg z1]
      by_cases z2 : t.1 = c
      · rw [if_pos z2, if_pos (by omega), stepT_none (q := (· = c)) fun x hx => by have := h1 x hx; omega, stepT_none (q := (· ≤ c)) fun x hx => by have := h1 x hx; omega]
      · rw [if_neg z2, if_neg (by omega)]
        exact stepT_split c r e h2
theorem pieceM_step (c : Int) : ∀ (ts : List (Int × Int)) (e : Int), (pieceL ts c).getLastD e = stepT (· ≤ c) ts e
  | [], _ => rfl
  | t :: r, e => by
    show _ = stepT (· ≤ c) r (if t.1 ≤ c then t.2 else e)
    rw [← pieceM_step c r]
    unfold pieceL
    by_cases z : t.1 ≤ c
    · rw [if_pos z, List.filter_cons_of_pos (p := fun t : Int × Int => decide (t.1 ≤ c)) (decide_eq_true z), List.map_cons, List.getLastD_cons]
    · rw [if_neg z, List.filter_cons_of_neg (by rw [decide_eq_true_eq]; exact z)]
theorem GoodT.pair {ts : List (Int × Int)} (h : GoodT ts) : ts.Pairwise (fun a b => a.1 < b.1) := by
  have step : ∀ (n i : Nat) (a b : Int × Int), ts[i]? = some a → ts[i + (n + 1)]? = some b → a.1 < b.1 := by
    intro n
    induction n with
    | zero => exact fun i a b ha hb => h.rise i a b ha hb
    | succ n ih =>
      intro i a b ha hb
      have hl := (List.getElem?_eq_some_iff.mp hb).1
      have g := List.getElem?_eq_getElem (show i + (n + 1) < ts.length by omega)
      have h1 := ih i a _ ha g
      have h2 := h.rise (i + (n + 1)) _ b g hb
      omega
  rw [List.pairwise_iff_getElem]
  intro i j hi hj hij
  have := step (j - i - 1) i ts[i] ts[j] (List.getElem?_eq_getElem hi) (by rw [show i + (j - i - 1 + 1) = j by omega]; exact List.getElem?_eq_getElem hj)
  exact this
theorem GoodT.ge1 {ts : List (Int × Int)} (h : GoodT ts) : ∀ t ∈ ts, 1 ≤ t.1 := fun t ht => by
  obtain ⟨i, hi, rfl⟩ := List.getElem_of_mem ht
  have e0 := h.one _ (List.getElem?_eq_getElem (show 0 < ts.length by omega))
  rcases Nat.eq_zero_or_pos i with z | z
  · subst z
    omega
  · have := List.pairwise_iff_getElem.mp h.pair 0 i (by omega) hi z
    omega
theorem pieceM_zero {ts : List (Int × Int)} (h : GoodT ts) : pieceM ts 0 = 0 := by
  unfold pieceM
  rw [pieceM_step]
  exact stepT_none fun t ht => by have := h.ge1 t ht; omega
theorem pieceM_succ {ts : List (Int × Int)} (h : GoodT ts) (c : Int) : stepT (· = c) ts (pieceM ts (c - 1)) = pieceM ts c := by
  unfold pieceM
  rw [pieceM_step, pieceM_step]
  exact stepT_split c ts 0 h.pair
theorem stepT_take {q : Int → Prop} [DecidablePred q] {ts : List (Int × Int)} {i : Nat} {t : Int × Int} {e : Int} (h : ts[i]? = some t) : stepT q (ts.take (i + 1)) e = if q t.1 then t.2 else stepT q (ts.take i) e := by
  unfold stepT
  rw [take_succ_at h, List.foldl_append]
  rfl
/-! ### shops made of offers -/
theorem ShopAt.of_al {H : Hp} {a : Addr} {vs : List Addr} {os : List Ofr} (h : H a = some (.lst (vs.map V.ref))) (al : Al (OfrAt H) vs os) : ShopAt H a os := by
  refine ⟨vs, h, al.len, fun i v o hv ho => ?_⟩
  obtain ⟨x, hx, r⟩ := al.get hv
  rw [ho] at hx
  cases Option.some.inj hx
  exact r
theorem TiersAt.of_al {H : Hp} {a : Addr} {us : List Addr} {ts : List (Int × Int)} (h : H a = some (.lst (us.map V.ref))) (al : Al (fun u (t : Int × Int) => H u = some (.tup [.int t.1, .int t.2])) us ts) : TiersAt H a ts := by
  refine ⟨us, h, al.len, fun i v o hv ho => ?_⟩
  obtain ⟨x, hx, r⟩ := al.get hv
  rw [ho] at hx
  cases Option.some.inj hx
  exact r
theorem ShopAt.al {H : Hp} {a : Addr} {os : List Ofr} (h : ShopAt H a os) : ∃ vs : List Addr, H a = some (.lst (vs.map V.ref)) ∧ Al (OfrAt H) vs os := by
  obtain ⟨vs, h1, h2, h3⟩ := h
  refine ⟨vs, h1, ?_⟩
  clear h1
  induction vs generalizing os with
  | nil =>
    cases os with
    | nil => exact True.intro
    | cons o r => simp at h2
  | cons v vr ih =>
    cases os with
    | nil => simp at h2
    | cons o r => exact ⟨h3 0 v o rfl rfl, ih (by simpa using h2) fun i v o hv ho => h3 (i + 1) v o hv ho⟩
theorem goodT_one (p : Int) : GoodT [(1, p)] := by
  refine ⟨by show 1 ≤ 1; decide, by show 1 ≤ 4; decide, fun t e => ?_, fun t ht => ?_, fun i a b ha hb => by simp at hb⟩
  · cases Option.some.inj e
    rfl
  · rw [List.mem_singleton.mp ht]
    show (1 : Int) ≤ 12
    decide
/-! ### lines of a good shop -/
theorem choices_mem : ∀ {ps c : List Int}, c ∈ choicesM ps → c.length ≤ ps.length ∧ ∀ x ∈ c, x ∈ ps
  | [], c, h => by
    rw [List.mem_singleton.mp h]
    exact ⟨Nat.le_refl _, fun x hx => by cases hx⟩
  | p :: ps, c, h => by
    rcases List.mem_append.mp h with h | h
    · rcases List.mem_append.mp h with h | h
      · rw [List.mem_singleton.mp h]
        exact ⟨Nat.zero_le _, fun x hx => by cases hx⟩
      · obtain ⟨d, hd, rfl⟩ := List.mem_map.mp h
        obtain ⟨h1, h2⟩ := choices_mem hd
        refine ⟨by rw [List.length_cons, List.length_cons]; omega, fun x hx => ?_⟩
        rcases List.mem_cons.mp hx with rfl | hx
        · exact List.mem_cons_self
        · exact List.mem_cons_of_mem _ (h2 x hx)
    · obtain ⟨h1, h2⟩ := choices_mem (List.mem_of_mem_tail h)
      exact ⟨by rw [List.length_cons]; omega, fun x hx => List.mem_cons_of_mem _ (h2 x hx)⟩
theorem adds_mem {os : List Ofr} {p : Int} {n : Nat} {x : Int} (h : x ∈ addsN os p n) : ∃ j : Nat, x = (j : Int) ∧ j < n ∧ ∃ c pr, os[j]? = some (.add c pr p) := by
  obtain ⟨j, hj, rfl⟩ := List.mem_map.mp h
  obtain ⟨h1, h2⟩ := List.mem_filter.mp hj
  refine ⟨j, rfl, List.mem_range.mp h1, ?_⟩
  unfold isAdd at h2
  split at h2
  · rename_i c pr k e
    have := of_decide_eq_true h2
    subst this
    exact ⟨c, pr, e⟩
  · cases h2
theorem linesAt_ok {os : List Ofr} (gd : Good os) {p : Nat} {l : Ln} (h : l ∈ linesAtM os p) : LineOk os l := by
  unfold linesAtM at h
  split at h
  · rename_i c pr e
    obtain ⟨ch, hch, rfl⟩ := List.mem_map.mp h
    obtain ⟨h1, h2⟩ := choices_mem hch
    have h8 := gd.1
    have hl := addsN_len os (p : Int) os.length
    refine ⟨p, rfl, .inr ⟨c, pr, e, rfl, ?_, fun x hx => ?_⟩⟩
    · have h1' : ch.length ≤ (addsN os (p : Int) os.length).length := h1
      show ch.length ≤ 8
      omega
    · obtain ⟨j, e1, _, c', pr', e2⟩ := adds_mem (h2 x hx)
      exact ⟨j, e1, c', pr', _, e2⟩
  · rename_i c ts e
    obtain ⟨i, hi, rfl⟩ := List.mem_map.mp h
    have hi' := List.mem_range.mp hi
    exact ⟨p, rfl, .inl ⟨c, ts, e, gd.2 p _ e, by show (1 : Int) ≤ 1 + (i : Nat); omega, by show (1 : Int) + (i : Nat) ≤ 12; omega, rfl⟩⟩
  · cases h
theorem lines_ok {os : List Ofr} (gd : Good os) {l : Ln} (h : l ∈ linesM os) : LineOk os l := by
  obtain ⟨p, _, hp⟩ := List.mem_flatMap.mp h
  exact linesAt_ok gd hp
/-- m numbers from nought on -/
def V0 (m : Nat) (c : List Int) : Prop := c.length = m ∧ ∀ x ∈ c, 0 ≤ x
theorem tog_nonneg : ∀ {a b : List Int}, (∀ x ∈ a, 0 ≤ x) → (∀ x ∈ b, 0 ≤ x) → ∀ x ∈ togM a b, 0 ≤ x
  | [], _, _, _, x, h => by simp [togM] at h
  | _ :: _, [], _, _, x, h => by simp [togM] at h
  | a :: r, b :: q, ha, hb, x, h => by
    have h' : x ∈ (a + b) :: togM r q := h
    rcases List.mem_cons.mp h' with rfl | h'
    · have h1 := ha a List.mem_cons_self
      have h2 := hb b List.mem_cons_self
      omega
    · exact tog_nonneg (fun y hy => ha y (List.mem_cons_of_mem _ hy)) (fun y hy => hb y (List.mem_cons_of_mem _ hy)) x h'
theorem V0.tog {m : Nat} {a b : List Int} (ha : V0 m a) (hb : V0 m b) : V0 m (togM a b) := ⟨by rw [togM_len, ha.1, hb.1]; exact Nat.min_self m, tog_nonneg ha.2 hb.2⟩
theorem FitO.v0 {m : Nat} {o : Ofr} (h : FitO m o) : V0 m o.cont := ⟨h.cont.1, fun x hx => (h.cont.2 x hx).1⟩
theorem V0.fold {m : Nat} {α : Type} {f : α → List Int} : ∀ {ls : List α} {acc : List Int}, V0 m acc → (∀ l ∈ ls, V0 m (f l)) → V0 m (ls.foldl (fun acc l => togM acc (f l)) acc)
  | [], _, h, _ => h
  | l :: r, acc, h, hl => V0.fold (ls := r) (h.tog (hl l List.mem_cons_self)) fun x hx => hl x (List.mem_cons_of_mem _ hx)
theorem cont_v0 {m : Nat} {os : List Ofr} {l : Ln} (ft : FitS m os) (lok : LineOk os l) : V0 m (contM os l) := by
  obtain ⟨p, ep, ways⟩ := lok
  unfold contM
  rcases ways with ⟨c, ts, w1, w0, w2, w3, w4⟩ | ⟨c, pr, w1, w2, w3, w4⟩
  · have hf := (ft _ (List.mem_of_getElem? w1)).v0
    refine V0.fold ⟨?_, fun x hx => ?_⟩ (fun x hx => by rw [w4] at hx; cases hx)
    · rw [List.length_map, ep, contAt_get w1]
      exact hf.1
    · rw [ep, contAt_get w1] at hx
      obtain ⟨y, hy, rfl⟩ := List.mem_map.mp hx
      exact Int.mul_nonneg (by omega) (hf.2 y hy)
  · have hf := (ft _ (List.mem_of_getElem? w1)).v0
    refine V0.fold ⟨?_, fun x hx => ?_⟩ (fun x hx => ?_)
    · rw [List.length_map, ep, contAt_get w1]
      exact hf.1
    · rw [ep, contAt_get w1] at hx
      obtain ⟨y, hy, rfl⟩ := List.mem_map.mp hx
      exact Int.mul_nonneg (by omega) (hf.2 y hy)
    · obtain ⟨j, rfl, c', pr', k, hj⟩ := w4 x hx
      rw [contAt_get hj]
      exact (ft _ (List.mem_of_getElem? hj)).v0
/-! ### least prices, as lists -/
/-- what a line holds and costs -/
abbrev Rw := List Int × Int
def sumC (q : List Rw) (i : Nat) : Int := (q.map fun r => hadM r.1 i).sum
def costM (q : List Rw) : Int := (q.map (·.2)).sum
def CovM (q : List Rw) (w : List Int) : Prop := ∀ (i : Nat) (n : Int), w[i]? = some n → n ≤ sumC q i
def SubM (q ps : List Rw) : Prop := ∀ r ∈ q, r ∈ ps
def LeastIs (ps : List Rw) (w : List Int) : Option Int → Prop
  | none => ∀ q, SubM q ps → ¬ CovM q w
  | some p => (∃ q, SubM q ps ∧ CovM q w ∧ costM q = p) ∧ ∀ q, SubM q ps → CovM q w → p ≤ costM q
def NN (ps : List Rw) : Prop := ∀ r ∈ ps, (∀ x ∈ r.1, 0 ≤ x) ∧ 0 ≤ r.2
theorem leastIs_unique {ps : List Rw} {w : List Int} : ∀ {a b : Option Int}, LeastIs ps w a → LeastIs ps w b → a = b
  | none, none, _, _ => rfl
  | none, some p, h, ⟨⟨q, h1, h2, _⟩, _⟩ => absurd h2 (h q h1)
  | some p, none, ⟨⟨q, h1, h2, _⟩, _⟩, h => absurd h2 (h q h1)
  | some p, some p', ⟨⟨q, h1, h2, h3⟩, h4⟩, ⟨⟨q', k1, k2, k3⟩, k4⟩ => by
    have := h4 q' k1 k2
    have := k4 q h1 h2
    congr 1
    omega
theorem had_nonneg {c : List Int} (h : ∀ x ∈ c, 0 ≤ x) (i : Nat) : 0 ≤ hadM c i := by
  by_cases z : i < c.length
  · exact h _ (List.mem_of_getElem? (hadM_in z))
  · rw [hadM_out z]
    exact Int.le_refl _
theorem sumC_cons (r : Rw) (q : List Rw) (i : Nat) : sumC (r :: q) i = hadM r.1 i + sumC q i := by
  unfold sumC
  rw [List.map_cons, List.sum_cons]
theorem sumC_app (a b : List Rw) (i : Nat) : sumC (a ++ b) i = sumC a i + sumC b i := by
  unfold sumC
  rw [List.map_append, List.sum_append]
theorem costM_cons (r : Rw) (q : List Rw) : costM (r :: q) = r.2 + costM q := by
  unfold costM
  rw [List.map_cons, List.sum_cons]
theorem costM_app (a b : List Rw) : costM (a ++ b) = costM a + costM b := by
  unfold costM
  rw [List.map_append, List.sum_append]
theorem sumC_nonneg : ∀ {q : List Rw}, (∀ r ∈ q, ∀ x ∈ r.1, 0 ≤ x) → ∀ i, 0 ≤ sumC q i
  | [], _, i => by simp [sumC]
  | r :: q, h, i => by
    have h1 := had_nonneg (h r List.mem_cons_self) i
    have h2 := sumC_nonneg (q := q) (fun s hs => h s (List.mem_cons_of_mem _ hs)) i
    rw [sumC_cons]
    omega
theorem costM_nonneg : ∀ {q : List Rw}, (∀ r ∈ q, 0 ≤ r.2) → 0 ≤ costM q
  | [], _ => by simp [costM]
  | r :: q, h => by
    have h1 := h r List.mem_cons_self
    have h2 := costM_nonneg (q := q) (fun s hs => h s (List.mem_cons_of_mem _ hs))
    rw [costM_cons]
    omega
theorem leastIs_zero {ps : List Rw} {w : List Int} (nn : NN ps) (h : ∀ x ∈ w, x ≤ 0) : LeastIs ps w (some 0) := by
  refine ⟨⟨[], (fun r hr => nomatch hr), fun i n hn => ?_, rfl⟩, fun q hq _ => costM_nonneg fun r hr => (nn r (hq r hr)).2⟩
  have := h n (List.mem_of_getElem? hn)
  show n ≤ 0
  exact this
/-- a line ahead: what it leaves is to be covered by the others -/
theorem cov_cons {r : Rw} {q : List Rw} {w : List Int} (h : CovM q (restM w r.1)) : CovM (r :: q) w := fun i n hn => by
  have := h i _ (restM_get (cs := r.1) hn)
  rw [sumC_cons]
  split at this <;> omega
theorem cov_rest {r : Rw} {q : List Rw} {w : List Int} (hq : ∀ i, 0 ≤ sumC q i) (h : CovM (r :: q) w) : CovM q (restM w r.1) := fun i n hn => by
  have hi : i < w.length := by
    have := (List.getElem?_eq_some_iff.mp hn).1
    rw [restM_len] at this
    exact this
  have e := List.getElem?_eq_getElem hi
  have h1 := h i _ e
  rw [restM_get e] at hn
  have h2 := hq i
  rw [sumC_cons] at h1
  have := Option.some.inj hn
  split at this <;> omega
theorem cov_mid {r : Rw} {a b : List Rw} {w : List Int} (h : CovM (a ++ r :: b) w) : CovM (r :: (a ++ b)) w := fun i n hn => by
  have := h i n hn
  rw [sumC_app, sumC_cons] at this
  rw [sumC_cons, sumC_app]
  omega
/-- of what covers wants that are not noughts one line takes something away -/
theorem some_helps {q : List Rw} {w : List Int} {i : Nat} {n : Int} (hn : w[i]? = some n) (hp : 0 < n) (h : CovM q w) : ∃ r ∈ q, restM w r.1 ≠ w := by
  refine Classical.byContradiction fun no => ?_
  have all : ∀ r ∈ q, hadM r.1 i = 0 ∨ hadM r.1 i < 0 := fun r hr => by
    have e : restM w r.1 = w := Classical.byContradiction fun z => no ⟨r, hr, z⟩
    have g := restM_get (cs := r.1) hn
    rw [e, hn] at g
    have := Option.some.inj g
    split at this <;> omega
  have le : ∀ q : List Rw, (∀ r ∈ q, hadM r.1 i = 0 ∨ hadM r.1 i < 0) → sumC q i ≤ 0 := fun q => by
    induction q with
    | nil => intro _; simp [sumC]
    | cons r q ih =>
      intro h
      have h1 := h r List.mem_cons_self
      have h2 := ih fun s hs => h s (List.mem_cons_of_mem _ hs)
      rw [sumC_cons]
      omega
  have h1 := le q all
  have h2 := h i n hn
  omega
/-- the best of some lines to be bought first -/
def BestOf (ps : List Rw) (w : List Int) (l : List Rw) : Option Int → Prop
  | none => ∀ r ∈ l, restM w r.1 ≠ w → LeastIs ps (restM w r.1) none
  | some p => (∃ r ∈ l, restM w r.1 ≠ w ∧ LeastIs ps (restM w r.1) (some (p - r.2))) ∧ ∀ r ∈ l, restM w r.1 ≠ w → ∀ g, LeastIs ps (restM w r.1) (some g) → p ≤ r.2 + g
theorem leastIs_step {ps : List Rw} {w : List Int} {o : Option Int} {i : Nat} {n : Int} (nn : NN ps) (hn : w[i]? = some n) (hp : 0 < n) (hex : ∀ r ∈ ps, restM w r.1 ≠ w → ∃ g, LeastIs ps (restM w r.1) g) (hb : BestOf ps w ps o) : LeastIs ps w o := by
  have key : ∀ q, SubM q ps → CovM q w → ∃ r ∈ ps, restM w r.1 ≠ w ∧ ∃ q', SubM q' ps ∧ CovM q' (restM w r.1) ∧ costM q = r.2 + costM q' := fun q hq hc => by
    obtain ⟨r, hr, hne⟩ := some_helps hn hp hc
    obtain ⟨a, b, rfl⟩ := List.append_of_mem hr
    have hs : SubM (a ++ b) ps := fun s hs => hq s (by
      rcases List.mem_append.mp hs with z | z
      · exact List.mem_append.mpr (.inl z)
      · exact List.mem_append.mpr (.inr (List.mem_cons_of_mem _ z)))
    refine ⟨r, hq r hr, hne, a ++ b, hs, cov_rest (fun j => sumC_nonneg (fun s h => (nn s (hs s h)).1) j) (cov_mid hc), ?_⟩
    rw [costM_app, costM_cons, costM_app]
    omega
  cases o with
  | none =>
    intro q hq hc
    obtain ⟨r, hr, hne, q', h1, h2, _⟩ := key q hq hc
    exact hb r hr hne q' h1 h2
  | some p =>
    obtain ⟨⟨r, hr, hne, ⟨q, h1, h2, h3⟩, _⟩, hle⟩ := hb
    refine ⟨⟨r :: q, fun s hs => ?_, cov_cons h2, by rw [costM_cons, h3]; omega⟩, fun q hq hc => ?_⟩
    · rcases List.mem_cons.mp hs with rfl | hs
      · exact hr
      · exact h1 s hs
    · obtain ⟨r, hr, hne, q', h1, h2, h3⟩ := key q hq hc
      obtain ⟨g, hg⟩ := hex r hr hne
      cases g with
      | none => exact absurd h2 (hg q' h1)
      | some g =>
        have := hle r hr hne g hg
        have := hg.2 q' h1 h2
        omega
/-- a line more that is looked at -/
theorem BestOf.snoc {ps : List Rw} {w : List Int} {l : List Rw} {o : Option Int} {r : Rw} (h : BestOf ps w l o) :
    (restM w r.1 = w → BestOf ps w (l ++ [r]) o) ∧ (LeastIs ps (restM w r.1) none → BestOf ps w (l ++ [r]) o) ∧
    (∀ g, restM w r.1 ≠ w → LeastIs ps (restM w r.1) (some g) → (∀ p, o = some p → r.2 + g < p) → BestOf ps w (l ++ [r]) (some (r.2 + g))) ∧
    (∀ g p, LeastIs ps (restM w r.1) (some g) → o = some p → ¬ r.2 + g < p → BestOf ps w (l ++ [r]) o) := by
  refine ⟨fun e => ?_, fun e => ?_, fun g ne hg lt => ?_, fun g p hg eo nlt => ?_⟩
  · cases o with
    | none =>
      intro s hs hne
      rcases List.mem_append.mp hs with z | z
      · exact h s z hne
      · rw [List.mem_singleton.mp z] at hne
        exact absurd e hne
    | some p =>
      obtain ⟨⟨s, hs, h1⟩, h2⟩ := h
      refine ⟨⟨s, List.mem_append.mpr (.inl hs), h1⟩, fun s hs hne => ?_⟩
      rcases List.mem_append.mp hs with z | z
      · exact h2 s z hne
      · rw [List.mem_singleton.mp z] at hne
        exact absurd e hne
  · cases o with
    | none =>
      intro s hs hne
      rcases List.mem_append.mp hs with z | z
      · exact h s z hne
      · rw [List.mem_singleton.mp z]
        exact e
    | some p =>
      obtain ⟨⟨s, hs, h1⟩, h2⟩ := h
      refine ⟨⟨s, List.mem_append.mpr (.inl hs), h1⟩, fun s hs hne g hg => ?_⟩
      rcases List.mem_append.mp hs with z | z
      · exact h2 s z hne g hg
      · rw [List.mem_singleton.mp z] at hg
        exact absurd (leastIs_unique e hg) (fun z => nomatch z)
  · refine ⟨⟨r, List.mem_append.mpr (.inr List.mem_cons_self), ne, by rw [show r.2 + g - r.2 = g by omega]; exact hg⟩, fun s hs hne g' hg' => ?_⟩
    rcases List.mem_append.mp hs with z | z
    · cases o with
      | none => exact absurd (leastIs_unique (h s z hne) hg') (fun z => nomatch z)
      | some p =>
        have := lt p rfl
        have := h.2 s z hne g' hg'
        omega
    · rw [List.mem_singleton.mp z] at hg' ⊢
      have := Option.some.inj (leastIs_unique hg hg')
      omega
  · subst eo
    obtain ⟨⟨s, hs, h1⟩, h2⟩ := h
    refine ⟨⟨s, List.mem_append.mpr (.inl hs), h1⟩, fun s hs hne g' hg' => ?_⟩
    rcases List.mem_append.mp hs with z | z
    · exact h2 s z hne g' hg'
    · rw [List.mem_singleton.mp z] at hg' ⊢
      have := Option.some.inj (leastIs_unique hg hg')
      omega
/-! ### what the least prices of wants have to do with each other -/
theorem least_mono {ps : List Rw} {w w' : List Int} {p : Int} {o : Option Int} (hle : ∀ (i : Nat) (n : Int), w'[i]? = some n → ∃ m, w[i]? = some m ∧ n ≤ m) (h : LeastIs ps w (some p)) (h' : LeastIs ps w' o) : ∃ p', o = some p' ∧ p' ≤ p := by
  obtain ⟨⟨q, h1, h2, h3⟩, _⟩ := h
  have hc : CovM q w' := fun i n hn => by
    obtain ⟨m, hm, le⟩ := hle i n hn
    have := h2 i m hm
    omega
  cases o with
  | none => exact absurd hc (h' q h1)
  | some p' => exact ⟨p', rfl, by rw [← h3]; exact h'.2 q h1 hc⟩
theorem least_sum {ps : List Rw} {w a b : List Int} {pa pb : Int} {o : Option Int} (hs : ∀ (i : Nat) (n : Int), w[i]? = some n → ∃ x y, a[i]? = some x ∧ b[i]? = some y ∧ n ≤ x + y) (ha : LeastIs ps a (some pa)) (hb : LeastIs ps b (some pb)) (h : LeastIs ps w o) : ∃ p, o = some p ∧ p ≤ pa + pb := by
  obtain ⟨⟨q, h1, h2, h3⟩, _⟩ := ha
  obtain ⟨⟨q', k1, k2, k3⟩, _⟩ := hb
  have hq : SubM (q ++ q') ps := fun r hr => by
    rcases List.mem_append.mp hr with z | z
    · exact h1 r z
    · exact k1 r z
  have hc : CovM (q ++ q') w := fun i n hn => by
    obtain ⟨x, y, hx, hy, le⟩ := hs i n hn
    have := h2 i x hx
    have := k2 i y hy
    rw [sumC_app]
    omega
  cases o with
  | none => exact absurd hc (h _ hq)
  | some p =>
    refine ⟨p, rfl, ?_⟩
    have := h.2 _ hq hc
    rw [costM_app] at this
    omega
theorem least_more {ps ps' : List Rw} {w : List Int} {p : Int} {o : Option Int} (hs : SubM ps ps') (h : LeastIs ps w (some p)) (h' : LeastIs ps' w o) : ∃ p', o = some p' ∧ p' ≤ p := by
  obtain ⟨⟨q, h1, h2, h3⟩, _⟩ := h
  have hq : SubM q ps' := fun r hr => hs r (h1 r hr)
  cases o with
  | none => exact absurd h2 (h' q hq)
  | some p' => exact ⟨p', rfl, by rw [← h3]; exact h'.2 q hq h2⟩
def dearM (t : Int) (r : Rw) : Rw := (r.1, t * r.2)
theorem sumC_dear (t : Int) : ∀ (q : List Rw) (i : Nat), sumC (q.map (dearM t)) i = sumC q i
  | [], _ => rfl
  | r :: q, i => by
    rw [List.map_cons, sumC_cons, sumC_cons, sumC_dear t q i]
    rfl
theorem costM_dear (t : Int) : ∀ (q : List Rw), costM (q.map (dearM t)) = t * costM q
  | [] => by simp [costM]
  | r :: q => by
    rw [List.map_cons, costM_cons, costM_cons, costM_dear t q, Int.mul_add]
    rfl
theorem dear_sub {t : Int} {ps : List Rw} : ∀ {q : List Rw}, SubM q (ps.map (dearM t)) → ∃ q', SubM q' ps ∧ q = q'.map (dearM t)
  | [], _ => ⟨[], (fun r hr => nomatch hr), rfl⟩
  | r :: q, h => by
    obtain ⟨q', h1, h2⟩ := dear_sub (q := q) fun s hs => h s (List.mem_cons_of_mem _ hs)
    obtain ⟨s, hs, e⟩ := List.mem_map.mp (h r List.mem_cons_self)
    refine ⟨s :: q', fun x hx => ?_, by rw [List.map_cons, e, h2]⟩
    rcases List.mem_cons.mp hx with rfl | hx
    · exact hs
    · exact h1 x hx
theorem least_dear {ps : List Rw} {w : List Int} {t : Int} (ht : 0 < t) : ∀ {o : Option Int}, LeastIs ps w o → LeastIs (ps.map (dearM t)) w (o.map (t * ·))
  | none, h => fun q hq hc => by
    obtain ⟨q', h1, rfl⟩ := dear_sub hq
    exact h q' h1 fun i n hn => by have := hc i n hn; rw [sumC_dear] at this; exact this
  | some p, ⟨⟨q, h1, h2, h3⟩, h4⟩ => by
    refine ⟨⟨q.map (dearM t), fun r hr => ?_, fun i n hn => by rw [sumC_dear]; exact h2 i n hn, by rw [costM_dear, h3]⟩, fun q hq hc => ?_⟩
    · obtain ⟨s, hs, rfl⟩ := List.mem_map.mp hr
      exact List.mem_map.mpr ⟨s, h1 s hs, rfl⟩
    · obtain ⟨q', k1, rfl⟩ := dear_sub hq
      rw [costM_dear]
      exact Int.mul_le_mul_of_nonneg_left (h4 q' k1 fun i n hn => by have := hc i n hn; rw [sumC_dear] at this; exact this) (by omega)
/-! ### priced_lines -/
abbrev s_priced_lines : Stmt := topS 18
abbrev N_priced_lines : List Str := ["shop", "line"]
theorem sc_priced_lines : FnScope N_priced_lines ["shop"] (defScope s_priced_lines) := ⟨rfl, rfl, rfl, by decide +kernel, rfl, by decide +kernel, by decide +kernel⟩

/-- a line, what it holds and what it costs -/
abbrev PR := Ln × Rw
def prowM (os : List Ofr) (l : Ln) : PR := (l, (contM os l, priceM os l))
def prowsM (os : List Ofr) : List PR := (linesM os).map (prowM os)
def PRowF (H0 H : Hp) (a : Addr) (x : PR) : Prop := ∃ la ca, H a = some (.tup [.ref la, .ref ca, .int x.2.2]) ∧ LineF H0 H la x.1 ∧ H ca = some (LI x.2.1) ∧ H0 a = none ∧ H0 ca = none
theorem LineF.ke {H0 H H' : Hp} (e : Ke H H') {a : Addr} {l : Ln} (h : LineF H0 H a l) : LineF H0 H' a l := by
  obtain ⟨b, h1, h2, h3⟩ := h
  exact ⟨b, e.tup h1, e.lst h2, h3⟩
theorem PRowF.ke {H0 H H' : Hp} (e : Ke H H') {a : Addr} {x : PR} (h : PRowF H0 H a x) : PRowF H0 H' a x := by
  obtain ⟨la, ca, h1, h2, h3, h4⟩ := h
  exact ⟨la, ca, e.tup h1, h2.ke e, e.lst h3, h4⟩
def PricedF (H0 H : Hp) (q : Addr) (xs : List PR) : Prop := ∃ as : List Addr, H q = some (.lst (as.map V.ref)) ∧ Al (PRowF H0 H) as xs
theorem PricedF.toF {H0 H : Hp} {q : Addr} {xs : List PR} (h : PricedF H0 H q xs) : PricedF H0 H q xs := h
def sp_priced_lines (T : List Addr) : Sp := fun vs H Q _ => ∃ (a : Addr) (os : List Ofr), vs = [.ref a] ∧ ShopAt H a os ∧ Good os ∧ Fit os ∧ Tb T H ∧ ∀ H' q, Ext T H H' → H q = none → PricedF H H' q (prowsM os) → Q (.ref q) H'
section
variable {P : Program} {w : World} {K : PySem.W.Frag} {mg : Str → Option Value} {base : Heap} {T : List Addr}
theorem ok_priced_lines {f f1 f2 f3 f4 f5 f6 f7 f8 f9 f10 f11 f12 c t c' t' : Addr} {fd fd1 fd2 fd3 fd4 fd5 fd6 fd7 fd8 fd9 fd10 fd11 fd12 : FuncData} {k : Nat} (M : Names mg) (D : Def K mg "priced_lines" s_priced_lines ["shop"] f fd) (D_lines : Def K mg "lines" s_lines ["shop"] f9 fd9) (D_look : Def K mg "look" s_look ["shop"] f1 fd1) (D_can_stand : Def K mg "can_stand" s_can_stand ["shop", "at"] f2 fd2) (D_names_pack : Def K mg "names_pack" s_names_pack ["shop", "at"] f3 fd3) (D_good_tiers : Def K mg "good_tiers" s_good_tiers ["tiers"] f4 fd4)
    (hc : fd4.code = .ref c) (TB : GxR.TabB base mg c t) (ht : t ∈ T) (D_lines_at : Def K mg "lines_at" s_lines_at ["shop", "place"] f10 fd10) (D_adds_to : Def K mg "adds_to" s_adds_to ["shop", "place"] f11 fd11) (D_choices : Def K mg "choices" s_choices ["places"] f12 fd12) (D_content_of : Def K mg "content_of" s_content_of ["shop", "line"] f5 fd5) (D_together : Def K mg "together" s_together ["content", "other"] f6 fd6) (D_price_of : Def K mg "price_of" s_price_of ["shop", "line"] f7 fd7) (hc' : fd7.code = .ref c') (TB' : GxR.TabB base mg c' t') (ht' : t' ∈ T) (D_piece_price : Def K mg "piece_price" s_piece_price ["tiers", "count"] f8 fd8) : FnOk P w K mg base CX0 (k + 5) f fd ["shop"] (sp_priced_lines T) := by
  have G_lines : FnOk P w K mg base CX0 (k + 4) f9 fd9 ["shop"] (sp_lines T) := ok_lines M D_lines D_look D_can_stand D_names_pack D_good_tiers hc TB ht D_lines_at D_adds_to D_choices
  have G_content_of : FnOk P w K mg base CX0 (k + 4) f5 fd5 ["shop", "line"] sp_content_of := ok_content_of M D_content_of D_together
  have G_price_of : FnOk P w K mg base CX0 (k + 4) f7 fd7 ["shop", "line"] (sp_price_of T) := ok_price_of M D_price_of hc' TB' ht' D_piece_price
  refine D.F.ok sc_priced_lines (fun vs H Q E h => ?_) (fun cdv A outer s H vs Q E hr h => ?_)
  · obtain ⟨a, os, rfl, _⟩ := h
    rfl
  · obtain ⟨a, os, rfl, hS, gd, fit, hT, q⟩ := h
    refine ⟨_, (pss_one (ps_ret (pe_lc (own := [("line", 1)]) (by rfl) sc_priced_lines.nd (pi_list (pe_call G_lines hr (by rfl) D_lines.g D_lines.F.kp D_lines.b .nil pass0 (pa_cons (pv 0) pa_nil))) (blkOk_by (own := [("line", 1)]) (N := N_priced_lines) (sc := defScope s_priced_lines) (by decide +kernel)) (fun _ _ _ _ _ => (pg_name (i := 1) sc_priced_lines.nd rfl (Or.inl rfl))) (fun _ _ _ _ _ => pts_nil) (fun _ _ _ _ _ => (pe_tup (pa_cons (pv 1) (pa_cons (pe_call G_content_of hr (by rfl) D_content_of.g D_content_of.F.kp D_content_of.b .nil pass0 (pa_cons (pv 0) (pa_cons (pv 1) pa_nil))) (pa_cons (pe_call G_price_of hr (by rfl) D_price_of.g D_price_of.F.kp D_price_of.b .nil pass0 (pa_cons (pv 0) (pa_cons (pv 1) pa_nil))) pa_nil)))))))), ?_⟩
    refine ⟨_, rfl, a, os, rfl, hS, gd, hT, fun H1 L e1 nL hL => ?_⟩
    obtain ⟨as, hLl, alF⟩ := hL
    have lal := alF.len
    have tot : (linesM os).length ≤ 2048 := by
      have := linesN_len gd.1 os.length
      have h8 := gd.1
      unfold linesM
      omega
    have hl2 : (prowsM os).length = as.length := by
      unfold prowsM
      rw [List.length_map, lal]
    refine ⟨L, rfl, ⟨_, SqL.of hLl⟩, fun B nB => lc_list (xs := as.map V.ref) (fun j H' => Ext T H1 H' ∧ ∃ rs : List Addr, H' B = some (.lst (rs.map V.ref)) ∧ Al (PRowF H (cutH B H')) rs ((prowsM os).take j)) ⟨.same (same_upd nB) e1.t1, [], upd_same, True.intro⟩ (fun j H' _ hp => SqL.of (hp.1.lst hLl)) (fun j x H3 hx hp => ?_) (fun H3 hp => ?_)⟩
    · obtain ⟨e3, rs, hB, all⟩ := hp
      rw [List.getElem?_map] at hx
      cases hu : as[j]? with
      | none => rw [hu] at hx; cases hx
      | some u =>
        rw [hu] at hx
        cases Option.some.inj hx
        obtain ⟨l, hl, hlf⟩ := alF.get hu
        have lk := lines_ok gd (List.mem_of_getElem? hl)
        have e13 := e1.trans e3
        refine ⟨rfl, _, rfl, _, rfl, _, rfl, a, u, os, l, rfl, hS.ext e13, hlf.at.ext e3, lk, fit, fun H4 c4 s4 nc4 hc4 => ?_⟩
        have e4 := e3.trans (.same s4 e3.t1)
        refine ⟨_, rfl, _, rfl, a, u, os, l, rfl, hS.ext (e1.trans e4), hlf.at.ext e4, lk, fit, e4.t1, fun H5 e5 => ⟨by show 3 ≤ sizeLine; decide, fun tt ntt => ?_⟩⟩
        have e35 : Ext T H3 H5 := (Ext.same s4 e3.t1).trans e5
        have hB5 := e35.lst hB
        have ntB : tt ≠ B := fun z => by rw [z, hB5] at ntt; cases ntt
        have ncB : c4 ≠ B := fun z => by rw [z, hB] at nc4; cases nc4
        have hc5 := e5.lst hc4
        have st := same_upd (o := .tup [.ref u, .ref c4, .int (priceM os l)]) ntt
        have lrs := all.len
        rw [List.length_take, hl2] at lrs
        have nuB : ∀ b, H1 b ≠ none → b ≠ B := fun b hb z => hb (by rw [z]; exact nB)
        have e1t : Ext T H1 (upd H5 tt (.tup [.ref u, .ref c4, .int (priceM os l)])) := (e4.trans e5).trans (.same st (e4.trans e5).t1)
        refine ⟨_, st _ _ hB5, szL' (by rw [List.length_map]; omega), e1t.new nB, rs ++ [tt], ?_, ?_⟩
        · rw [upd_same, List.map_append]
          rfl
        · have hpr : (prowsM os)[j]? = some (prowM os l) := by
            unfold prowsM
            rw [List.getElem?_map, hl]
            rfl
          rw [take_succ_at hpr, cut_off]
          refine Al.app (all.imp fun r x h => h.ke ((e35.ke.trans (.of st)).cut)) (.one ⟨u, c4, cut_put ntB upd_same, ?_, cut_put ncB (st _ _ hc5), ?_, e13.free _ nc4⟩)
          · obtain ⟨b, k1, k2, k3, k4⟩ := hlf
            have k1' := e1t.tup k1
            have k2' := e1t.lst k2
            exact ⟨b, cut_put (nuB _ (by rw [k1]; exact fun z => nomatch z)) k1', cut_put (nuB _ (by rw [k2]; exact fun z => nomatch z)) k2', k3, k4⟩
          · exact e1.free _ ((e4.trans e5).free _ ntt)
    · obtain ⟨e3, rs, hB, all⟩ := hp
      rw [List.length_map, List.take_of_length_le (by omega)] at all
      exact q H3 B (e1.trans e3) (e1.free _ nB) ⟨rs, hB, all.imp fun r x h => h.ke (.of cut_le)⟩
end
/-! ### best_step, all_steps -/
abbrev s_best_step : Stmt := topS 24
abbrev N_best_step : List Str := ["less", "priced", "steps", "best", "row", "behind", "line", "content", "price"]
theorem sc_best_step : FnScope N_best_step ["less", "priced", "steps"] (defScope s_best_step) := ⟨rfl, rfl, rfl, by decide +kernel, rfl, by decide +kernel, by decide +kernel⟩

abbrev s_all_steps : Stmt := topS 25
abbrev N_all_steps : List Str := ["priced", "want", "steps", "less"]
theorem sc_all_steps : FnScope N_all_steps ["priced", "want"] (defScope s_all_steps) := ⟨rfl, rfl, rfl, by decide +kernel, rfl, by decide +kernel, by decide +kernel⟩

def keyW (w : List Int) : List Key := w.map Sum.inl
theorem keyW_kV (w : List Int) : (keyW w).map kV = w.map V.int := by
  unfold keyW
  rw [List.map_map]
  rfl
theorem keyW_inj : ∀ {a b : List Int}, keyW a = keyW b → a = b
  | [], [], _ => rfl
  | [], _ :: _, e => by cases e
  | _ :: _, [], e => by cases e
  | x :: a, y :: b, e => by
    have e' : (Sum.inl x : Key) :: keyW a = Sum.inl y :: keyW b := e
    injection e' with e1 e2
    rw [keyW_inj e2, Sum.inl.inj e1]
theorem valV_zip {κ : Type} [DecidableEq κ] : ∀ {ks : List κ} {vs : List V} {i : Nat} {k : κ} {v : V}, ks.Nodup → ks[i]? = some k → vs[i]? = some v → valV (ks.zip vs) k = some v
  | [], _, _, _, _, _, h, _ => by simp at h
  | _ :: _, [], _, _, _, _, _, h => by simp at h
  | a :: r, b :: q, 0, k, v, nd, h, h2 => by
    cases Option.some.inj h
    cases Option.some.inj h2
    exact valV_pos (p := (a, b)) rfl
  | a :: r, b :: q, i + 1, k, v, nd, h, h2 => by
    have n1 := (List.nodup_cons.mp nd).1
    have ne : ¬ a = k := fun z => n1 (z ▸ List.mem_of_getElem? (show r[i]? = some k from h))
    rw [List.zip_cons_cons, valV_neg (p := (a, b)) ne]
    exact valV_zip (List.nodup_cons.mp nd).2 (show r[i]? = some k from h) (show q[i]? = some v from h2)
theorem valV_zip_none {κ : Type} [DecidableEq κ] : ∀ {ks : List κ} {vs : List V} {k : κ}, k ∉ ks → valV (ks.zip vs) k = none
  | [], _, _, _ => rfl
  | _ :: _, [], _, _ => rfl
  | a :: r, b :: q, k, h => by
    have ne : ¬ a = k := fun z => h (by rw [← z]; exact List.mem_cons_self)
    rw [List.zip_cons_cons, valV_neg (p := (a, b)) ne]
    exact valV_zip_none fun z => h (List.mem_cons_of_mem _ z)
def PRowAt (H : Hp) (a : Addr) (x : PR) : Prop := ∃ la ca, H a = some (.tup [.ref la, .ref ca, .int x.2.2]) ∧ LineAt H la x.1 ∧ H ca = some (LI x.2.1)
theorem PRowF.at {H0 H : Hp} {a : Addr} {x : PR} (h : PRowF H0 H a x) : PRowAt H a x := by
  obtain ⟨la, ca, h1, h2, h3, _⟩ := h
  exact ⟨la, ca, h1, h2.at, h3⟩
theorem PRowAt.ke {H H' : Hp} (e : Ke H H') {a : Addr} {x : PR} (h : PRowAt H a x) : PRowAt H' a x := by
  obtain ⟨la, ca, h1, h2, h3⟩ := h
  exact ⟨la, ca, e.tup h1, h2.ke e, e.lst h3⟩
abbrev rwsM (xs : List PR) : List Rw := xs.map (·.2)
/-- no row ahead of i is as good -/
def FirstR (xs : List PR) (w : List Int) (p : Int) (i : Nat) : Prop := ∀ (j : Nat) (y : PR), j < i → xs[j]? = some y → restM w y.2.1 ≠ w → ¬ LeastIs (rwsM xs) (restM w y.2.1) (some (p - y.2.2))
theorem first_of {ps : List Rw} {w : List Int} {l : List Rw} {o : Option Int} {s : Int} (h : BestOf ps w l o) (lt : ∀ p, o = some p → s < p) : ∀ y ∈ l, restM w y.1 ≠ w → ¬ LeastIs ps (restM w y.1) (some (s - y.2)) := fun y hy ne li => by
  cases o with
  | none => exact absurd (leastIs_unique (h y hy ne) li) (fun z => nomatch z)
  | some p =>
    have h1 := lt p rfl
    have h2 := h.2 y hy ne _ li
    omega
/-- the purchase that the table's steps lead to -/
inductive PathM (xs : List PR) : List Int → List PR → Prop
  | done {w : List Int} (h : anyI w = false) : PathM xs w []
  | step {w : List Int} {i : Nat} {x : PR} {p : Int} {ys : List PR} (h : anyI w = true) (li : LeastIs (rwsM xs) w (some p)) (hx : xs[i]? = some x) (ne : restM w x.2.1 ≠ w) (lr : LeastIs (rwsM xs) (restM w x.2.1) (some (p - x.2.2))) (fr : FirstR xs w p i) (t : PathM xs (restM w x.2.1) ys) : PathM xs w (x :: ys)
theorem PathM.unique {xs : List PR} {w : List Int} {ys zs : List PR} (h : PathM xs w ys) (k : PathM xs w zs) : ys = zs := by
  induction h generalizing zs with
  | done h =>
    cases k with
    | done _ => rfl
    | step h' => rw [h] at h'; cases h'
  | step h li hx ne lr fr t ih =>
    cases k with
    | done h' => rw [h] at h'; cases h'
    | @step _ j x' p' ys' h' li' hx' ne' lr' fr' t' =>
      have ep := Option.some.inj (leastIs_unique li li')
      subst ep
      rename_i i x p ys
      have eij : i = j := by
        rcases Nat.lt_trichotomy i j with z | z | z
        · exact absurd lr (fr' i x z hx ne)
        · exact z
        · exact absurd lr' (fr j x' z hx' ne')
      subst eij
      rw [hx] at hx'
      cases Option.some.inj hx'
      rw [ih t']
/-- what the table says of wants -/
def StepV (H : Hp) (as : List Addr) (xs : List PR) (w : List Int) (v : V) : Prop :=
  (v = .non ∧ LeastIs (rwsM xs) w none) ∨ ∃ (b : Addr) (p : Int), v = .ref b ∧ LeastIs (rwsM xs) w (some p) ∧
    ((anyI w = false ∧ H b = some (.tup [.int p, .non])) ∨ (anyI w = true ∧ ∃ (i : Nat) (r : Addr) (x : PR), as[i]? = some r ∧ xs[i]? = some x ∧ H b = some (.tup [.int p, .ref r]) ∧ restM w x.2.1 ≠ w ∧ LeastIs (rwsM xs) (restM w x.2.1) (some (p - x.2.2)) ∧ FirstR xs w p i))
theorem StepV.ke {H H' : Hp} (e : Ke H H') {as : List Addr} {xs : List PR} {w : List Int} {v : V} (h : StepV H as xs w v) : StepV H' as xs w v := by
  rcases h with h | ⟨b, p, h1, h2, h3⟩
  · exact .inl h
  · refine .inr ⟨b, p, h1, h2, ?_⟩
    rcases h3 with ⟨k1, k2⟩ | ⟨k1, i, r, x, k2, k3, k4, k5⟩
    · exact .inl ⟨k1, e.tup k2⟩
    · exact .inr ⟨k1, i, r, x, k2, k3, e.tup k4, k5⟩
theorem StepV.least {H : Hp} {as : List Addr} {xs : List PR} {w : List Int} {v : V} (h : StepV H as xs w v) : ∃ o, LeastIs (rwsM xs) w o ∧ (o = none ↔ v = .non) := by
  rcases h with ⟨h1, h2⟩ | ⟨b, p, h1, h2, _⟩
  · exact ⟨none, h2, fun _ => h1, fun _ => rfl⟩
  · exact ⟨some p, h2, (fun z => nomatch z), fun z => by rw [h1] at z; cases z⟩
def StepsAt (H : Hp) (d : Addr) (as : List Addr) (xs : List PR) (W : List (List Int)) : Prop := ∃ vs : List V, H d = some (.dT ((W.map keyW).zip vs)) ∧ vs.length = W.length ∧ ∀ (i : Nat) w v, W[i]? = some w → vs[i]? = some v → StepV H as xs w v
theorem nodup_keyW {W : List (List Int)} (h : W.Nodup) : (W.map keyW).Nodup := by
  rw [List.nodup_iff_pairwise_ne] at h ⊢
  rw [List.pairwise_map]
  exact h.imp fun ne z => ne (keyW_inj z)
theorem mem_keyW {W : List (List Int)} {w : List Int} (h : w ∉ W) : keyW w ∉ W.map keyW := fun z => by
  obtain ⟨u, hu, e⟩ := List.mem_map.mp z
  rw [keyW_inj e] at hu
  exact h hu
theorem StepsAt.ke {H H' : Hp} (e : Ke H H') {d : Addr} {as : List Addr} {xs : List PR} {W : List (List Int)} (h : StepsAt H d as xs W) : StepsAt H' d as xs W := by
  obtain ⟨vs, h1, h2, h3⟩ := h
  exact ⟨vs, e _ _ h1 (fun _ z => nomatch z), h2, fun i w v a b => (h3 i w v a b).ke e⟩
/-- what the dict gives -/
theorem StepsAt.val {H : Hp} {d : Addr} {as : List Addr} {xs : List PR} {W : List (List Int)} (nd : W.Nodup) (h : StepsAt H d as xs W) : ∃ kvs, H d = some (.dT kvs) ∧ (∀ w, w ∉ W → valV kvs (keyW w) = none) ∧ ∀ w, w ∈ W → ∃ v, valV kvs (keyW w) = some v ∧ StepV H as xs w v := by
  obtain ⟨vs, h1, h2, h3⟩ := h
  refine ⟨_, h1, fun w hw => valV_zip_none (mem_keyW hw), fun w hw => ?_⟩
  obtain ⟨i, hi, e⟩ := List.getElem_of_mem hw
  have g1 : W[i]? = some w := by rw [List.getElem?_eq_getElem hi, e]
  have g2 : vs[i]? = some (vs[i]'(by omega)) := List.getElem?_eq_getElem (by omega)
  exact ⟨_, valV_zip (nodup_keyW nd) (by rw [List.getElem?_map, g1]; rfl) g2, h3 i w _ g1 g2⟩
theorem StepsAt.put {H H' : Hp} {d : Addr} {as : List Addr} {xs : List PR} {W : List (List Int)} {w : List Int} {v : V} {kvs : List (List Key × V)} (h : StepsAt H d as xs W) (hn : w ∉ W) (hd : H d = some (.dT kvs)) (e : Ke H H') (hv : StepV H' as xs w v) : StepsAt (upd H' d (.dT (putK kvs (keyW w) v))) d as xs (W ++ [w]) := by
  obtain ⟨vs, h1, h2, h3⟩ := h
  rw [hd] at h1
  injection Option.some.inj h1 with h1
  subst h1
  have e2 : ∀ b o, H' b = some (.tup o) → upd H' d (.dT (putK ((W.map keyW).zip vs) (keyW w) v)) b = some (.tup o) := fun b o z => by
    rw [upd_ne (ne_of z (e _ _ hd (fun _ z => nomatch z)) (fun z => nomatch z))]
    exact z
  have mv2 : ∀ {w' v'}, StepV H' as xs w' v' → StepV (upd H' d (.dT (putK ((W.map keyW).zip vs) (keyW w) v))) as xs w' v' := fun {w' v'} h => by
    rcases h with h | ⟨b, p, h1, h2, h3⟩
    · exact .inl h
    · refine .inr ⟨b, p, h1, h2, ?_⟩
      rcases h3 with ⟨k1, k2⟩ | ⟨k1, i, r, x, k2, k3, k4, k5⟩
      · exact .inl ⟨k1, e2 _ _ k2⟩
      · exact .inr ⟨k1, i, r, x, k2, k3, e2 _ _ k4, k5⟩
  refine ⟨vs ++ [v], ?_, by rw [List.length_append, List.length_append, h2]; rfl, fun i u y hu hy => ?_⟩
  · rw [upd_same, putK_new v (valV_zip_none (mem_keyW hn)), List.map_append, List.zip_append (by rw [List.length_map, h2])]
    rfl
  · by_cases z : i < W.length
    · rw [List.getElem?_append_left z] at hu
      rw [List.getElem?_append_left (by omega)] at hy
      exact mv2 ((h3 i u y hu hy).ke e)
    · rw [List.getElem?_append_right (by omega)] at hu
      rw [List.getElem?_append_right (by omega)] at hy
      rw [h2] at hy
      have ei : i - W.length = 0 := by
        rcases Nat.eq_zero_or_pos (i - W.length) with z | z
        · exact z
        · rw [List.getElem?_eq_none (by rw [List.length_singleton]; omega)] at hu
          cases hu
      rw [ei] at hu hy
      cases Option.some.inj hu
      cases Option.some.inj hy
      exact mv2 hv
def sp_best_step : Sp := fun vs H Q _ => ∃ (la pa d : Addr) (w : List Int) (as : List Addr) (xs : List PR) (W : List (List Int)), vs = [.ref la, .ref pa, .ref d] ∧ H la = some (LI w) ∧ H pa = some (.lst (as.map V.ref)) ∧ Al (PRowAt H) as xs ∧ StepsAt H d as xs W ∧ W.Nodup ∧ NN (rwsM xs) ∧ w.length ≤ 1000 ∧ w ∉ W ∧ (∀ x ∈ rwsM xs, restM w x.1 ≠ w → restM w x.1 ∈ W) ∧ (∃ (i : Nat) (n : Int), w[i]? = some n ∧ 0 < n) ∧ anyI w = true ∧
  ∀ H' v, Same H H' → StepV H' as xs w v → Q v H'
section
variable {P : Program} {w : World} {K : PySem.W.Frag} {mg : Str → Option Value} {base : Heap} {T : List Addr}
/-- what is best so far -/
def BestV (H : Hp) (as : List Addr) (xs : List PR) (w : List Int) (n : Nat) (v : V) : Prop := ∃ o, BestOf (rwsM xs) w ((rwsM xs).take n) o ∧ ((o = none ∧ v = .non) ∨ ∃ (p : Int) (b : Addr), o = some p ∧ v = .ref b ∧ ∃ (i : Nat) (r : Addr) (x : PR), as[i]? = some r ∧ xs[i]? = some x ∧ H b = some (.tup [.int p, .ref r]) ∧ restM w x.2.1 ≠ w ∧ LeastIs (rwsM xs) (restM w x.2.1) (some (p - x.2.2)) ∧ FirstR xs w p i)
theorem BestV.same {H H' : Hp} (s : Same H H') {as : List Addr} {xs : List PR} {w : List Int} {n : Nat} {v : V} (h : BestV H as xs w n v) : BestV H' as xs w n v := by
  obtain ⟨o, h1, h2⟩ := h
  refine ⟨o, h1, ?_⟩
  rcases h2 with h2 | ⟨p, b, k1, k2, i, r, x, k3, k4, k5, k6⟩
  · exact .inl h2
  · exact .inr ⟨p, b, k1, k2, i, r, x, k3, k4, s _ _ k5, k6⟩
theorem ok_best_step {f f1 f2 : Addr} {fd fd1 fd2 : FuncData} {k : Nat} (M : Names mg) (D : Def K mg "best_step" s_best_step ["less", "priced", "steps"] f fd) (D_rest : Def K mg "rest" s_rest ["want", "content"] f1 fd1) (D_had : Def K mg "had" s_had ["content", "thing"] f2 fd2) : FnOk P w K mg base CX0 (k + 3) f fd ["less", "priced", "steps"] sp_best_step := by
  have G_rest : FnOk P w K mg base CX0 (k + 2) f1 fd1 ["want", "content"] (sp_rest K) := ok_rest M D_rest D_had
  refine D.F.ok sc_best_step (fun vs H Q E h => ?_) (fun cdv A outer s H vs Q E hr h => ?_)
  · obtain ⟨la, pa, d, w, as, xs, W, rfl, _⟩ := h
    rfl
  · obtain ⟨la, pa, d, w, as, xs, W, rfl, hla, hpa, al, hst, nd, nn, hwl, hwn, hin, ⟨ip, np, hip, hpos⟩, hany, q⟩ := h
    have lal := al.len
    refine ⟨_, (pss_cons (ps_set (i := 3) sc_best_step.nd rfl (Or.inl rfl) pe_non)
  (pss_cons (ps_for PassesOwn.never rfl (pi_list (pv 1)) (pg_name (i := 4) sc_best_step.nd rfl (Or.inl rfl))
   (pss_cons (ps_asg (pv 4) (pg_tup rfl (pgs_cons (pg_name (i := 6) sc_best_step.nd rfl (Or.inl rfl)) (pgs_cons (pg_name (i := 7) sc_best_step.nd rfl (Or.inl rfl)) (pgs_cons (pg_name (i := 8) sc_best_step.nd rfl (Or.inl rfl)) pgs_nil)))))
  (pss_cons (ps_set (i := 5) sc_best_step.nd rfl (Or.inl rfl) (pe_dget1 (hu_of hr) (pv 2) (pe_tupleOf (by rfl) M.tuple (pe_call G_rest hr (by rfl) D_rest.g D_rest.F.kp D_rest.b .nil pass0 (pa_cons (pv 0) (pa_cons (pv 7) pa_nil)))) ⟨rfl, rfl, rfl, rfl⟩))
  (pss_one (ps_if (PW.pt (pw_and (pt_cmpR op_notN (pv 5) pe_non (nomark _)) (pw_and1 (PW.pt (pw_or (pt_cmpR op_isN (pv 3) pe_non (nomark _)) (pw_or1 (pt_cmpR op_lt (pe_op op_add (pv 8) (pe_ix ix_tup (pv 5) pe_int (fun _ _ => rfl))) (pe_ix ix_tup (pv 3) pe_int (fun _ _ => rfl)) (nomark _))))))))
   (pss_one (ps_set (i := 3) sc_best_step.nd rfl (Or.inl rfl) (pe_tup (pa_cons (pe_op op_add (pv 8) (pe_ix ix_tup (pv 5) pe_int (fun _ _ => rfl))) (pa_cons (pv 4) pa_nil)))))
   pss_nil)))))
  (pss_one (ps_ret (pv 3))))), ?_⟩
    refine ⟨_, rfl, pa, rfl, ⟨_, SqL.of hpa⟩, for_list (K := K) (a := pa) (xs := as.map V.ref) (fun i σ H' => ∃ v y4 y5 y6 y7 y8, σ = [some (.ref la), some (.ref pa), some (.ref d), some v, y4, y5, y6, y7, y8] ∧ Same H H' ∧ BestV H' as xs w i v) ⟨.non, none, none, none, none, none, rfl, fun _ _ e => e, none, fun r hr => by simp at hr, .inl ⟨rfl, rfl⟩⟩ (fun i σ H' _ hp => ?_) (fun i x σ H1 hx hp => ?_) (fun σ H1 hp => ?_)⟩
    · obtain ⟨_, _, _, _, _, _, _, s1, _⟩ := hp
      exact SqL.of (s1 _ _ hpa)
    · obtain ⟨v, y4, y5, y6, y7, y8, rfl, s1, bv⟩ := hp
      rw [List.getElem?_map] at hx
      cases hu : as[i]? with
      | none => rw [hu] at hx; cases hx
      | some u =>
        rw [hu] at hx
        cases Option.some.inj hx
        obtain ⟨x, hxx, lx, cx, hu1, hl1, hc1⟩ := al.get hu
        have hrw : (rwsM xs)[i]? = some x.2 := by rw [List.getElem?_map, hxx]; rfl
        have hmem : x.2 ∈ rwsM xs := List.mem_of_getElem? hrw
        refine ⟨_, rfl, u, _, rfl, SqT.of (s1 _ _ hu1), rfl, _, _, rfl, _, _, rfl, _, _, rfl, rfl, ?_⟩
        obtain ⟨kvs, hkv, hno, hyes⟩ := hst.val nd
        refine ⟨_, rfl, d, rfl, .inr ⟨kvs, .inl (s1 _ _ hkv)⟩, _, rfl, _, rfl, la, cx, w, x.2.1, rfl, SqL.of (s1 _ _ hla), SqL.of (s1 _ _ hc1), hwl, fun H2 r2 s2 nr2 hr2 => ?_⟩
        refine .inl ⟨r2, _, rfl, SqL.of hr2, fun t3 nt3 => ?_⟩
        have s3 := s2.trans (same_upd (o := .tup ((restM w x.2.1).map V.int)) nt3)
        have hkv3 := s3 _ _ (s1 _ _ hkv)
        have ht3 : upd H2 t3 (.tup ((restM w x.2.1).map V.int)) t3 = some (.tup ((keyW (restM w x.2.1)).map kV)) := by rw [upd_same, keyW_kV]
        generalize upd H2 t3 (.tup ((restM w x.2.1).map V.int)) = H3 at s3 hkv3 ht3 ⊢
        refine ⟨_, DGet.t hkv3 ht3, ?_⟩
        have s13 := s1.trans s3
        have bv3 := bv.same s3
        obtain ⟨o, ho, hv⟩ := bv3
        have sn := ho.snoc (r := x.2)
        have etk : (rwsM xs).take (i + 1) = (rwsM xs).take i ++ [x.2] := take_succ_at hrw
        by_cases hne : restM w x.2.1 = w
        · rw [hne, hno w hwn]
          refine ⟨_, rfl, rfl, false, rfl, ?_⟩
          refine ⟨v, _, _, _, _, _, rfl, s13, o, ?_, hv⟩
          rw [etk]
          exact sn.1 hne
        · obtain ⟨vb, hvb, sv⟩ := hyes _ (hin _ hmem hne)
          rw [hvb]
          rcases sv with ⟨rfl, lst⟩ | ⟨b, g, rfl, lst, way⟩
          · refine ⟨_, rfl, rfl, false, rfl, ?_⟩
            refine ⟨v, _, _, _, _, _, rfl, s13, o, ?_, hv⟩
            rw [etk]
            exact sn.2.1 lst
          · have hb : ∃ y, H b = some (.tup [.int g, y]) := by
              rcases way with ⟨_, z⟩ | ⟨_, _, _, _, _, _, z, _⟩
              · exact ⟨_, z⟩
              · exact ⟨_, z⟩
            obtain ⟨yb, hb⟩ := hb
            have hb3 := s13 _ _ hb
            refine ⟨_, rfl, rfl, true, rfl, ?_⟩
            have firsts : (∀ p, o = some p → x.2.2 + g < p) → FirstR xs w (x.2.2 + g) i := fun lt j y hj hy ne => by
              refine first_of ho lt y.2 ?_ ne
              rw [List.mem_take_iff_getElem]
              obtain ⟨h1, h2⟩ := List.getElem?_eq_some_iff.mp hy
              have hi := (List.getElem?_eq_some_iff.mp hrw).1
              refine ⟨j, by omega, ?_⟩
              rw [List.getElem_map, h2]
            rcases hv with ⟨rfl, rfl⟩ | ⟨p, b', rfl, rfl, j, r', x', k1, k2, k3, k4, k5⟩
            · refine ⟨_, rfl, rfl, true, rfl, ?_⟩
              refine ⟨_, rfl, _, rfl, b, _, _, _, rfl, rfl, SqT.of hb3, atI_nat (j := 0) rfl, _, _, rfl, rfl, _, rfl, by show 2 ≤ sizeLine; decide, fun t4 nt4 => ?_⟩
              refine ⟨.ref t4, _, _, _, _, _, rfl, s13.trans (same_upd nt4), some (x.2.2 + g), ?_, .inr ⟨_, t4, rfl, rfl, i, u, x, hu, hxx, upd_same, hne, ?_, ?_⟩⟩
              · rw [etk]
                exact sn.2.2.1 g hne lst (fun p z => nomatch z)
              · rw [show x.2.2 + g - x.2.2 = g by omega]
                exact lst
              · exact firsts (fun p z => nomatch z)
            · refine ⟨_, rfl, rfl, false, rfl, ?_⟩
              refine ⟨_, rfl, _, rfl, b, _, _, _, rfl, rfl, SqT.of hb3, atI_nat (j := 0) rfl, _, _, rfl, rfl, _, rfl, b', _, _, _, rfl, rfl, SqT.of k3, atI_nat (j := 0) rfl, _, _, rfl, rfl, _, rfl, ite2 (fun c => ?_) (fun c => ?_)⟩
              · have c' : x.2.2 + g < p := of_decide_eq_true c
                refine ⟨_, rfl, _, rfl, b, _, _, _, rfl, rfl, SqT.of hb3, atI_nat (j := 0) rfl, _, _, rfl, rfl, _, rfl, by show 2 ≤ sizeLine; decide, fun t4 nt4 => ?_⟩
                refine ⟨.ref t4, _, _, _, _, _, rfl, s13.trans (same_upd nt4), some (x.2.2 + g), ?_, .inr ⟨_, t4, rfl, rfl, i, u, x, hu, hxx, upd_same, hne, ?_, ?_⟩⟩
                · rw [etk]
                  exact sn.2.2.1 g hne lst (fun p' z => by cases z; exact c')
                · rw [show x.2.2 + g - x.2.2 = g by omega]
                  exact lst
                · exact firsts (fun p' z => by cases z; exact c')
              · refine ⟨.ref b', _, _, _, _, _, rfl, s13, some p, ?_, .inr ⟨p, b', rfl, rfl, j, r', x', k1, k2, k3, k4, k5⟩⟩
                rw [etk]
                exact sn.2.2.2 g p lst rfl fun z => c (decide_eq_true z)
    · obtain ⟨v, y4, y5, y6, y7, y8, rfl, s1, o, ho, hv⟩ := hp
      refine ⟨_, rfl, q H1 v s1 ?_⟩
      rw [List.length_map, lal, List.take_of_length_le (by rw [List.length_map]; exact Nat.le_refl _)] at ho
      have li : LeastIs (rwsM xs) w o := leastIs_step nn hip hpos (fun r hr ne => by
        obtain ⟨kvs, _, _, hyes⟩ := hst.val nd
        obtain ⟨_, _, sv⟩ := hyes _ (hin r hr ne)
        obtain ⟨o, h, _⟩ := sv.least
        exact ⟨o, h⟩) ho
      rcases hv with ⟨rfl, rfl⟩ | ⟨p, b, rfl, rfl, way⟩
      · exact .inl ⟨rfl, li⟩
      · exact .inr ⟨b, p, rfl, li, .inr ⟨hany, way⟩⟩
end
/-! ### lesser wants: which, and in which order -/
def lexP : List Int → List Int → Prop
  | a :: r, b :: q => a < b ∨ (a = b ∧ lexP r q)
  | _, _ => False
theorem lexP_asymm : ∀ {a b : List Int}, lexP a b → lexP b a → False
  | [], _, h, _ => h.elim
  | _ :: _, [], h, _ => h.elim
  | a :: r, b :: q, h, k => by
    rcases h with h | ⟨h1, h2⟩
    · rcases k with k | ⟨k1, _⟩ <;> omega
    · rcases k with k | ⟨_, k2⟩
      · omega
      · exact lexP_asymm h2 k2
def LeW : List Int → List Int → Prop
  | [], [] => True
  | a :: r, b :: w => 0 ≤ a ∧ a ≤ b ∧ LeW r w
  | _, _ => False
theorem LeW.len : ∀ {r w : List Int}, LeW r w → r.length = w.length
  | [], [], _ => rfl
  | [], _ :: _, h => h.elim
  | _ :: _, [], h => h.elim
  | _ :: _, _ :: _, h => by rw [List.length_cons, List.length_cons, LeW.len h.2.2]
theorem LeW.nonneg : ∀ {r w : List Int}, LeW r w → ∀ x ∈ r, 0 ≤ x
  | [], [], _, _, hx => nomatch hx
  | [], _ :: _, h, _, _ => h.elim
  | _ :: _, [], h, _, _ => h.elim
  | a :: r, _ :: _, h, x, hx => by
    rcases List.mem_cons.mp hx with rfl | hx
    · exact h.1
    · exact LeW.nonneg h.2.2 x hx
theorem LeW.trans : ∀ {a b c : List Int}, LeW a b → LeW b c → LeW a c
  | [], [], [], _, _ => True.intro
  | [], [], _ :: _, _, h => h.elim
  | [], _ :: _, _, h, _ => h.elim
  | _ :: _, [], _, h, _ => h.elim
  | _ :: _, _ :: _, [], _, h => h.elim
  | _ :: _, _ :: _, _ :: _, h, k => ⟨h.1, Int.le_trans h.2.1 k.2.1, LeW.trans h.2.2 k.2.2⟩
theorem LeW.refl : ∀ {w : List Int}, (∀ x ∈ w, 0 ≤ x) → LeW w w
  | [], _ => True.intro
  | a :: r, h => ⟨h a List.mem_cons_self, Int.le_refl _, LeW.refl fun x hx => h x (List.mem_cons_of_mem _ hx)⟩
theorem LeW.small : ∀ {r w : List Int}, LeW r w → Small w → Small r
  | [], [], _, _ => fun x hx => nomatch hx
  | [], _ :: _, h, _ => h.elim
  | _ :: _, [], h, _ => h.elim
  | a :: r, b :: w, h, sm => fun x hx => by
    have hb := sm b List.mem_cons_self
    rcases List.mem_cons.mp hx with rfl | hx
    · exact ⟨h.1, by have := h.2.1; omega⟩
    · exact LeW.small h.2.2 (fun y hy => sm y (List.mem_cons_of_mem _ hy)) x hx
theorem LeW.get : ∀ {r w : List Int} {i : Nat} {n : Int}, LeW r w → r[i]? = some n → ∃ m, w[i]? = some m ∧ 0 ≤ n ∧ n ≤ m
  | [], [], _, _, _, e => by simp at e
  | [], _ :: _, _, _, h, _ => h.elim
  | _ :: _, [], _, _, h, _ => h.elim
  | a :: r, b :: w, 0, n, h, e => by cases Option.some.inj e; exact ⟨b, rfl, h.1, h.2.1⟩
  | a :: r, b :: w, i + 1, n, h, e => LeW.get (i := i) h.2.2 e
theorem upto_mem {n a : Int} : a ∈ upto n ↔ 0 ≤ a ∧ a ≤ n := by
  unfold upto
  rw [List.mem_map]
  constructor
  · rintro ⟨i, hi, rfl⟩
    have := List.mem_range.mp hi
    omega
  · rintro ⟨h1, h2⟩
    exact ⟨a.toNat, List.mem_range.mpr (by omega), by omega⟩
theorem lesserF_mem : ∀ {w r : List Int}, r ∈ lesserF w ↔ LeW r w
  | [], r => by
    show r ∈ [[]] ↔ _
    rw [List.mem_singleton]
    cases r with
    | nil => exact ⟨fun _ => True.intro, fun _ => rfl⟩
    | cons a q => exact ⟨(fun z => nomatch z), fun h => h.elim⟩
  | n :: w, r => by
    show r ∈ (upto n).flatMap (fun a => (lesserF w).map (a :: ·)) ↔ _
    rw [List.mem_flatMap]
    constructor
    · rintro ⟨a, ha, hr⟩
      obtain ⟨s, hs, rfl⟩ := List.mem_map.mp hr
      have := upto_mem.mp ha
      exact ⟨this.1, this.2, lesserF_mem.mp hs⟩
    · intro h
      cases r with
      | nil => exact h.elim
      | cons a s => exact ⟨a, upto_mem.mpr ⟨h.1, h.2.1⟩, List.mem_map.mpr ⟨s, lesserF_mem.mpr h.2.2, rfl⟩⟩
theorem upto_rise (n : Int) : (upto n).Pairwise (· < ·) := by
  unfold upto
  rw [List.pairwise_map]
  exact List.pairwise_lt_range.imp fun h => by omega
theorem lesserF_sorted : ∀ w : List Int, (lesserF w).Pairwise lexP
  | [] => List.pairwise_singleton _ _
  | n :: w => by
    show ((upto n).flatMap (fun a => (lesserF w).map (a :: ·))).Pairwise lexP
    rw [List.pairwise_flatMap]
    refine ⟨fun a _ => ?_, (upto_rise n).imp fun {a b} h x hx y hy => ?_⟩
    · rw [List.pairwise_map]
      exact (lesserF_sorted w).imp fun h => .inr ⟨rfl, h⟩
    · obtain ⟨s, _, rfl⟩ := List.mem_map.mp hx
      obtain ⟨t, _, rfl⟩ := List.mem_map.mp hy
      exact .inl h
theorem lesserF_nodup (w : List Int) : (lesserF w).Nodup := by
  rw [List.nodup_iff_pairwise_ne]
  exact (lesserF_sorted w).imp fun {a b} h z => by rw [z] at h; exact lexP_asymm h h
theorem restM_step (n : Int) (w c : List Int) : restM (n :: w) c = (if n - hadM c 0 > 0 then n - hadM c 0 else 0) :: restM w c.tail := by
  unfold restM
  rw [List.length_cons, List.range_succ_eq_map, List.map_cons, List.map_map]
  congr 1
  refine List.map_congr_left fun i _ => ?_
  have e : hadM c (i + 1) = hadM c.tail i := by
    cases c with
    | nil => rfl
    | cons a q => rfl
  show (if w.getD i 0 - hadM c (i + 1) > 0 then w.getD i 0 - hadM c (i + 1) else 0) = _
  rw [e]
theorem rest_le : ∀ {w c : List Int}, (∀ x ∈ w, 0 ≤ x) → (∀ x ∈ c, 0 ≤ x) → LeW (restM w c) w ∧ (restM w c ≠ w → lexP (restM w c) w)
  | [], c, _, _ => ⟨True.intro, fun h => absurd rfl h⟩
  | n :: w, c, hw, hc => by
    have h0 := hw n List.mem_cons_self
    have hn := had_nonneg hc 0
    obtain ⟨i1, i2⟩ := rest_le (w := w) (c := c.tail) (fun x hx => hw x (List.mem_cons_of_mem _ hx)) (fun x hx => hc x (List.mem_of_mem_tail hx))
    rw [restM_step]
    refine ⟨⟨by split <;> omega, by split <;> omega, i1⟩, fun h => ?_⟩
    by_cases e : (if n - hadM c 0 > 0 then n - hadM c 0 else 0) = n
    · refine .inr ⟨e, i2 fun z => h ?_⟩
      rw [e, z]
    · refine .inl ?_
      split at e <;> split <;> omega
theorem lesser_before {ws w r : List Int} {i : Nat} (hw : (lesserF ws)[i]? = some w) (hr : LeW r ws) (hlt : lexP r w) : r ∈ (lesserF ws).take i := by
  obtain ⟨j, hj, e⟩ := List.getElem_of_mem (lesserF_mem.mpr hr)
  obtain ⟨hi, e2⟩ := List.getElem?_eq_some_iff.mp hw
  rcases Nat.lt_or_ge j i with z | z
  · rw [List.mem_take_iff_getElem]
    exact ⟨j, by omega, e⟩
  · exfalso
    rcases Nat.lt_or_eq_of_le z with z | z
    · have := List.pairwise_iff_getElem.mp (lesserF_sorted ws) i j hi hj z
      rw [e, e2] at this
      exact lexP_asymm hlt this
    · subst z
      rw [← e2, e] at hlt
      exact lexP_asymm hlt hlt
theorem lesser_not_before {ws w : List Int} {i : Nat} (hw : (lesserF ws)[i]? = some w) : w ∉ (lesserF ws).take i := fun h => by
  obtain ⟨hi, e⟩ := List.getElem?_eq_some_iff.mp hw
  obtain ⟨j, hj, e2⟩ := List.mem_take_iff_getElem.mp h
  have := List.pairwise_iff_getElem.mp (lesserF_sorted ws) j i (by omega) hi (by omega)
  rw [e, e2] at this
  exact lexP_asymm this this
theorem anyI_pos {w : List Int} (h0 : ∀ x ∈ w, 0 ≤ x) (h : anyI w = true) : ∃ (i : Nat) (n : Int), w[i]? = some n ∧ 0 < n := by
  obtain ⟨n, hn, h1⟩ := List.any_eq_true.mp h
  obtain ⟨i, hi, e⟩ := List.getElem_of_mem hn
  have := h0 n hn
  have ne : n ≠ 0 := fun z => by rw [z] at h1; cases h1
  exact ⟨i, n, by rw [List.getElem?_eq_getElem hi, e], by omega⟩
theorem anyI_zero {w : List Int} (h : anyI w = false) : ∀ x ∈ w, x = 0 := fun x hx => by
  have := List.any_eq_false.mp h x hx
  exact Classical.byContradiction fun z => this (by show (x != 0) = true; exact bne_iff_ne.mpr z)
def sp_all_steps : Sp := fun vs H Q _ => ∃ (pa wa : Addr) (ws : List Int) (as : List Addr) (xs : List PR), vs = [.ref pa, .ref wa] ∧ H pa = some (.lst (as.map V.ref)) ∧ Al (PRowAt H) as xs ∧ H wa = some (LI ws) ∧ ws.length ≤ 4 ∧ Small ws ∧ NN (rwsM xs) ∧
  ∀ H' d, Same H H' → H d = none → StepsAt H' d as xs (lesserF ws) → Q (.ref d) H'
section
variable {P : Program} {w : World} {K : PySem.W.Frag} {mg : Str → Option Value} {base : Heap} {T : List Addr}
theorem ok_all_steps {f f1 f2 f3 f4 : Addr} {fd fd1 fd2 fd3 fd4 : FuncData} {k : Nat} (M : Names mg) (D : Def K mg "all_steps" s_all_steps ["priced", "want"] f fd) (D_best_step : Def K mg "best_step" s_best_step ["less", "priced", "steps"] f1 fd1) (D_rest : Def K mg "rest" s_rest ["want", "content"] f2 fd2) (D_had : Def K mg "had" s_had ["content", "thing"] f3 fd3) (D_lesser : Def K mg "lesser" s_lesser ["want"] f4 fd4) : FnOk P w K mg base CX0 (k + 4) f fd ["priced", "want"] sp_all_steps := by
  have G_best_step : FnOk P w K mg base CX0 (k + 3) f1 fd1 ["less", "priced", "steps"] sp_best_step := ok_best_step M D_best_step D_rest D_had
  have G_lesser : FnOk P w K mg base CX0 (k + 3) f4 fd4 ["want"] (sp_lesser K) := ok_lesser M D_lesser
  refine D.F.ok sc_all_steps (fun vs H Q E h => ?_) (fun cdv A outer s H vs Q E hr h => ?_)
  · obtain ⟨pa, wa, ws, as, xs, rfl, _⟩ := h
    rfl
  · obtain ⟨pa, wa, ws, as, xs, rfl, hpa, al, hwa, h4, sm, nn, q⟩ := h
    refine ⟨_, (pss_cons (ps_set (i := 2) sc_all_steps.nd rfl (Or.inl rfl) pe_dnewT)
  (pss_cons (ps_for PassesOwn.never rfl (pi_list (pe_call G_lesser hr (by rfl) D_lesser.g D_lesser.F.kp D_lesser.b .nil pass0 (pa_cons (pv 1) pa_nil))) (pg_name (i := 3) sc_all_steps.nd rfl (Or.inl rfl))
   (pss_one (ps_dput (hu_of hr) (pv 2) (pe_tupleOf (by rfl) M.tuple (pv 3)) (pe_ifExp (pt_val (pe_callB (cr_anyI rfl) (by rfl) M.any (by decide +kernel) (pa_cons (pv 3) pa_nil))) (pe_call G_best_step hr (by rfl) D_best_step.g D_best_step.F.kp D_best_step.b .nil pass0 (pa_cons (pv 3) (pa_cons (pv 0) (pa_cons (pv 2) pa_nil)))) (pe_tup (pa_cons pe_int (pa_cons pe_non pa_nil)))) rfl)))
  (pss_one (ps_ret (pv 2))))), ?_⟩
    refine fun d nd => ?_
    have s1 := same_upd (o := .dT []) nd
    have hd1 : upd H d (.dT []) d = some (.dT []) := upd_same
    generalize upd H d (.dT []) = H1 at s1 hd1 ⊢
    refine ⟨_, rfl, wa, ws, rfl, SqL.of (s1 _ _ hwa), h4, sm, fun H2 L s2 nL mk => ?_⟩
    obtain ⟨bs, hL, hbl, nbs, hb⟩ := mk
    have nLd : L ≠ d := fun z => by rw [z, hd1] at nL; cases nL
    have big := lesserF_le4 sm h4
    refine ⟨L, rfl, ⟨_, SqL.of hL⟩, for_list (K := K) (a := L) (xs := bs.map V.ref) (fun i σ H' => ∃ y3, σ = [some (.ref pa), some (.ref wa), some (.ref d), y3] ∧ Same H H' ∧ SameBut d H2 H' ∧ StepsAt H' d as xs ((lesserF ws).take i)) ⟨none, rfl, s1.trans s2, .refl _ _, [], s2 _ _ hd1, rfl, fun i w v hw => by simp at hw⟩ (fun i σ H' _ hp => ?_) (fun i x σ H3 hx hp => ?_) (fun σ H3 hp => ?_)⟩
    · obtain ⟨_, _, _, s3, _⟩ := hp
      exact SqL.of (s3 _ _ nLd hL)
    · obtain ⟨y3, rfl, s3, sb3, st⟩ := hp
      rw [List.getElem?_map] at hx
      cases hu : bs[i]? with
      | none => rw [hu] at hx; cases hx
      | some u =>
        rw [hu] at hx
        cases Option.some.inj hx
        have hi : i < bs.length := (List.getElem?_eq_some_iff.mp hu).1
        obtain ⟨w, hw⟩ : ∃ w, (lesserF ws)[i]? = some w := ⟨_, List.getElem?_eq_getElem (by omega)⟩
        obtain ⟨nu, nuL, hu2⟩ := hb i u w hu hw
        have nud : u ≠ d := fun z => by rw [z, hd1] at nu; cases nu
        have hu3 := sb3 _ _ nud hu2
        have lew : LeW w ws := lesserF_mem.mp (List.mem_of_getElem? hw)
        have w0 := lew.nonneg
        have wl := lew.len
        have ndp : ((lesserF ws).take i).Nodup := (lesserF_nodup ws).sublist (List.take_sublist _ _)
        obtain ⟨kvs, hkv, _, _⟩ := st.val ndp
        have lkv : kvs.length ≤ 10000 := by
          obtain ⟨vs, e1, e2, _⟩ := id st
          rw [hkv] at e1
          injection Option.some.inj e1 with e1
          rw [e1, List.length_zip, List.length_map, List.length_take]
          omega
        -- the end of a step
        have fin : ∀ (H4 : Hp) (v : V), Same H3 H4 → StepV H4 as xs w v → ∃ x H5, x = V.ref d ∧ H5 = H4 ∧ (∃ p xs', (V.ref u = .ref p ∧ SqL K H4 p xs' ∧ ∀ q, H4 q = none → ∃ a' H6, x = .ref a' ∧ DPut (upd H4 q (.tup xs')) a' (.ref q) v H6 ∧ ∃ y3, ([some (V.ref pa), some (.ref wa), some (.ref d), some (.ref u)] : L2.St) = [some (.ref pa), some (.ref wa), some (.ref d), y3] ∧ Same H H6 ∧ SameBut d H2 H6 ∧ StepsAt H6 d as xs ((lesserF ws).take (i + 1)))) := by
          intro H4 v s4 hv
          refine ⟨_, _, rfl, rfl, u, _, rfl, SqL.of (s4 _ _ hu3), fun t nt => ?_⟩
          have s5 := s4.trans (same_upd (o := .tup (w.map V.int)) nt)
          have hkv5 := s5 _ _ hkv
          refine ⟨d, _, rfl, DPut.t hkv5 (k := keyW w) (by rw [keyW_kV]; exact upd_same) (szL' (by omega)), _, rfl, sm_new (s3.trans s5) nd, (sb3.trans (.of s5)).trans .upd, ?_⟩
          rw [take_succ_at hw]
          exact st.put (lesser_not_before hw) hkv (.of s5) (hv.ke (.of (same_upd nt)))
        refine ⟨_, rfl, u, w, rfl, SqL.of hu3, _, rfl, ite2 (fun c => ?_) (fun c => ?_)⟩
        · refine ⟨_, rfl, _, rfl, _, rfl, u, pa, d, w, as, xs, _, rfl, hu3, s3 _ _ hpa, al.imp fun r x h => h.ke (.of s3), st, ndp, nn, by omega, lesser_not_before hw, fun x hx ne => ?_, anyI_pos w0 c, c, fun H4 v s4 hv => ?_⟩
          · obtain ⟨r1, r2⟩ := rest_le (c := x.1) w0 (nn x hx).1
            exact lesser_before hw (r1.trans lew) (r2 ne)
          · obtain ⟨_, _, rfl, rfl, p, xs', e1, e2, e3⟩ := fin H4 v s4 hv
            exact ⟨_, rfl, _, rfl, .inl ⟨p, xs', e1, e2, e3⟩⟩
        · refine ⟨by show 2 ≤ sizeLine; decide, fun t nt => ?_⟩
          have c' : anyI w = false := by
            cases z : anyI w with
            | false => rfl
            | true => exact absurd z c
          obtain ⟨_, _, rfl, rfl, p, xs', e1, e2, e3⟩ := fin _ (.ref t) (same_upd (o := .tup [.int 0, .non]) nt) (.inr ⟨t, 0, rfl, leastIs_zero nn fun x hx => by rw [anyI_zero c' x hx]; exact Int.le_refl _, .inl ⟨c', upd_same⟩⟩)
          exact ⟨_, rfl, _, rfl, .inl ⟨p, xs', e1, e2, e3⟩⟩
    · obtain ⟨y3, rfl, s3, sb3, st⟩ := hp
      rw [List.length_map, hbl, List.take_length] at st
      exact ⟨_, rfl, q H3 d s3 nd st⟩
end
/-! ### sorted(xs) of data -/
theorem vals_refs : ∀ {as : List Addr} {its : List Value}, Vals (as.map V.ref) its → its = as.map Value.ref
  | [], _, h => by cases h; rfl
  | a :: r, _, h => by
    cases h with
    | cons h1 h2 =>
      cases h1
      rw [vals_refs h2]
      rfl
theorem refs_vals : ∀ (as : List Addr), Vals (as.map V.ref) (as.map Value.ref)
  | [] => .nil
  | a :: r => .cons rfl (refs_vals r)
theorem each_of {β : Type} {R : Addr → β → Prop} : ∀ {as : List Addr} {bs : List β}, Al R as bs → PySem.W.EachIs (fun v b => ∃ u, v = Value.ref u ∧ R u b) (as.map Value.ref) bs
  | [], [], _ => .nil
  | [], _ :: _, h => h.elim
  | _ :: _, [], h => h.elim
  | a :: _, _ :: _, h => .cons ⟨a, rfl, h.1⟩ (each_of h.2)
theorem of_each {β : Type} {R : Addr → β → Prop} : ∀ {out : List Value} {bs : List β}, PySem.W.EachIs (fun v b => ∃ u, v = Value.ref u ∧ R u b) out bs → ∃ as : List Addr, out = as.map Value.ref ∧ Al R as bs
  | _, _, .nil => ⟨[], rfl, True.intro⟩
  | _, _, .cons ⟨u, e, h⟩ t => by
    obtain ⟨as, e2, h2⟩ := of_each t
    exact ⟨u :: as, by rw [e, e2]; rfl, h, h2⟩
theorem al_zip {β : Type} {R : Addr → β → Prop} {Z : List (Addr × β)} : ∀ {as : List Addr} {bs : List β}, Al R as bs → (∀ q ∈ as.zip bs, q ∈ Z) → Al (fun u b => (u, b) ∈ Z) as bs
  | [], [], _, _ => True.intro
  | [], _ :: _, h, _ => h.elim
  | _ :: _, [], h, _ => h.elim
  | a :: as, b :: bs, h, z => ⟨z _ (by rw [List.zip_cons_cons]; exact List.mem_cons_self), al_zip h.2 fun q hq => z q (by rw [List.zip_cons_cons]; exact List.mem_cons_of_mem _ hq)⟩
theorem zip_al {β : Type} {R : Addr → β → Prop} : ∀ {as : List Addr} {bs : List β}, Al R as bs → ∀ u b, (u, b) ∈ as.zip bs → R u b
  | [], [], _, _, _, m => by simp at m
  | [], _ :: _, h, _, _, _ => h.elim
  | _ :: _, [], h, _, _, _ => h.elim
  | a :: as, b :: bs, h, u, c, m => by
    rw [List.zip_cons_cons] at m
    rcases List.mem_cons.mp m with e | m
    · cases e
      exact h.1
    · exact zip_al h.2 u c m
def rSortedD {β : Type} (K : PySem.W.Frag) (enc : β → PyData) : List V → Hp → VK → Prop := fun vs H Q => ∃ (a : Addr) (as : List Addr) (bs : List β), vs = [V.ref a] ∧ SqL K H a (as.map V.ref) ∧ Al (fun u b => Dp K H (.ref u) (enc b)) as bs ∧ PySem.W.AllAlike (bs.map enc) ∧ PySem.W.Sortable (bs.map enc) ∧ (∀ b ∈ bs, (enc b).depth ≤ 8) ∧
  ∀ (as' : List Addr) (p : Addr), H p = none → Al (fun u b => (u, b) ∈ as.zip bs) as' (bs.mergeSort (PySem.W.dataLe false enc)) → Q (.ref p) (upd H p (.lst (as'.map V.ref)))
theorem cr_sortedD {β : Type} {X : Cx} {enc : β → PyData} (hu : X.A.units + 64 < cLine) : CallR X (.builtin "sorted") (rSortedD X.K enc) := by
  intro pins s σ H vs us Q I r h
  obtain ⟨a, as, bs, rfl, hs, al, hal, hk, hd, q⟩ := h
  obtain ⟨its, rv, hl, hz⟩ := I.list hs
  rw [Vals.ref1 r]
  have e := vals_refs rv
  subst e
  have lal := al.len
  rw [List.length_map] at hz
  refine PySem.W.sorted_data (R := fun v b => ∃ u, v = Value.ref u ∧ (u, b) ∈ as.zip bs) (enc := enc) (bs := bs) hl.isList (each_of (al_zip al fun _ m => m)) (PySem.W.EachIs.mono (fun v b h => ?_) (each_of al)) hal hk (by omega) (fun b hb => ?_) (fun out ho eo => ?_)
  · obtain ⟨u, rfl, hu⟩ := h
    exact Dp.reads I _ _ _ hu rfl
  · have := hd b hb
    omega
  · obtain ⟨as', rfl, al'⟩ := of_each eo
    obtain ⟨ep, he'⟩ := PyProof.Rows.sortedAll_at s.heap (as.map Value.ref) (as'.map Value.ref).toArray
    have hlen : (as'.map V.ref).length ≤ sizeLine := by
      rw [List.length_map] at ho ⊢
      omega
    exact ⟨.ref _, upd H (s.heap.objs.size + 1) (.lst (as'.map V.ref)), I.laid (t' := s.toks) (fun _ _ => PyProof.Rows.sortedAll_old) (Nat.le_succ _) ⟨hlen, _, ep, refs_vals as', he'⟩, rfl, q _ _ (I.hok.fresh (Nat.le_succ _)) al'⟩
/-! ### the mathematics of choices -/
def selM : List Int → Nat → List Int
  | [], _ => []
  | p :: ps, b => if b % 2 = 1 then p :: selM ps (b / 2) else selM ps (b / 2)
def selN (ps : List Int) (b n : Nat) : List Int := ((List.range n).filter fun i => decide (b / 2 ^ i % 2 = 1)).map fun i => ps.getD i 0
def subsM (ps : List Int) : List (List Int) := (List.range (2 ^ ps.length)).map (selM ps)
theorem selN_all : ∀ (ps : List Int) (b : Nat), selN ps b ps.length = selM ps b
  | [], _ => rfl
  | p :: ps, b => by
    have ih := selN_all ps (b / 2)
    unfold selN at ih ⊢
    rw [List.length_cons, List.range_succ_eq_map, List.filter_cons, List.filter_map]
    have e : ((fun i => decide (b / 2 ^ i % 2 = 1)) ∘ Nat.succ) = fun i => decide (b / 2 / 2 ^ i % 2 = 1) := by
      funext i
      show decide (b / 2 ^ (i + 1) % 2 = 1) = _
      rw [Nat.pow_succ, Nat.mul_comm, Nat.div_div_eq_div_mul]
    rw [e]
    have t : List.map (fun i => (p :: ps).getD i 0) (List.map Nat.succ ((List.range ps.length).filter fun i => decide (b / 2 / 2 ^ i % 2 = 1))) = selM ps (b / 2) := by
      rw [List.map_map, ← ih]
      rfl
    show List.map _ (if decide (b / 2 ^ 0 % 2 = 1) = true then _ else _) = if b % 2 = 1 then _ else _
    rw [Nat.pow_zero, Nat.div_one]
    by_cases z : b % 2 = 1
    · rw [if_pos (decide_eq_true z), if_pos z, List.map_cons, t]
      rfl
    · rw [if_neg (by rw [decide_eq_true_eq]; exact z), if_neg z, t]
theorem selN_yes {ps : List Int} {b n : Nat} (h : b / 2 ^ n % 2 = 1) : selN ps b (n + 1) = selN ps b n ++ [ps.getD n 0] := by
  unfold selN
  rw [List.range_succ, List.filter_append, List.map_append]
  simp [h]
theorem selN_no {ps : List Int} {b n : Nat} (h : ¬ b / 2 ^ n % 2 = 1) : selN ps b (n + 1) = selN ps b n := by
  unfold selN
  rw [List.range_succ, List.filter_append, List.map_append]
  simp [h]
theorem selN_len (ps : List Int) (b n : Nat) : (selN ps b n).length ≤ n := by
  unfold selN
  rw [List.length_map]
  exact Nat.le_trans (List.length_filter_le _ _) (by rw [List.length_range]; exact Nat.le_refl _)
theorem selM_zero : ∀ ps : List Int, selM ps 0 = []
  | [] => rfl
  | _ :: ps => by
    show (if 0 % 2 = 1 then _ else selM ps (0 / 2)) = []
    rw [if_neg (by decide)]
    exact selM_zero ps
theorem range_two {α : Type} (f : Nat → α) : ∀ n : Nat, ((List.range (2 * n)).map f).Perm ((List.range n).map (fun j => f (2 * j)) ++ (List.range n).map (fun j => f (2 * j + 1)))
  | 0 => by simp
  | n + 1 => by
    have ih := range_two f n
    rw [show 2 * (n + 1) = 2 * n + 1 + 1 by omega, List.range_succ, List.range_succ, List.range_succ, List.map_append, List.map_append, List.map_append, List.map_append]
    simp only [List.map_cons, List.map_nil]
    refine ((ih.append_right _).append_right _).trans ?_
    rw [List.append_assoc, List.append_assoc, List.append_assoc]
    refine List.Perm.append_left _ ?_
    rw [← List.append_assoc, ← List.append_assoc]
    exact List.perm_append_comm.append_right _
theorem choices_head : ∀ ps : List Int, choicesM ps = [] :: (choicesM ps).tail
  | [] => rfl
  | _ :: _ => rfl
theorem subs_perm : ∀ ps : List Int, (subsM ps).Perm (choicesM ps)
  | [] => .refl _
  | p :: ps => by
    have ih := subs_perm ps
    have h1 : (subsM (p :: ps)).Perm (subsM ps ++ (subsM ps).map (p :: ·)) := by
      unfold subsM
      rw [List.length_cons, Nat.pow_succ, Nat.mul_comm]
      refine (range_two _ _).trans ?_
      rw [List.map_map]
      refine .of_eq ?_
      congr 1
      · refine List.map_congr_left fun j _ => ?_
        show (if 2 * j % 2 = 1 then _ else selM ps (2 * j / 2)) = _
        rw [if_neg (by omega), show 2 * j / 2 = j by omega]
      · refine List.map_congr_left fun j _ => ?_
        show (if (2 * j + 1) % 2 = 1 then p :: selM ps ((2 * j + 1) / 2) else _) = p :: selM ps j
        rw [if_pos (by omega), show (2 * j + 1) / 2 = j by omega]
    refine h1.trans ((ih.append (ih.map _)).trans ?_)
    show (choicesM ps ++ (choicesM ps).map (p :: ·)).Perm (([[]] ++ (choicesM ps).map (p :: ·)) ++ (choicesM ps).tail)
    rw [List.append_assoc]
    refine (List.Perm.append_right _ (.of_eq (choices_head ps))).trans ?_
    rw [List.cons_append]
    exact (List.perm_append_comm).cons _
theorem choices_tail : ∀ {ps c : List Int}, c ∈ (choicesM ps).tail → ∃ q r, c = q :: r ∧ q ∈ ps
  | [], c, h => by cases h
  | p :: ps, c, h => by
    have h' : c ∈ (choicesM ps).map (p :: ·) ++ (choicesM ps).tail := h
    rcases List.mem_append.mp h' with h' | h'
    · obtain ⟨d, _, rfl⟩ := List.mem_map.mp h'
      exact ⟨p, d, rfl, List.mem_cons_self⟩
    · obtain ⟨q, r, e, m⟩ := choices_tail h'
      exact ⟨q, r, e, List.mem_cons_of_mem _ m⟩
theorem choices_sorted : ∀ {ps : List Int}, ps.Pairwise (· < ·) → (choicesM ps).Pairwise (· ≤ ·)
  | [], _ => by
    show [([] : List Int)].Pairwise (· ≤ ·)
    simp
  | p :: ps, h => by
    obtain ⟨h1, h2⟩ := List.pairwise_cons.mp h
    have ih := choices_sorted h2
    show (([[]] ++ (choicesM ps).map (p :: ·)) ++ (choicesM ps).tail).Pairwise (· ≤ ·)
    rw [List.append_assoc, List.singleton_append, List.pairwise_cons]
    refine ⟨fun x _ => List.nil_le x, List.pairwise_append.mpr ⟨?_, ?_, ?_⟩⟩
    · rw [List.pairwise_map]
      exact ih.imp fun h => List.cons_le_cons_iff.mpr (.inr ⟨rfl, h⟩)
    · rw [choices_head ps] at ih
      exact (List.pairwise_cons.mp ih).2
    · intro x hx y hy
      obtain ⟨d, _, rfl⟩ := List.mem_map.mp hx
      obtain ⟨q, r, rfl, m⟩ := choices_tail hy
      exact List.cons_le_cons_iff.mpr (.inl (h1 q m))
theorem subs_sort {ps : List Int} (h : ps.Pairwise (· < ·)) : (subsM ps).mergeSort (PySem.W.dataLe false fun r : List Int => PyData.list (r.map PyData.int)) = choicesM ps := by
  rw [PySem.W.dataLe_rows (fun r : List Int => r)]
  have hs := List.pairwise_mergeSort (le := fun p q : List Int => decide (p ≤ q)) (fun a b c h1 h2 => decide_eq_true (List.le_trans (of_decide_eq_true h1) (of_decide_eq_true h2))) (fun a b => by
    rcases List.le_total a b with z | z
    · rw [decide_eq_true z]
      rfl
    · rw [decide_eq_true z, Bool.or_true]) (subsM ps)
  refine List.Perm.eq_of_pairwise (le := fun a b : List Int => a ≤ b) (fun a b _ _ h1 h2 => List.le_antisymm h1 h2) (hs.imp fun h => of_decide_eq_true h) (choices_sorted h) ((List.mergeSort_perm _ _).trans (subs_perm ps))
theorem adds_rise (os : List Ofr) (p : Int) (n : Nat) : (addsN os p n).Pairwise (· < ·) := by
  unfold addsN
  rw [List.pairwise_map]
  refine List.Pairwise.imp ?_ (List.Pairwise.filter _ (List.pairwise_lt_range (n := n)))
  intro a b h
  omega
/-! ### the order of lines, and how many there are -/
def lineLt (a b : Ln) : Prop := a.p < b.p ∨ (a.p = b.p ∧ (a.c < b.c ∨ (a.c = b.c ∧ a.as < b.as)))
theorem alike_line (a b : Ln) : PySem.W.alike (dLine a) (dLine b) = true := by
  have := PySem.W.alike_ints a.as b.as
  simp [dLine, PySem.W.alike, PySem.W.alikeAll, this]
theorem eqv_line {a b : Ln} (h : PyData.eqv (dLine a) (dLine b) = true) : a = b := by
  have e := eqv_ints a.as b.as
  simp only [dLine, PyData.eqv, PyData.eqvAll, Bool.and_eq_true] at h
  obtain ⟨h1, h2, h3, _⟩ := h
  have h3' : PyData.eqv (.list (a.as.map PyData.int)) (.list (b.as.map PyData.int)) = true := by simpa only [PyData.eqv] using h3
  rw [e] at h3'
  cases a
  cases b
  simp_all
theorem dataLt_line (a b : Ln) (h : PySem.W.dataLt (dLine a) (dLine b) = true) : lineLt a b := by
  unfold dLine at h
  rw [PySem.W.dataLt_tuple, PySem.W.dataLt_cons (by simp [PySem.W.alike]), PySem.W.dataLt_cons (by simp [PySem.W.alike]), PySem.W.dataLt_cons (by simp only [PySem.W.alike]; exact PySem.W.alike_ints _ _), PySem.W.dataLt_int, PySem.W.dataLt_int, PySem.W.dataLt_list] at h
  have e1 : PyData.eqv (.int a.p) (.int b.p) = decide (a.p = b.p) := by
    rw [Bool.eq_iff_iff]
    simp [PyData.eqv]
  have e2 : PyData.eqv (.int a.c) (.int b.c) = decide (a.c = b.c) := by
    rw [Bool.eq_iff_iff]
    simp [PyData.eqv]
  have e4 : PyProof.Rows.lexLt PyProof.Rows.itemOrd (PySem.W.keyToksAll (a.as.map PyData.int)) (PySem.W.keyToksAll (b.as.map PyData.int)) = decide (a.as < b.as) := PySem.W.dataLt_ints a.as b.as
  rw [e1, e2, eqv_ints, e4] at h
  unfold lineLt
  by_cases h1 : a.p = b.p
  · rw [if_pos (decide_eq_true h1)] at h
    by_cases h2 : a.c = b.c
    · rw [if_pos (decide_eq_true h2)] at h
      by_cases h3 : a.as = b.as
      · rw [if_pos (decide_eq_true h3)] at h
        have : PyProof.Rows.lexLt PyProof.Rows.itemOrd (PySem.W.keyToksAll []) (PySem.W.keyToksAll []) = false := PyProof.Rows.lex_irrefl _
        rw [this] at h
        cases h
      · rw [if_neg (by rw [decide_eq_true_eq]; exact h3)] at h
        exact .inr ⟨h1, .inr ⟨h2, of_decide_eq_true h⟩⟩
    · rw [if_neg (by rw [decide_eq_true_eq]; exact h2)] at h
      exact .inr ⟨h1, .inl (of_decide_eq_true h)⟩
  · rw [if_neg (by rw [decide_eq_true_eq]; exact h1)] at h
    exact .inl (of_decide_eq_true h)
theorem lineLt_asymm {a b : Ln} (h : lineLt a b) (k : lineLt b a) : False := by
  unfold lineLt at h k
  rcases h with h | ⟨h1, h | ⟨h2, h⟩⟩ <;> rcases k with k | ⟨k1, k | ⟨k2, k⟩⟩
  all_goals first
    | omega
    | exact List.lt_asymm h k
theorem choices_strict : ∀ {ps : List Int}, ps.Pairwise (· < ·) → (choicesM ps).Pairwise (· < ·)
  | [], _ => by
    show [([] : List Int)].Pairwise (· < ·)
    simp
  | p :: ps, h => by
    obtain ⟨h1, h2⟩ := List.pairwise_cons.mp h
    have ih := choices_strict h2
    show (([[]] ++ (choicesM ps).map (p :: ·)) ++ (choicesM ps).tail).Pairwise (· < ·)
    rw [List.append_assoc, List.singleton_append, List.pairwise_cons]
    refine ⟨fun x hx => ?_, List.pairwise_append.mpr ⟨?_, ?_, ?_⟩⟩
    · rcases List.mem_append.mp hx with hx | hx
      · obtain ⟨d, _, rfl⟩ := List.mem_map.mp hx
        exact List.nil_lt_cons _ _
      · obtain ⟨q, r, rfl, _⟩ := choices_tail hx
        exact List.nil_lt_cons _ _
    · rw [List.pairwise_map]
      exact ih.imp fun h => List.cons_lt_cons_iff.mpr (.inr ⟨rfl, h⟩)
    · rw [choices_head ps] at ih
      exact (List.pairwise_cons.mp ih).2
    · intro x hx y hy
      obtain ⟨d, _, rfl⟩ := List.mem_map.mp hx
      obtain ⟨q, r, rfl, m⟩ := choices_tail hy
      exact List.cons_lt_cons_iff.mpr (.inl (h1 q m))
theorem lines_strict (os : List Ofr) : (linesM os).Pairwise lineLt := by
  unfold linesM
  rw [List.pairwise_flatMap]
  refine ⟨fun i _ => ?_, List.Pairwise.imp ?_ (List.pairwise_lt_range (n := os.length))⟩
  · unfold linesAtM
    split
    · rw [List.pairwise_map]
      exact (choices_strict (adds_rise os i os.length)).imp fun h => .inr ⟨rfl, .inr ⟨rfl, h⟩⟩
    · rw [List.pairwise_map]
      refine List.Pairwise.imp ?_ (List.pairwise_lt_range (n := 12))
      intro a b h
      exact .inr ⟨rfl, .inl (by show 1 + (a : Int) < 1 + (b : Int); omega)⟩
    · exact List.Pairwise.nil
  · intro i j hij x hx y hy
    have e1 := linesAtM_p hx
    have e2 := linesAtM_p hy
    exact .inl (by omega)
theorem lines_sort (os : List Ofr) : (linesM os).mergeSort (PySem.W.dataLe false dLine) = linesM os := by
  refine List.mergeSort_of_pairwise ((lines_strict os).imp fun {a b} h => ?_)
  show (!PySem.W.dataLt (dLine b) (dLine a)) = true
  cases z : PySem.W.dataLt (dLine b) (dLine a) with
  | false => rfl
  | true => exact (lineLt_asymm h (dataLt_line b a z)).elim
/-! ### cheapest, least -/
abbrev s_cheapest : Stmt := topS 26
abbrev N_cheapest : List Str := ["priced", "want", "steps", "found", "purchase", "left", "content", "price", "place", "count", "adds"]
theorem sc_cheapest : FnScope N_cheapest ["priced", "want"] (defScope s_cheapest) := ⟨rfl, rfl, rfl, by decide +kernel, rfl, by decide +kernel, by decide +kernel⟩

abbrev s_least : Stmt := topS 27
abbrev N_least : List Str := ["shop", "want"]
theorem sc_least : FnScope N_least ["shop", "want"] (defScope s_least) := ⟨rfl, rfl, rfl, by decide +kernel, rfl, by decide +kernel, by decide +kernel⟩

abbrev AL := Addr × Ln
def LnkF (H0 H : Hp) (la : Addr) (bl : AL) : Prop := H la = some (.tup [.int bl.2.p, .int bl.2.c, .ref bl.1]) ∧ H bl.1 = some (LI bl.2.as) ∧ H0 la = none ∧ H0 bl.1 = none
theorem LnkF.ke {H0 H H' : Hp} (e : Ke H H') {a : Addr} {x : AL} (h : LnkF H0 H a x) : LnkF H0 H' a x := ⟨e.tup h.1, e.lst h.2.1, h.2.2⟩
theorem LnkF.at {H0 H : Hp} {a : Addr} {x : AL} (h : LnkF H0 H a x) : LineAt H a x.2 := ⟨_, h.1, h.2.1⟩
/-- a purchase of its own, no list at two places -/
def PurAt (H0 H : Hp) (q : Addr) (bls : List AL) : Prop := ∃ las : List Addr, H q = some (.lst (las.map V.ref)) ∧ Al (LnkF H0 H) las bls ∧ (bls.map (·.1)).Nodup ∧ q ∉ bls.map (·.1) ∧ H0 q = none
theorem LeW.sum_lt : ∀ {a b : List Int}, LeW a b → a.sum ≤ b.sum ∧ (a ≠ b → a.sum < b.sum)
  | [], [], _ => ⟨Int.le_refl _, fun h => absurd rfl h⟩
  | [], _ :: _, h => h.elim
  | _ :: _, [], h => h.elim
  | a :: r, b :: w, h => by
    obtain ⟨i1, i2⟩ := LeW.sum_lt h.2.2
    have := h.2.1
    rw [List.sum_cons, List.sum_cons]
    refine ⟨by omega, fun ne => ?_⟩
    by_cases e : a = b
    · have := i2 fun z => ne (by rw [e, z])
      omega
    · omega
theorem sumI_nonneg : ∀ {ws : List Int}, (∀ w ∈ ws, 0 ≤ w) → 0 ≤ ws.sum
  | [], _ => by decide
  | a :: r, h => by
    have h1 := h a List.mem_cons_self
    have h2 := sumI_nonneg (ws := r) fun w hw => h w (List.mem_cons_of_mem _ hw)
    rw [List.sum_cons]
    omega
theorem small_sum : ∀ {ws : List Int}, Small ws → ws.sum ≤ 9 * ws.length
  | [], _ => by simp
  | a :: q, sm => by
    have h1 := sm a List.mem_cons_self
    have h2 := small_sum (ws := q) fun x hx => sm x (List.mem_cons_of_mem _ hx)
    rw [List.sum_cons, List.length_cons]
    omega
theorem anyI_false_of {w : List Int} (h : ¬ anyI w = true) : anyI w = false := by
  cases z : anyI w with
  | false => rfl
  | true => exact absurd z h
def sp_cheapest : Sp := fun vs H Q _ => ∃ (pa wa : Addr) (ws : List Int) (as : List Addr) (xs : List PR), vs = [.ref pa, .ref wa] ∧ H pa = some (.lst (as.map V.ref)) ∧ Al (PRowAt H) as xs ∧ H wa = some (LI ws) ∧ ws.length ≤ 4 ∧ Small ws ∧ NN (rwsM xs) ∧
  (∀ H', Same H H' → LeastIs (rwsM xs) ws none → Q .non H') ∧
  ∀ H' (t q : Addr) (bls : List AL) (ys : List PR) (p : Int), Same H H' → H t = none → H' t = some (.tup [.int p, .ref q]) → PurAt H H' q bls → LeastIs (rwsM xs) ws (some p) → (∀ y ∈ ys, y ∈ xs) → CovM (rwsM ys) ws → costM (rwsM ys) = p → (bls.map (·.2)) = (ys.map (·.1)).mergeSort (PySem.W.dataLe false dLine) → (anyI ws = false → ys = []) → PathM xs ws ys → Q (.ref t) H'
section
variable {P : Program} {w : World} {K : PySem.W.Frag} {mg : Str → Option Value} {base : Heap} {T : List Addr}
theorem ok_cheapest {f f1 f2 f3 f4 f5 : Addr} {fd fd1 fd2 fd3 fd4 fd5 : FuncData} {k : Nat} (M : Names mg) (D : Def K mg "cheapest" s_cheapest ["priced", "want"] f fd) (D_all_steps : Def K mg "all_steps" s_all_steps ["priced", "want"] f5 fd5) (D_best_step : Def K mg "best_step" s_best_step ["less", "priced", "steps"] f1 fd1) (D_rest : Def K mg "rest" s_rest ["want", "content"] f2 fd2) (D_had : Def K mg "had" s_had ["content", "thing"] f3 fd3) (D_lesser : Def K mg "lesser" s_lesser ["want"] f4 fd4) : FnOk P w K mg base CX0 (k + 5) f fd ["priced", "want"] sp_cheapest := by
  have G_all_steps : FnOk P w K mg base CX0 (k + 4) f5 fd5 ["priced", "want"] sp_all_steps := ok_all_steps M D_all_steps D_best_step D_rest D_had D_lesser
  have G_rest : FnOk P w K mg base CX0 (k + 4) f2 fd2 ["want", "content"] (sp_rest K) := ok_rest M D_rest D_had
  refine D.F.ok sc_cheapest (fun vs H Q E h => ?_) (fun cdv A outer s H vs Q E hr h => ?_)
  · obtain ⟨pa, wa, ws, as, xs, rfl, _⟩ := h
    rfl
  · obtain ⟨pa, wa, ws, as, xs, rfl, hpa, al, hwa, h4, sm, nn, qn, qs⟩ := h
    refine ⟨_, (pss_cons (ps_set (i := 2) sc_cheapest.nd rfl (Or.inl rfl) (pe_call G_all_steps hr (by rfl) D_all_steps.g D_all_steps.F.kp D_all_steps.b .nil pass0 (pa_cons (pv 0) (pa_cons (pv 1) pa_nil))))
  (pss_cons (ps_set (i := 3) sc_cheapest.nd rfl (Or.inl rfl) (pe_dget1 (hu_of hr) (pv 2) (pe_tupleOf (by rfl) M.tuple (pv 1)) ⟨rfl, rfl, rfl, rfl⟩))
  (pss_cons (ps_if (pt_cmpR op_isN (pv 3) pe_non (nomark _))
   (pss_one (ps_ret pe_non))
   pss_nil)
  (pss_cons (ps_set (i := 4) sc_cheapest.nd rfl (Or.inl rfl) (pe_lst pa_nil))
  (pss_cons (ps_set (i := 5) sc_cheapest.nd rfl (Or.inl rfl) (pv 1))
  (pss_cons (ps_while PassesOwn.never (pt_val (pe_callB (cr_anyI rfl) (by rfl) M.any (by decide +kernel) (pa_cons (pv 5) pa_nil)))
   (pss_cons (ps_asg (pe_ix ix_tup (pe_dget (hu_of hr) (pv 2) (pe_tupleOf (by rfl) M.tuple (pv 5)) (fun _ _ => rfl)) pe_int (fun _ _ => rfl)) (pg_tup rfl (pgs_cons (pg_tup rfl (pgs_cons (pg_name (i := 8) sc_cheapest.nd rfl (Or.inl rfl)) (pgs_cons (pg_name (i := 9) sc_cheapest.nd rfl (Or.inl rfl)) (pgs_cons (pg_name (i := 10) sc_cheapest.nd rfl (Or.inl rfl)) pgs_nil)))) (pgs_cons (pg_name (i := 6) sc_cheapest.nd rfl (Or.inl rfl)) (pgs_cons (pg_name (i := 7) sc_cheapest.nd rfl (Or.inl rfl)) pgs_nil)))))
  (pss_cons (ps_expr (pe_bm PySem.F.plainAttrs_list PySem.F.slot_list_append PySem.F.type_list_append mt_append (pv 4) (pa_cons (pe_tup (pa_cons (pv 8) (pa_cons (pv 9) (pa_cons (pe_callTy call_list_of (by rfl) M.list (by decide +kernel) (pa_cons (pv 10) pa_nil)) pa_nil)))) pa_nil)))
  (pss_one (ps_set (i := 5) sc_cheapest.nd rfl (Or.inl rfl) (pe_call G_rest hr (by rfl) D_rest.g D_rest.F.kp D_rest.b .nil pass0 (pa_cons (pv 5) (pa_cons (pv 6) pa_nil))))))))
  (pss_one (ps_ret (pe_tup (pa_cons (pe_ix ix_tup (pv 3) pe_int (fun _ _ => rfl)) (pa_cons (pe_callB (cr_sortedD (enc := fun bl : AL => dLine bl.2) hr.units) (by rfl) M.sorted (by decide +kernel) (pa_cons (pv 4) pa_nil)) pa_nil))))))))))), ?_⟩
    refine ⟨_, rfl, _, rfl, pa, wa, ws, as, xs, rfl, hpa, al, hwa, h4, sm, nn, fun H1 d s1 nd st => ?_⟩
    have ws0 : ∀ x ∈ ws, 0 ≤ x := fun x hx => (sm x hx).1
    have lewz := LeW.refl ws0
    have nodup := lesserF_nodup ws
    obtain ⟨kvs, hkv, _, hyes⟩ := st.val nodup
    obtain ⟨v, hv, sv⟩ := hyes ws (lesserF_mem.mpr lewz)
    -- found
    refine ⟨_, rfl, d, rfl, .inr ⟨kvs, .inl hkv⟩, _, rfl, .inl ⟨wa, _, rfl, SqL.of (s1 _ _ hwa), fun t2 nt2 => ?_⟩⟩
    have s2 := same_upd (o := .tup (ws.map V.int)) nt2
    have hkv2 := s2 _ _ hkv
    have ht2 : upd H1 t2 (.tup (ws.map V.int)) t2 = some (.tup ((keyW ws).map kV)) := by rw [upd_same, keyW_kV]
    generalize upd H1 t2 (.tup (ws.map V.int)) = H2 at s2 hkv2 ht2 ⊢
    have s02 := s1.trans s2
    refine ⟨_, DGet.t hkv2 ht2, ?_⟩
    rw [hv]
    have st2 := st.ke (.of s2)
    have sv2 := sv.ke (.of s2)
    clear hyes hv sv
    rcases sv2 with ⟨rfl, li⟩ | ⟨tf, p, rfl, li, way⟩
    · refine ⟨_, rfl, rfl, true, rfl, ?_⟩
      exact qn H2 s02 li
    · refine ⟨_, rfl, rfl, false, rfl, ?_⟩
      have hf : ∃ y, H2 tf = some (.tup [.int p, y]) := by
        rcases way with ⟨_, z⟩ | ⟨_, _, _, _, _, _, z, _⟩
        · exact ⟨_, z⟩
        · exact ⟨_, z⟩
      obtain ⟨yf, hf⟩ := hf
      refine ⟨Nat.zero_le _, fun B nB => ?_⟩
      have nBH : H B = none := s02.free nB
      have s3 : Same H2 (upd H2 B (.lst [])) := same_upd nB
      have hB3 : upd H2 B (.lst []) B = some (.lst []) := upd_same
      have nwaB : wa ≠ B := ne_of_none hwa nBH
      refine ⟨_, rfl, ?_⟩
      refine ⟨fun μ σ H' => ∃ (lf : Addr) (wl : List Int) (ys : List PR) (las : List Addr) (bls : List AL) (r : Int) (y6 y7 y8 y9 y10 : Option V), σ = [some (.ref pa), some (.ref wa), some (.ref d), some (.ref tf), some (.ref B), some (.ref lf), y6, y7, y8, y9, y10] ∧ Same H2 H' ∧ H' lf = some (LI wl) ∧ lf ≠ B ∧ LeW wl ws ∧ H' B = some (.lst (las.map V.ref)) ∧ Al (LnkF H (cutH B H')) las bls ∧ (bls.map (·.1)).Nodup ∧ bls.map (·.2) = ys.map (·.1) ∧ (∀ y ∈ ys, y ∈ xs) ∧ costM (rwsM ys) + r = p ∧ LeastIs (rwsM xs) wl (some r) ∧ (∀ z, CovM z wl → CovM (rwsM ys ++ z) ws) ∧ (ys.length : Int) + wl.sum ≤ ws.sum ∧ (anyI ws = false → ys = []) ∧ (∀ z, PathM xs wl z → PathM xs ws (ys ++ z)) ∧ μ = wl.sum.toNat, ⟨_, wa, ws, [], [], [], p, none, none, none, none, none, rfl, s3, s3 _ _ (s02 _ _ hwa), nwaB, lewz, hB3, True.intro, List.nodup_nil, rfl, (fun y hy => nomatch hy), by show 0 + p = p; omega, li, fun z hz => hz, by show (0 : Int) + ws.sum ≤ ws.sum; omega, fun _ => rfl, fun z hz => hz, rfl⟩, fun μ σ H4 hW => ?_⟩
      obtain ⟨lf, wl, ys, las, bls, r, y6, y7, y8, y9, y10, rfl, s4, hlf, nlf, lew, hB4, all, nbl, ebl, sub, hcost, lis, hcov, hsz, hz0, hpath, rfl⟩ := hW
      have wl0 := lew.nonneg
      have smw := small_sum sm
      have wls := sumI_nonneg wl0
      have lbl : bls.length = ys.length := by
        have := congrArg List.length ebl
        rw [List.length_map, List.length_map] at this
        exact this
      have llas := all.len
      refine ⟨_, rfl, lf, wl, rfl, SqL.of hlf, _, rfl, ite2 (fun c => ?_) (fun c => ?_)⟩
      · -- a step
        refine ⟨fun σ' H' => ∃ μ', μ' < wl.sum.toNat ∧ ∃ (lf : Addr) (wl : List Int) (ys : List PR) (las : List Addr) (bls : List AL) (r : Int) (y6 y7 y8 y9 y10 : Option V), σ' = [some (.ref pa), some (.ref wa), some (.ref d), some (.ref tf), some (.ref B), some (.ref lf), y6, y7, y8, y9, y10] ∧ Same H2 H' ∧ H' lf = some (LI wl) ∧ lf ≠ B ∧ LeW wl ws ∧ H' B = some (.lst (las.map V.ref)) ∧ Al (LnkF H (cutH B H')) las bls ∧ (bls.map (·.1)).Nodup ∧ bls.map (·.2) = ys.map (·.1) ∧ (∀ y ∈ ys, y ∈ xs) ∧ costM (rwsM ys) + r = p ∧ LeastIs (rwsM xs) wl (some r) ∧ (∀ z, CovM z wl → CovM (rwsM ys ++ z) ws) ∧ (ys.length : Int) + wl.sum ≤ ws.sum ∧ (anyI ws = false → ys = []) ∧ (∀ z, PathM xs wl z → PathM xs ws (ys ++ z)) ∧ μ' = wl.sum.toNat, fun σ' H' hN => hN, ?_⟩
        have st4 := st2.ke (.of s4)
        obtain ⟨kvs4, hkv4, _, hyes4⟩ := st4.val nodup
        obtain ⟨v4, hv4, sv4⟩ := hyes4 wl (lesserF_mem.mpr lew)
        rcases sv4 with ⟨rfl, li4⟩ | ⟨b4, p4, rfl, li4, way4⟩
        · exact absurd (leastIs_unique li4 lis) (fun z => nomatch z)
        · rcases way4 with ⟨z, _⟩ | ⟨_, i, ra, x, hai, hxi, hb4, hne, hl4, hfr⟩
          · rw [c] at z
            cases z
          · cases Option.some.inj (leastIs_unique li4 lis)
            obtain ⟨x', hx', lx, cx, hr1, ⟨ab, hl1, hl2⟩, hc1⟩ := al.get hai
            cases Option.some.inj (hx'.symm.trans hxi)
            have s24 : Same H H4 := s02.trans s4
            have hxm : x ∈ xs := List.mem_of_getElem? hxi
            have hrm : x.2 ∈ rwsM xs := List.mem_map.mpr ⟨x, hxm, rfl⟩
            obtain ⟨r1, r2⟩ := rest_le (c := x.2.1) wl0 (nn _ hrm).1
            -- steps[tuple(left)][1]
            refine ⟨_, rfl, _, rfl, .inl ⟨lf, _, rfl, SqL.of hlf, fun t5 nt5 => ?_⟩⟩
            have s5 := same_upd (o := .tup (wl.map V.int)) nt5
            have ht5 : upd H4 t5 (.tup (wl.map V.int)) t5 = some (.tup ((keyW wl).map kV)) := by rw [upd_same, keyW_kV]
            have hkv5 := s5 _ _ hkv4
            have hB5 := s5 _ _ hB4
            have hb5 := s5 _ _ hb4
            have hlf5 := s5 _ _ hlf
            have s25 := s24.trans s5
            have all5 : Al (LnkF H (cutH B (upd H4 t5 (.tup (wl.map V.int))))) las bls := all.imp fun l x h => h.ke (.of (cut_mono s5))
            have s45 := s4.trans s5
            generalize upd H4 t5 (.tup (wl.map V.int)) = H5 at s5 ht5 hkv5 hB5 hb5 hlf5 s25 all5 s45 ⊢
            have dg := DGet.t hkv5 ht5
            rw [hv4] at dg
            refine ⟨d, _, rfl, dg, b4, _, _, _, rfl, rfl, SqT.of hb5, atI_nat (j := 1) rfl, ?_⟩
            refine ⟨ra, _, rfl, SqT.of (s25 _ _ hr1), rfl, _, _, rfl, ⟨lx, _, rfl, SqT.of (s25 _ _ hl1), rfl, _, _, rfl, _, _, rfl, _, _, rfl, rfl, ?_⟩⟩
            refine ⟨_, _, rfl, _, _, rfl, rfl, ?_⟩
            -- append
            refine ⟨_, rfl, .inl ⟨rfl, _, SqL.of hB5⟩, _, rfl, _, rfl, _, rfl, ab, _, rfl, .inl (SqL.of (s25 _ _ hl2)), fun l6 nl6 => ⟨by show 3 ≤ sizeLine; decide, fun t7 nt7 => ?_⟩⟩
            have s6 := same_upd (o := LI x.1.as) nl6
            have s7 := same_upd (o := .tup [.int x.1.p, .int x.1.c, .ref l6]) nt7
            have nl6B : l6 ≠ B := fun z => by rw [z, hB5] at nl6; cases nl6
            have nt7B : t7 ≠ B := fun z => by rw [z, s6 _ _ hB5] at nt7; cases nt7
            have hB7 := s7 _ _ (s6 _ _ hB5)
            have s57 : Same H5 _ := s6.trans s7
            refine ⟨B, _, _, rfl, rfl, hB7, szL' (by rw [List.length_map]; omega), ?_⟩
            have nl6' : ∀ bl ∈ bls.map (·.1), bl ≠ l6 := fun b hb z => by
              obtain ⟨bl, hbl, e⟩ := List.mem_map.mp hb
              obtain ⟨i, hi, e2⟩ := List.getElem_of_mem hbl
              have g : las[i]? = some (las[i]'(by omega)) := List.getElem?_eq_getElem (by omega)
              obtain ⟨y, hy, hln⟩ := all5.get g
              rw [List.getElem?_eq_getElem hi, e2] at hy
              cases Option.some.inj hy
              have := (cut_some hln.2.1).2
              rw [e, z, nl6] at this
              cases this
            have l6f : H l6 = none := s25.free nl6
            have t7f : H t7 = none := s25.free (s6.free nt7)
            have hl6 : (upd (upd H5 l6 (LI x.1.as)) t7 (.tup [.int x.1.p, .int x.1.c, .ref l6])) l6 = some (LI x.1.as) := s7 _ _ upd_same
            have ht7 : (upd (upd H5 l6 (LI x.1.as)) t7 (.tup [.int x.1.p, .int x.1.c, .ref l6])) t7 = some (.tup [.int x.1.p, .int x.1.c, .ref l6]) := upd_same
            generalize (upd (upd H5 l6 (LI x.1.as)) t7 (.tup [.int x.1.p, .int x.1.c, .ref l6])) = H7 at s7 s57 hB7 hl6 ht7 ⊢
            have s27 : Same H2 (upd H7 B (.lst (las.map V.ref ++ [.ref t7]))) := sm_new (s45.trans s57) nB
            have s07 : Same H (upd H7 B (.lst (las.map V.ref ++ [.ref t7]))) := s02.trans s27
            have hB8 : upd H7 B (.lst (las.map V.ref ++ [.ref t7])) B = some (.lst ((las ++ [t7]).map V.ref)) := by rw [upd_same, List.map_append]; rfl
            have all8 : Al (LnkF H (cutH B (upd H7 B (.lst (las.map V.ref ++ [.ref t7]))))) (las ++ [t7]) (bls ++ [(l6, x.1)]) := by
              rw [cut_off]
              exact Al.app (all5.imp fun l x h => h.ke (.of (cut_mono s57))) (.one ⟨cut_put nt7B ht7, cut_put nl6B hl6, t7f, l6f⟩)
            have hlf8 : upd H7 B (.lst (las.map V.ref ++ [.ref t7])) lf = some (LI wl) := by rw [upd_ne nlf]; exact s57 _ _ hlf5
            generalize upd H7 B (.lst (las.map V.ref ++ [.ref t7])) = H8 at s27 s07 hB8 all8 hlf8 ⊢
            -- left
            refine ⟨_, rfl, _, rfl, lf, cx, wl, x.2.1, rfl, SqL.of hlf8, SqL.of (s07 _ _ hc1), (by have := lew.len; omega), fun H9 q9 s9 nq9 hq9 => ?_⟩
            have nq9B : q9 ≠ B := fun z => by rw [z, hB8] at nq9; cases nq9
            have slt := r1.sum_lt.2 hne
            have sle := sumI_nonneg r1.nonneg
            refine ⟨_, ?_, q9, restM wl x.2.1, ys ++ [x], las ++ [t7], bls ++ [(l6, x.1)], r - x.2.2, _, _, _, _, _, rfl, s27.trans s9, hq9, nq9B, r1.trans lew, s9 _ _ hB8, all8.imp fun l x h => h.ke (.of (cut_mono s9)), ?_, ?_, fun y hy => ?_, ?_, hl4, fun z hz => ?_, ?_, fun z => ?_, fun z hz => ?_, rfl⟩
            · omega
            · rw [List.map_append]
              refine List.nodup_append.mpr ⟨nbl, by simp, fun x hx y hy => ?_⟩
              rw [List.mem_singleton.mp hy]
              exact nl6' x hx
            · rw [List.map_append, List.map_append, ebl]
              rfl
            · rcases List.mem_append.mp hy with z | z
              · exact sub y z
              · rw [List.mem_singleton.mp z]
                exact hxm
            · rw [show rwsM (ys ++ [x]) = rwsM ys ++ [x.2] from List.map_append, costM_app, show costM [x.2] = x.2.2 by show x.2.2 + 0 = _; omega]
              omega
            · have := hcov (x.2 :: z) (cov_cons hz)
              rw [show rwsM (ys ++ [x]) ++ z = rwsM ys ++ x.2 :: z by rw [show rwsM (ys ++ [x]) = rwsM ys ++ [x.2] from List.map_append, List.append_assoc]; rfl]
              exact this
            · rw [List.length_append, List.length_singleton]
              omega
            · have e0 := anyI_zero z
              obtain ⟨i, n, hi, hn⟩ := anyI_pos wl0 c
              obtain ⟨m, hm, _, hle⟩ := lew.get hi
              have := e0 m (List.mem_of_getElem? hm)
              omega
            · have := hpath (x :: z) (.step c lis hxi hne hl4 hfr hz)
              rw [List.append_assoc]
              exact this
      · -- the end
        have c' := anyI_false_of c
        have r0 : r = 0 := Option.some.inj (leastIs_unique lis (leastIs_zero nn fun x hx => by rw [anyI_zero c' x hx]; exact Int.le_refl _))
        have hcv : CovM (rwsM ys) ws := by
          have := hcov [] fun i n hn => by
            have := anyI_zero c' n (List.mem_of_getElem? hn)
            show n ≤ 0
            omega
          rw [List.append_nil] at this
          exact this
        have all4 : Al (LnkF H H4) las bls := all.imp fun l x h => h.ke (.of cut_le)
        refine ⟨_, rfl, tf, _, _, _, rfl, rfl, SqT.of (s4 _ _ hf), atI_nat (j := 0) rfl, ?_⟩
        refine ⟨_, rfl, B, las, bls, rfl, SqL.of hB4, all4.imp fun l x h => h.at.dp, PySem.W.AllAlike.of fun x y => alike_line x.2 y.2, PySem.W.Sortable.tuples fun l => ⟨_, _, rfl⟩, fun l _ => Nat.le_trans (depth_line l.2) (by decide), fun as' q5 nq5 al' => ⟨by show 2 ≤ sizeLine; decide, fun t6 nt6 => ?_⟩⟩
        have s5 := same_upd (o := .lst (as'.map V.ref)) nq5
        have s6 := same_upd (o := .tup [.int p, .ref q5]) nt6
        have zl := zip_al all4
        have nq5m : q5 ∉ (bls.mergeSort (PySem.W.dataLe false fun bl : AL => dLine bl.2)).map (·.1) := fun h => by
          obtain ⟨bl, hbl, e⟩ := List.mem_map.mp h
          obtain ⟨i, hi, e2⟩ := List.getElem_of_mem (List.mem_mergeSort.mp hbl)
          have g : las[i]? = some (las[i]'(by omega)) := List.getElem?_eq_getElem (by omega)
          obtain ⟨y, hy, hln⟩ := all4.get g
          rw [List.getElem?_eq_getElem hi, e2] at hy
          cases Option.some.inj hy
          have := hln.2.1
          rw [e, nq5] at this
          cases this
        refine qs _ t6 q5 (bls.mergeSort (PySem.W.dataLe false fun bl : AL => dLine bl.2)) ys p ((s02.trans s4).trans (s5.trans s6)) ((s02.trans s4).free (s5.free nt6)) upd_same ⟨as', s6 _ _ upd_same, al'.imp fun u b h => (zl u b h).ke (.of (s5.trans s6)), ?_, nq5m, (s02.trans s4).free nq5⟩ li sub hcv (by omega) ?_ hz0 ?_
        · exact ((List.mergeSort_perm bls _).map _).nodup_iff.mpr nbl
        · rw [← ebl]
          exact List.map_mergeSort fun a _ b _ => rfl
        · have := hpath [] (.done c')
          rw [List.append_nil] at this
          exact this
end
/-! ### the lines of a shop that fits -/
theorem priceM_nonneg {m : Nat} {os : List Ofr} {l : Ln} (ft : FitS m os) (lok : LineOk os l) : 0 ≤ priceM os l := by
  obtain ⟨p, ep, ways⟩ := lok
  unfold priceM
  rw [ep, Int.toNat_natCast]
  rcases ways with ⟨c, ts, w1, w0, w2, w3, w4⟩ | ⟨c, pr, w1, w2, w3, w4⟩
  · rw [w1]
    have hp : PriceT ts := (ft _ (List.mem_of_getElem? w1)).2.2
    have h0 : 0 ≤ pieceM ts l.c := by
      unfold pieceM pieceL
      cases z : ((ts.filter fun t => decide (t.1 ≤ l.c)).map (·.2)).getLast? with
      | none =>
        rw [List.getLastD_eq_getLast?, z]
        exact Int.le_refl _
      | some x =>
        rw [List.getLastD_eq_getLast?, z]
        obtain ⟨t, ht, rfl⟩ := List.mem_map.mp (List.mem_of_getLast? z)
        exact (hp t (List.mem_filter.mp ht).1).1
    exact Int.mul_nonneg (by omega) h0
  · rw [w1]
    have h1 : 0 ≤ pr := (ft _ (List.mem_of_getElem? w1)).2.2.1
    have h2 : 0 ≤ (l.as.map (addPr os)).sum := sumI_nonneg fun x hx => by
      obtain ⟨y, hy, rfl⟩ := List.mem_map.mp hx
      obtain ⟨j, rfl, c', pr', k, hj⟩ := w4 y hy
      unfold addPr
      rw [Int.toNat_natCast, hj]
      exact (ft _ (List.mem_of_getElem? hj)).2.2.1
    show 0 ≤ pr + _
    omega
theorem rws_nn {m : Nat} {os : List Ofr} (gd : Good os) (ft : FitS m os) : NN (rwsM (prowsM os)) := fun r hr => by
  obtain ⟨x, hx, rfl⟩ := List.mem_map.mp hr
  obtain ⟨l, hl, rfl⟩ := List.mem_map.mp hx
  have lk := lines_ok gd hl
  exact ⟨(cont_v0 ft lk).2, priceM_nonneg ft lk⟩
abbrev shopRws (os : List Ofr) : List Rw := rwsM (prowsM os)
def sp_least (T : List Addr) : Sp := fun vs H Q _ => ∃ (a wa : Addr) (os : List Ofr) (ws : List Int), vs = [.ref a, .ref wa] ∧ ShopAt H a os ∧ Good os ∧ Fit os ∧ NN (shopRws os) ∧ Tb T H ∧ H wa = some (LI ws) ∧ ws.length ≤ 4 ∧ Small ws ∧
  (∀ H', Ext T H H' → LeastIs (shopRws os) ws none → Q .non H') ∧
  ∀ H' (t q : Addr) (bls : List AL) (ys : List PR) (p : Int), Ext T H H' → H t = none → H' t = some (.tup [.int p, .ref q]) → PurAt H H' q bls → LeastIs (shopRws os) ws (some p) → (∀ y ∈ ys, y ∈ prowsM os) → CovM (rwsM ys) ws → costM (rwsM ys) = p → (bls.map (·.2)) = (ys.map (·.1)).mergeSort (PySem.W.dataLe false dLine) → (anyI ws = false → ys = []) → PathM (prowsM os) ws ys → Q (.ref t) H'
theorem PurAt.free {H0 H1 H : Hp} {q : Addr} {bls : List AL} (f : ∀ b, H1 b = none → H0 b = none) (h : PurAt H1 H q bls) : PurAt H0 H q bls := by
  obtain ⟨las, h1, h2, h3, h4, h5⟩ := h
  exact ⟨las, h1, h2.imp fun a x h => ⟨h.1, h.2.1, f _ h.2.2.1, f _ h.2.2.2⟩, h3, h4, f _ h5⟩
section
variable {P : Program} {w : World} {K : PySem.W.Frag} {mg : Str → Option Value} {base : Heap} {T : List Addr}
theorem ok_least {f f1 f2 : Addr} {fd fd1 fd2 : FuncData} {k : Nat} (M : Names mg) (D : Def K mg "least" s_least ["shop", "want"] f fd) (D_priced_lines : Def K mg "priced_lines" s_priced_lines ["shop"] f1 fd1) (D_cheapest : Def K mg "cheapest" s_cheapest ["priced", "want"] f2 fd2) (G_priced_lines : FnOk P w K mg base CX0 (k + 1) f1 fd1 ["shop"] (sp_priced_lines T)) (G_cheapest : FnOk P w K mg base CX0 (k + 1) f2 fd2 ["priced", "want"] sp_cheapest) : FnOk P w K mg base CX0 (k + 2) f fd ["shop", "want"] (sp_least T) := by
  refine D.F.ok sc_least (fun vs H Q E h => ?_) (fun cdv A outer s H vs Q E hr h => ?_)
  · obtain ⟨a, wa, os, ws, rfl, _⟩ := h
    rfl
  · obtain ⟨a, wa, os, ws, rfl, hS, gd, fit, nn, hT, hwa, h4, sm, qn, qs⟩ := h
    refine ⟨_, (pss_one (ps_ret (pe_call G_cheapest hr (by rfl) D_cheapest.g D_cheapest.F.kp D_cheapest.b .nil pass0 (pa_cons (pe_call G_priced_lines hr (by rfl) D_priced_lines.g D_priced_lines.F.kp D_priced_lines.b .nil pass0 (pa_cons (pv 0) pa_nil)) (pa_cons (pv 1) pa_nil))))), ?_⟩
    refine ⟨_, rfl, a, os, rfl, hS, gd, fit, hT, fun H1 pa e1 npa hpr => ?_⟩
    obtain ⟨as, hpa, al⟩ := hpr
    refine ⟨_, rfl, pa, wa, ws, as, prowsM os, rfl, hpa, al.imp fun r x h => h.at, e1.lst hwa, h4, sm, nn, fun H2 s2 li => qn H2 (e1.trans (.same s2 e1.t1)) li, fun H2 t q bls ys p s2 nt ht pur li sub cv cost eb hz pth => ?_⟩
    exact qs H2 t q bls ys p (e1.trans (.same s2 e1.t1)) (e1.free _ nt) ht (pur.free e1.free) li sub cv cost eb hz pth
end
/-! ### without, instead -/
abbrev s_without : Stmt := topS 29
abbrev N_without : List Str := ["priced", "place", "row"]
theorem sc_without : FnScope N_without ["priced", "place"] (defScope s_without) := ⟨rfl, rfl, rfl, by decide +kernel, rfl, by decide +kernel, by decide +kernel⟩

abbrev s_instead : Stmt := topS 30
abbrev N_instead : List Str := ["shop", "priced", "place", "found"]
theorem sc_instead : FnScope N_instead ["shop", "priced", "place"] (defScope s_instead) := ⟨rfl, rfl, rfl, by decide +kernel, rfl, by decide +kernel, by decide +kernel⟩

/-- the rows of another place -/
def offP (p : Nat) (xs : List PR) : List PR := xs.filter fun x => !decide (x.1.p = (p : Int))
theorem offP_mem {p : Nat} {xs : List PR} {y : PR} (h : y ∈ offP p xs) : y ∈ xs := (List.mem_filter.mp h).1
def sp_without : Sp := fun vs H Q _ => ∃ (pa : Addr) (p : Nat) (as : List Addr) (xs : List PR), vs = [.ref pa, .int p] ∧ H pa = some (.lst (as.map V.ref)) ∧ Al (PRowAt H) as xs ∧ xs.length ≤ 2048 ∧
  ∀ H' q (bs : List Addr), Same H H' → H q = none → H' q = some (.lst (bs.map V.ref)) → Al (PRowAt H') bs (offP p xs) → Q (.ref q) H'
/-- the offer at i is a pack that stands alone, and the others cover it for g -/
def SpareM (os : List Ofr) (i : Nat) (g : Int) : Prop := ∃ c p, os[i]? = some (.pack c p) ∧ addsM os i = [] ∧ LeastIs (rwsM (offP i (prowsM os))) c (some g) ∧ g ≤ p
def sp_instead : Sp := fun vs H Q _ => ∃ (S pa : Addr) (i m : Nat) (os : List Ofr) (as : List Addr), vs = [.ref S, .ref pa, .int i] ∧ ShopAt H S os ∧ Good os ∧ FitS m os ∧ m ≤ 4 ∧ i < os.length ∧ H pa = some (.lst (as.map V.ref)) ∧ Al (PRowAt H) as (prowsM os) ∧
  (∀ H', Same H H' → (∀ g, ¬ SpareM os i g) → Q .non H') ∧
  ∀ H' (q : Addr) (bls : List AL) (ys : List PR) (c : List Int) (p : Int), Same H H' → PurAt H H' q bls → os[i]? = some (.pack c p) → SpareM os i (costM (rwsM ys)) → (∀ y ∈ ys, y ∈ offP i (prowsM os)) → CovM (rwsM ys) c → (bls.map (·.2)) = (ys.map (·.1)).mergeSort (PySem.W.dataLe false dLine) → PathM (offP i (prowsM os)) c ys → Q (.ref q) H'
section
variable {P : Program} {w : World} {K : PySem.W.Frag} {mg : Str → Option Value} {base : Heap} {T : List Addr}
theorem ok_without {f : Addr} {fd : FuncData} {k : Nat} (M : Names mg) (D : Def K mg "without" s_without ["priced", "place"] f fd) : FnOk P w K mg base CX0 (k + 1) f fd ["priced", "place"] sp_without := by
  refine D.F.ok sc_without (fun vs H Q E h => ?_) (fun cdv A outer s H vs Q E hr h => ?_)
  · obtain ⟨pa, p, as, xs, rfl, _⟩ := h
    rfl
  · obtain ⟨pa, p, as, xs, rfl, hpa, al, hl, q⟩ := h
    have lal := al.len
    refine ⟨_, (pss_one (ps_ret (pe_lc (own := [("row", 2)]) (by rfl) sc_without.nd (pi_list (pv 0)) (blkOk_by (own := [("row", 2)]) (N := N_without) (sc := defScope s_without) (by decide +kernel)) (fun _ _ _ _ _ => (pg_name (i := 2) sc_without.nd rfl (Or.inl rfl))) (fun _ _ _ _ _ => (pts_one (pt_cmpR op_ne (pe_ix (ix_tupK (K := K) rfl) (pe_ix (ix_tupK (K := K) rfl) (pv 2) pe_int (fun _ _ => rfl)) pe_int (fun _ _ => rfl)) (pv 1) (nomark _)))) (fun _ _ _ _ _ => (pv 2))))), ?_⟩
    refine ⟨_, rfl, pa, rfl, ⟨_, SqL.of hpa⟩, fun B nB => lc_list (K := K) (xs := as.map V.ref) (fun i H' => Same H H' ∧ ∃ bs : List Addr, H' B = some (.lst (bs.map V.ref)) ∧ bs.length ≤ i ∧ Al (PRowAt H) bs (offP p (xs.take i))) ⟨same_upd nB, [], upd_same, Nat.le_refl _, True.intro⟩ (fun i H' _ hp => SqL.of (hp.1 _ _ hpa)) (fun i x H1 hx hp => ?_) (fun H1 hp => ?_)⟩
    · obtain ⟨s1, bs, hB, lb, alB⟩ := hp
      rw [List.getElem?_map] at hx
      cases hu : as[i]? with
      | none => rw [hu] at hx; cases hx
      | some u =>
        rw [hu] at hx
        cases Option.some.inj hx
        have hi := (List.getElem?_eq_some_iff.mp hu).1
        obtain ⟨x, hxi, hr0⟩ := al.get hu
        obtain ⟨la, ca, h1, ⟨lb', h2, h3⟩, h4⟩ := id hr0
        have etk : xs.take (i + 1) = xs.take i ++ [x] := take_succ_at hxi
        refine ⟨rfl, _, rfl, u, _, _, _, rfl, rfl, SqT.of (s1 _ _ h1), atI_nat (j := 0) rfl, la, _, _, _, rfl, rfl, SqT.of (s1 _ _ h2), atI_nat (j := 0) rfl, _, rfl, rfl, ?_⟩
        by_cases e : x.1.p = (p : Int)
        · refine ⟨false, (by show V.bl (!decide (V.int x.1.p = V.int (p : Int))) = _; rw [decide_eq_true (by rw [e])]; rfl), s1, bs, hB, by omega, ?_⟩
          have e2 : offP p (xs.take (i + 1)) = offP p (xs.take i) := by
            unfold offP
            rw [etk, List.filter_append, List.filter_cons, decide_eq_true e]
            simp
          rw [e2]
          exact alB
        · refine ⟨true, (by show V.bl (!decide (V.int x.1.p = V.int (p : Int))) = _; rw [decide_eq_false (fun z => e (V.int.inj z))]; rfl), _, rfl, _, hB, szL' (by rw [List.length_map]; omega), sm_new s1 nB, bs ++ [u], ?_, by rw [List.length_append, List.length_singleton]; omega, ?_⟩
          · rw [upd_same, List.map_append]
            rfl
          · have e2 : offP p (xs.take (i + 1)) = offP p (xs.take i) ++ [x] := by
              unfold offP
              rw [etk, List.filter_append, List.filter_cons, decide_eq_false e]
              simp
            rw [e2]
            exact Al.app alB (.one hr0)
    · obtain ⟨s1, bs, hB, lb, alB⟩ := hp
      rw [List.length_map, lal, List.take_length] at alB
      exact q H1 B bs s1 nB hB (alB.imp fun a x h => h.ke (.of s1))
end
section
variable {P : Program} {w : World} {K : PySem.W.Frag} {mg : Str → Option Value} {base : Heap} {T : List Addr}
theorem nn_off {os : List Ofr} {i : Nat} (h : NN (rwsM (prowsM os))) : NN (rwsM (offP i (prowsM os))) := fun r hr => by
  obtain ⟨y, hy, rfl⟩ := List.mem_map.mp hr
  exact h _ (List.mem_map.mpr ⟨y, offP_mem hy, rfl⟩)
theorem ok_instead {f f1 f2 f3 : Addr} {fd fd1 fd2 fd3 : FuncData} {k : Nat} (M : Names mg) (D : Def K mg "instead" s_instead ["shop", "priced", "place"] f fd) (D_adds_to : Def K mg "adds_to" s_adds_to ["shop", "place"] f1 fd1) (D_cheapest : Def K mg "cheapest" s_cheapest ["priced", "want"] f2 fd2) (D_without : Def K mg "without" s_without ["priced", "place"] f3 fd3)
    (G_cheapest : FnOk P w K mg base CX0 (k + 1) f2 fd2 ["priced", "want"] sp_cheapest) : FnOk P w K mg base CX0 (k + 2) f fd ["shop", "priced", "place"] sp_instead := by
  have G_adds_to : FnOk P w K mg base CX0 (k + 1) f1 fd1 ["shop", "place"] sp_adds_to := ok_adds_to M D_adds_to
  have G_without : FnOk P w K mg base CX0 (k + 1) f3 fd3 ["priced", "place"] sp_without := ok_without M D_without
  refine D.F.ok sc_instead (fun vs H Q E h => ?_) (fun cdv A outer s H vs Q E hr h => ?_)
  · obtain ⟨S, pa, i, m, os, as, rfl, _⟩ := h
    rfl
  · obtain ⟨S, pa, i, m, os, as, rfl, hS, gd, ft, hm, hi, hpa, al, qn, qs⟩ := h
    obtain ⟨us, hSl, alu⟩ := hS.al
    have lu := alu.len
    have gi : us[i]? = some (us[i]'(by omega)) := List.getElem?_eq_getElem (by omega)
    have gv : (us.map V.ref)[i]? = some (.ref (us[i]'(by omega))) := by rw [List.getElem?_map, gi]; rfl
    obtain ⟨o, ho, hov⟩ := alu.get gi
    refine ⟨_, (pss_cutI (ps_if (PW.pt (pw_or (pt_cmpR op_ne (pe_ix ix_tup (pe_ix ix_list (pv 0) (pv 2) (fun _ _ => rfl)) pe_int (fun _ _ => rfl)) pe_str (nomark _)) (pw_or1 (pt_truth (pe_call G_adds_to hr (by rfl) D_adds_to.g D_adds_to.F.kp D_adds_to.b .nil pass0 (pa_cons (pv 0) (pa_cons (pv 2) pa_nil))) (by intro _; rfl)))))
   (pss_one (ps_ret pe_non))
   pss_nil)
  (pss_cons (ps_set (i := 3) sc_instead.nd rfl (Or.inl rfl) (pe_call G_cheapest hr (by rfl) D_cheapest.g D_cheapest.F.kp D_cheapest.b .nil pass0 (pa_cons (pe_call G_without hr (by rfl) D_without.g D_without.F.kp D_without.b .nil pass0 (pa_cons (pv 1) (pa_cons (pv 2) pa_nil))) (pa_cons (pe_ix ix_tup (pe_ix ix_list (pv 0) (pv 2) (fun _ _ => rfl)) pe_int (fun _ _ => rfl)) pa_nil))))
  (pss_cutI (ps_if (PW.pt (pw_or (pt_cmpR op_isN (pv 3) pe_non (nomark _)) (pw_or1 (pt_cmpR op_gt (pe_ix ix_tup (pv 3) pe_int (fun _ _ => rfl)) (pe_ix ix_tup (pe_ix ix_list (pv 0) (pv 2) (fun _ _ => rfl)) pe_int (fun _ _ => rfl)) (nomark _)))))
   (pss_one (ps_ret pe_non))
   pss_nil)
  (pss_one (ps_ret (pe_ix ix_tup (pv 3) pe_int (fun _ _ => rfl))))))), ?_⟩
    refine ⟨fun σ' H' => ∃ c p, o = .pack c p ∧ addsM os i = [] ∧ σ' = [some (.ref S), some (.ref pa), some (.int i), none] ∧ Same H H', ?_, fun σ1 H1 hI => ?_⟩
    · obtain ⟨b, r, h1, h2⟩ := hov.head
      refine ⟨_, rfl, _, rfl, S, _, _, _, rfl, rfl, SqL.of hSl, atI_nat gv, us[i], _, _, _, rfl, rfl, SqT.of h1, atI_nat (j := 0) rfl, rfl, ?_⟩
      match o, ho, hov with
      | .many c ts, ho, _ =>
        refine ⟨true, rfl, qn H (fun _ _ e => e) fun g hg => ?_⟩
        obtain ⟨c', p', h, _⟩ := hg
        rw [ho] at h
        cases h
      | .add c p kk, ho, _ =>
        refine ⟨true, rfl, qn H (fun _ _ e => e) fun g hg => ?_⟩
        obtain ⟨c', p', h, _⟩ := hg
        rw [ho] at h
        cases h
      | .pack c p, ho, _ =>
        refine ⟨false, rfl, _, rfl, _, rfl, S, os, i, rfl, hS, gd.1, fun H1 q1 s1 nq1 hq1 => ?_⟩
        cases z : addsM os i with
        | nil =>
          rw [z] at hq1
          exact ⟨false, .inl ⟨_, SqL.of hq1, rfl⟩, c, p, rfl, rfl, rfl, s1⟩
        | cons x y =>
          rw [z] at hq1
          refine ⟨true, .inl ⟨_, SqL.of hq1, rfl⟩, qn H1 s1 fun g hg => ?_⟩
          obtain ⟨c', p', h, h2, _⟩ := hg
          rw [z] at h2
          cases h2
    · obtain ⟨c, p, rfl, hz, rfl, s1⟩ := hI
      obtain ⟨b, h1, h2⟩ := hov
      have lpr : (prowsM os).length ≤ 2048 := by
        have := linesN_len gd.1 os.length
        have h8 := gd.1
        unfold prowsM linesM
        rw [List.length_map]
        omega
      have fo := ft _ (List.mem_of_getElem? ho)
      have nn := nn_off (i := i) (rws_nn gd ft)
      refine ⟨_, rfl, _, rfl, pa, i, as, prowsM os, rfl, s1 _ _ hpa, al.imp fun a x h => h.ke (.of s1), lpr, fun H2 q2 bs s2 nq2 hq2 alb => ?_⟩
      have s12 := s1.trans s2
      refine ⟨_, rfl, _, rfl, S, _, _, _, rfl, rfl, SqL.of (s12 _ _ hSl), atI_nat gv, us[i], _, _, _, rfl, rfl, SqT.of (s12 _ _ h1), atI_nat (j := 1) rfl, q2, b, c, bs, offP i (prowsM os), rfl, hq2, alb, s12 _ _ h2, by rw [fo.1]; exact hm, fo.2.1, nn, fun H3 s3 li => ?_, fun H3 t q bls ys g s3 nt ht pur li sub cv cost eb hz0 pth => ?_⟩
      · refine ⟨fun _ _ => False, ?_, fun _ _ z => z.elim⟩
        refine ⟨_, rfl, rfl, true, rfl, ?_⟩
        refine qn H3 (s12.trans s3) fun g hg => ?_
        obtain ⟨c', p', h, _, li', _⟩ := hg
        cases Option.some.inj (ho.symm.trans h)
        exact absurd (leastIs_unique li li') (fun z => nomatch z)
      · have s13 := s12.trans s3
        refine ⟨fun σ' H' => g ≤ p ∧ σ' = [some (.ref S), some (.ref pa), some (.int i), some (.ref t)] ∧ H' = H3, ?_, fun σ4 H4 hI => ?_⟩
        · refine ⟨_, rfl, rfl, false, rfl, ?_⟩
          refine ⟨_, rfl, t, _, _, _, rfl, rfl, SqT.of ht, atI_nat (j := 0) rfl, _, rfl, _, rfl, S, _, _, _, rfl, rfl, SqL.of (s13 _ _ hSl), atI_nat gv, us[i], _, _, _, rfl, rfl, SqT.of (s13 _ _ h1), atI_nat (j := 2) rfl, _, _, rfl, rfl, ?_⟩
          by_cases e : g > p
          · refine ⟨true, (by show V.bl (decide (g > p)) = _; rw [decide_eq_true e]), qn H3 s13 fun g' hg => ?_⟩
            obtain ⟨c', p', h, _, li', le⟩ := hg
            cases Option.some.inj (ho.symm.trans h)
            have := Option.some.inj (leastIs_unique li li')
            omega
          · exact ⟨false, (by show V.bl (decide (g > p)) = _; rw [decide_eq_false e]), by omega, rfl, rfl⟩
        obtain ⟨le, rfl, rfl⟩ := hI
        refine ⟨_, rfl, t, _, _, _, rfl, rfl, SqT.of ht, atI_nat (j := 1) rfl, ?_⟩
        exact qs _ q bls ys c p s13 (pur.free fun b hb => s12.free hb) ho ⟨c, p, ho, hz, by rw [cost]; exact li, by rw [cost]; exact le⟩ sub cv eb pth
end
/-! ### spared -/
abbrev s_spared : Stmt := topS 31
abbrev N_spared : List Str := ["shop", "priced", "told", "place", "purchase"]
theorem sc_spared : FnScope N_spared ["shop"] (defScope s_spared) := ⟨rfl, rfl, rfl, by decide +kernel, rfl, by decide +kernel, by decide +kernel⟩

structure SpE where
  i : Nat
  q : Addr
  bls : List AL
  ys : List PR
def SpE.all (e : SpE) : List Addr := e.q :: e.bls.map (·.1)
structure SpOk (os : List Ofr) (e : SpE) : Prop where
  sp : SpareM os e.i (costM (rwsM e.ys))
  sub : ∀ y ∈ e.ys, y ∈ offP e.i (prowsM os)
  cov : ∀ c p, os[e.i]? = some (.pack c p) → CovM (rwsM e.ys) c ∧ PathM (offP e.i (prowsM os)) c e.ys
  eb : e.bls.map (·.2) = (e.ys.map (·.1)).mergeSort (PySem.W.dataLe false dLine)
def TellAt (H0 H : Hp) (r : Addr) (e : SpE) : Prop := H r = some (.tup [.int e.i, .ref e.q]) ∧ PurAt H0 H e.q e.bls ∧ H0 r = none
theorem PurAt.ke {H0 H H' : Hp} (k : Ke H H') {q : Addr} {bls : List AL} (h : PurAt H0 H q bls) : PurAt H0 H' q bls := by
  obtain ⟨las, h1, h2, h3, h4, h5⟩ := h
  exact ⟨las, k.lst h1, h2.imp fun a x h => h.ke k, h3, h4, h5⟩
theorem PurAt.cut {H0 H : Hp} {d q : Addr} {bls : List AL} (hd : H0 d ≠ none) (h : PurAt H0 H q bls) : PurAt H0 (cutH d H) q bls := by
  obtain ⟨las, h1, h2, h3, h4, h5⟩ := h
  have ne : ∀ {x}, H0 x = none → x ≠ d := fun {x} h z => hd (by rw [← z]; exact h)
  exact ⟨las, cut_put (ne h5) h1, h2.imp fun a x h => ⟨cut_put (ne h.2.2.1) h.1, cut_put (ne h.2.2.2) h.2.1, h.2.2⟩, h3, h4, h5⟩
theorem al_back {α : Type} {R : Addr → α → Prop} : ∀ {as : List Addr} {xs : List α}, Al R as xs → ∀ x ∈ xs, ∃ a, R a x
  | [], [], _, _, h => nomatch h
  | [], _ :: _, h, _, _ => h.elim
  | _ :: _, [], h, _, _ => h.elim
  | a :: _, y :: _, h, x, hx => by
    rcases List.mem_cons.mp hx with rfl | hx
    · exact ⟨a, h.1⟩
    · exact al_back h.2 x hx
theorem PurAt.all {H0 H : Hp} {q : Addr} {bls : List AL} (h : PurAt H0 H q bls) : (q :: bls.map (·.1)).Nodup ∧ ∀ b ∈ q :: bls.map (·.1), H0 b = none ∧ ∃ xs, H b = some (.lst xs) := by
  obtain ⟨las, h1, h2, h3, h4, h5⟩ := h
  refine ⟨List.nodup_cons.mpr ⟨h4, h3⟩, fun b hb => ?_⟩
  rcases List.mem_cons.mp hb with rfl | hb
  · exact ⟨h5, _, h1⟩
  · obtain ⟨x, hx, rfl⟩ := List.mem_map.mp hb
    obtain ⟨a, ha⟩ := al_back h2 x hx
    exact ⟨ha.2.2.2, _, ha.2.1⟩
open Classical in
/-- the places of the spared packs below n -/
noncomputable def sparesM (os : List Ofr) (n : Nat) : List Nat := (List.range n).filter fun i => decide (∃ g, SpareM os i g)
open Classical in
theorem spares_yes {os : List Ofr} {n : Nat} {g : Int} (h : SpareM os n g) : sparesM os (n + 1) = sparesM os n ++ [n] := by
  unfold sparesM
  rw [List.range_succ, List.filter_append, List.filter_cons, decide_eq_true ⟨g, h⟩]
  rfl
open Classical in
theorem spares_no {os : List Ofr} {n : Nat} (h : ∀ g, ¬ SpareM os n g) : sparesM os (n + 1) = sparesM os n := by
  unfold sparesM
  rw [List.range_succ, List.filter_append, List.filter_cons, decide_eq_false (fun ⟨g, z⟩ => h g z)]
  simp
/-- what spared tells -/
structure SpAt (os : List Ofr) (n : Nat) (H0 H : Hp) (rs : List Addr) (es : List SpE) : Prop where
  al : Al (TellAt H0 H) rs es
  ok : ∀ e ∈ es, SpOk os e
  nd : (es.flatMap SpE.all).Nodup
  pl : es.map (·.i) = sparesM os n
def sp_spared (T : List Addr) : Sp := fun vs H Q _ => ∃ (S : Addr) (os : List Ofr) (m : Nat), vs = [.ref S] ∧ ShopAt H S os ∧ Good os ∧ FitS m os ∧ m ≤ 4 ∧ Tb T H ∧
  ∀ H' (q : Addr) (rs : List Addr) (es : List SpE), Ext T H H' → H q = none → H' q = some (.lst (rs.map V.ref)) → q ∉ es.flatMap SpE.all → SpAt os os.length H H' rs es → Q (.ref q) H'
section
variable {P : Program} {w : World} {K : PySem.W.Frag} {mg : Str → Option Value} {base : Heap} {T : List Addr}
theorem ok_spared {f f1 f2 : Addr} {fd fd1 fd2 : FuncData} {k : Nat} (M : Names mg) (D : Def K mg "spared" s_spared ["shop"] f fd) (D_priced_lines : Def K mg "priced_lines" s_priced_lines ["shop"] f1 fd1) (D_instead : Def K mg "instead" s_instead ["shop", "priced", "place"] f2 fd2)
    (G_priced_lines : FnOk P w K mg base CX0 (k + 1) f1 fd1 ["shop"] (sp_priced_lines T)) (G_instead : FnOk P w K mg base CX0 (k + 1) f2 fd2 ["shop", "priced", "place"] sp_instead) : FnOk P w K mg base CX0 (k + 2) f fd ["shop"] (sp_spared T) := by
  refine D.F.ok sc_spared (fun vs H Q E h => ?_) (fun cdv A outer s H vs Q E hr h => ?_)
  · obtain ⟨S, os, m, rfl, _⟩ := h
    rfl
  · obtain ⟨S, os, m, rfl, hS, gd, ft, hm, hT, q⟩ := h
    refine ⟨_, (pss_cons (ps_set (i := 1) sc_spared.nd rfl (Or.inl rfl) (pe_call G_priced_lines hr (by rfl) D_priced_lines.g D_priced_lines.F.kp D_priced_lines.b .nil pass0 (pa_cons (pv 0) pa_nil)))
  (pss_cons (ps_set (i := 2) sc_spared.nd rfl (Or.inl rfl) (pe_lst pa_nil))
  (pss_cons (ps_for PassesOwn.never rfl (pi_range1 (by rfl) M.range (pa_cons (pe_callB call_len_seq (by rfl) M.len (by decide +kernel) (pa_cons (pv 0) pa_nil)) pa_nil)) (pg_name (i := 3) sc_spared.nd rfl (Or.inl rfl))
   (pss_cons (ps_set (i := 4) sc_spared.nd rfl (Or.inl rfl) (pe_call G_instead hr (by rfl) D_instead.g D_instead.F.kp D_instead.b .nil pass0 (pa_cons (pv 0) (pa_cons (pv 1) (pa_cons (pv 3) pa_nil)))))
  (pss_one (ps_if (pt_cmpR op_notN (pv 4) pe_non (nomark _))
   (pss_one (ps_expr (pe_bm PySem.F.plainAttrs_list PySem.F.slot_list_append PySem.F.type_list_append mt_append (pv 2) (pa_cons (pe_tup (pa_cons (pv 3) (pa_cons (pv 4) pa_nil))) pa_nil))))
   pss_nil))))
  (pss_one (ps_ret (pv 2)))))), ?_⟩
    refine ⟨_, rfl, S, os, rfl, hS, gd, ft.fit hm, hT, fun H1 pa e1 npa hpr => ?_⟩
    obtain ⟨as, hpa, al⟩ := hpr
    have hS1 := hS.ext e1
    have alA : Al (PRowAt H1) as (prowsM os) := al.imp fun r x h => h.at
    obtain ⟨us, hSl, alu⟩ := id hS1.al
    have lu := alu.len
    have h8 := gd.1
    refine ⟨Nat.zero_le _, fun B nB => ?_⟩
    have sB := same_upd (o := .lst []) nB
    have hB0 : upd H1 B (.lst []) B = some (.lst []) := upd_same
    generalize upd H1 B (.lst []) = H2 at sB hB0 ⊢
    refine ⟨_, rfl, S, _, rfl, .inl (SqL.of (sB _ _ hSl)), _, rfl, by rw [List.length_map]; omega, by rw [List.length_map]; omega, for_range (lo := 0) (n := ((us.map V.ref).length : Int).toNat) (fun i σ H' => ∃ (y3 y4 : Option V) (rs : List Addr) (es : List SpE), σ = [some (.ref S), some (.ref pa), some (.ref B), y3, y4] ∧ Same H1 H' ∧ H' B = some (.lst (rs.map V.ref)) ∧ es.length ≤ i ∧ SpAt os i H1 (cutH B H') rs es) ⟨none, none, [], [], rfl, sB, hB0, Nat.le_refl _, True.intro, (fun e he => nomatch he), List.nodup_nil, rfl⟩ (fun i σ H3 hi hp => ?_) (fun σ H3 hp => ?_)⟩
    · obtain ⟨y3, y4, rs, es, rfl, s3, hB3, le, X⟩ := hp
      rw [Int.toNat_natCast, List.length_map] at hi
      have lrs := X.al.len
      refine ⟨_, rfl, _, rfl, _, rfl, S, pa, i, m, os, as, (by rw [Int.zero_add]; rfl), hS1.same s3, gd, ft, hm, by omega, s3 _ _ hpa, alA.imp fun a x h => h.ke (.of s3), fun H4 s4 no => ?_, fun H4 q4 bls ys c p s4 pur ho sp sub cv eb pth => ?_⟩
      · refine ⟨_, rfl, rfl, false, rfl, _, _, rs, es, rfl, s3.trans s4, s4 _ _ hB3, by omega, X.al.imp fun a x h => ⟨cut_mono s4 _ _ h.1, h.2.1.ke (.of (cut_mono s4)), h.2.2⟩, X.ok, X.nd, by rw [X.pl, spares_no no]⟩
      · have hBn : H3 B ≠ none := by rw [hB3]; exact fun z => nomatch z
        obtain ⟨nd4, all4⟩ := pur.all
        refine ⟨_, rfl, rfl, true, rfl, ?_⟩
        refine ⟨_, rfl, .inl ⟨rfl, _, SqL.of (s4 _ _ hB3)⟩, _, rfl, _, rfl, by show 2 ≤ sizeLine; decide, fun r nr => ?_⟩
        have sr := same_upd (o := .tup [.int (0 + (i : Nat)), .ref q4]) nr
        have s34 := s4.trans sr
        have nrB : r ≠ B := (ne_of_none (s4 _ _ hB3) nr).symm
        refine ⟨B, _, _, rfl, rfl, s34 _ _ hB3, szL' (by rw [List.length_map]; omega), _, _, rs ++ [r], es ++ [⟨i, q4, bls, ys⟩], rfl, sm_new (s3.trans s34) nB, ?_, by rw [List.length_append, List.length_singleton]; omega, ?_, fun e he => ?_, ?_, ?_⟩
        · rw [upd_same, List.map_append]
          rfl
        · rw [cut_off]
          refine Al.app (X.al.imp fun a x h => ⟨cut_mono s34 _ _ h.1, h.2.1.ke (.of (cut_mono s34)), h.2.2⟩) (.one ⟨?_, ?_, ?_⟩)
          · rw [cut_at nrB, upd_same, Int.zero_add]
          · exact ((pur.ke (.of sr)).cut hBn).free fun b hb => s3.free hb
          · exact s3.free (s4.free nr)
        · rcases List.mem_append.mp he with z | z
          · exact X.ok e z
          · rw [List.mem_singleton.mp z]
            refine ⟨sp, sub, fun c' p' h => ?_, eb⟩
            cases Option.some.inj (ho.symm.trans h)
            exact ⟨cv, pth⟩
        · rw [List.flatMap_append, List.flatMap_singleton]
          refine List.nodup_append.mpr ⟨X.nd, nd4, fun a ha b hb e => ?_⟩
          subst e
          obtain ⟨e, he, hb'⟩ := List.mem_flatMap.mp ha
          obtain ⟨r', hr'⟩ := al_back X.al e he
          obtain ⟨xs, hx⟩ := (hr'.2.1.all.2 a hb').2
          have h1 := (cut_some hx).2
          rw [(all4 a hb).1] at h1
          cases h1
        · rw [List.map_append, X.pl, spares_yes sp]
          rfl
    · obtain ⟨y3, y4, rs, es, rfl, s3, hB3, le, X⟩ := hp
      rw [Int.toNat_natCast, List.length_map, lu] at X
      refine ⟨_, rfl, q H3 B rs es (e1.trans (.same s3 e1.t1)) (e1.free _ nB) hB3 (fun z => ?_) ⟨X.al.imp fun a x h => ⟨(cut_some h.1).2, (h.2.1.ke (.of cut_le)).free e1.free, e1.free _ h.2.2⟩, X.ok, X.nd, X.pl⟩⟩
      obtain ⟨e, he, hb⟩ := List.mem_flatMap.mp z
      obtain ⟨r, hr⟩ := al_back X.al e he
      obtain ⟨xs, hx⟩ := (hr.2.1.all.2 B hb).2
      exact (cut_some hx).1 rfl
end
/-! ### a row that the others replace -/
theorem repl_rows {R R' : List Rw} {c : List Int} {p : Int} {m : Nat} {zs : List Rw} (nn : NN R') (only : ∀ r ∈ R, r ∈ R' ∨ r = (c, p)) (hc : c.length = m) (sz : SubM zs R') (cz : CovM zs c) (pz : costM zs ≤ p) :
    ∀ q : List Rw, SubM q R → ∃ q', SubM q' R' ∧ costM q' ≤ costM q ∧ ∀ i, i < m → sumC q i ≤ sumC q' i
  | [], _ => ⟨[], (fun r h => nomatch h), Int.le_refl _, fun i _ => Int.le_refl _⟩
  | r :: q, h => by
    obtain ⟨q', s1, s2, s3⟩ := repl_rows nn only hc sz cz pz q fun x hx => h x (List.mem_cons_of_mem _ hx)
    have ec : costM (r :: q) = r.2 + costM q := by
      unfold costM
      rw [List.map_cons, List.sum_cons]
    rcases only r (h r List.mem_cons_self) with z | z
    · refine ⟨r :: q', fun x hx => ?_, ?_, fun i hi => ?_⟩
      · rcases List.mem_cons.mp hx with rfl | hx
        · exact z
        · exact s1 x hx
      · rw [ec, show costM (r :: q') = r.2 + costM q' by unfold costM; rw [List.map_cons, List.sum_cons]]
        omega
      · rw [sumC_cons, sumC_cons]
        have := s3 i hi
        omega
    · subst z
      refine ⟨zs ++ q', fun x hx => ?_, ?_, fun i hi => ?_⟩
      · rcases List.mem_append.mp hx with hx | hx
        · exact sz x hx
        · exact s1 x hx
      · rw [ec, costM_app]
        show _ ≤ p + _
        omega
      · rw [sumC_cons, sumC_app]
        have h1 := s3 i hi
        have h2 := cz i (hadM c i) (hadM_in (by omega))
        show hadM c i + _ ≤ _
        omega
/-- the least price of every want stays when such a row is left out -/
theorem least_repl {R R' : List Rw} {c w : List Int} {p : Int} {m : Nat} {zs : List Rw} (nn : NN R') (sub : SubM R' R) (only : ∀ r ∈ R, r ∈ R' ∨ r = (c, p)) (hc : c.length = m) (hw : w.length ≤ m) (sz : SubM zs R') (cz : CovM zs c) (pz : costM zs ≤ p) : ∀ {o : Option Int}, LeastIs R w o → LeastIs R' w o := by
  have cov : ∀ {q q' : List Rw}, (∀ i, i < m → sumC q i ≤ sumC q' i) → CovM q w → CovM q' w := fun {q q'} h k i n hn => by
    have h1 := k i n hn
    have h2 := h i (by have := (List.getElem?_eq_some_iff.mp hn).1; omega)
    omega
  intro o h
  cases o with
  | none => exact fun q hq hcov => h q (fun r hr => sub r (hq r hr)) hcov
  | some g =>
    obtain ⟨⟨q, h1, h2, h3⟩, h4⟩ := h
    obtain ⟨q', s1, s2, s3⟩ := repl_rows nn only hc sz cz pz q h1
    refine ⟨⟨q', s1, cov s3 h2, ?_⟩, fun q2 k1 k2 => h4 q2 (fun r hr => sub r (k1 r hr)) k2⟩
    have := h4 q' (fun r hr => sub r (s1 r hr)) (cov s3 h2)
    omega
/-- and none as cheap as that is left with the row where the others cost more than it -/
theorem least_self {R : List Rw} {c : List Int} {p : Int} (h : (c, p) ∈ R) (c0 : ∀ x ∈ c, 0 ≤ x) {o : Option Int} (li : LeastIs R c o) : ∃ g, o = some g ∧ g ≤ p := by
  have cv : CovM [(c, p)] c := fun i n hn => by
    rw [sumC_cons]
    have h1 := hadM_in (cs := c) (i := i) (List.getElem?_eq_some_iff.mp hn).1
    have h2 := Option.some.inj (h1.symm.trans hn)
    show n ≤ hadM c i + 0
    omega
  have sb : SubM [(c, p)] R := fun r hr => by
    rw [List.mem_singleton.mp hr]
    exact h
  cases o with
  | none => exact absurd cv (li _ sb)
  | some g =>
    refine ⟨g, rfl, ?_⟩
    have := li.2 _ sb cv
    have e : costM [(c, p)] = p := by
      show p + 0 = p
      omega
    omega
/-! ### the one row of a pack that stands alone -/
theorem alone_row {os : List Ofr} {i : Nat} {c : List Int} {p : Int} (ho : os[i]? = some (.pack c p)) (hz : addsM os i = []) : linesAtM os i = [⟨i, 1, []⟩] := by
  unfold linesAtM
  rw [ho]
  show (choicesM (addsM os i)).map _ = _
  rw [hz]
  rfl
theorem alone_val {os : List Ofr} {i : Nat} {c : List Int} {p : Int} (ho : os[i]? = some (.pack c p)) : (prowM os ⟨i, 1, []⟩).2 = (c, p) := by
  have h1 : contM os ⟨i, 1, []⟩ = c := by
    unfold contM
    show ((contAt os (i : Int)).map ((1 : Int) * ·)) = c
    rw [contAt_get ho]
    show c.map ((1 : Int) * ·) = c
    conv => rhs; rw [← List.map_id c]
    exact List.map_congr_left fun x _ => Int.one_mul x
  have h2 : priceM os ⟨i, 1, []⟩ = p := by
    unfold priceM
    show (match os[((i : Nat) : Int).toNat]? with
      | some (.many _ ts) => _
      | some (.pack _ p) => p + (([] : List Int).map (addPr os)).sum
      | _ => 0) = p
    rw [Int.toNat_natCast, ho]
    show p + 0 = p
    omega
  show (contM os ⟨i, 1, []⟩, priceM os ⟨i, 1, []⟩) = _
  rw [h1, h2]
theorem only_row {os : List Ofr} {i : Nat} {c : List Int} {p : Int} (ho : os[i]? = some (.pack c p)) (hz : addsM os i = []) : ∀ r ∈ shopRws os, r ∈ rwsM (offP i (prowsM os)) ∨ r = (c, p) := fun r hr => by
  obtain ⟨y, hy, rfl⟩ := List.mem_map.mp hr
  by_cases e : y.1.p = (i : Int)
  · obtain ⟨l, hl, rfl⟩ := List.mem_map.mp hy
    have hi := (List.getElem?_eq_some_iff.mp ho).1
    have hm : l ∈ (linesM os).filter (fun l => decide (l.p = (i : Int))) := List.mem_filter.mpr ⟨hl, decide_eq_true e⟩
    rw [lines_filter hi, alone_row ho hz] at hm
    rw [List.mem_singleton.mp hm]
    exact .inr (alone_val ho)
  · exact .inl (List.mem_map.mpr ⟨y, List.mem_filter.mpr ⟨hy, by rw [decide_eq_false e]; rfl⟩, rfl⟩)
theorem off_sub {os : List Ofr} {i : Nat} : SubM (rwsM (offP i (prowsM os))) (shopRws os) := fun r hr => by
  obtain ⟨y, hy, rfl⟩ := List.mem_map.mp hr
  exact List.mem_map.mpr ⟨y, offP_mem hy, rfl⟩
/-- a spared pack can be left out: the least price of every want stays -/
theorem spare_same {os : List Ofr} {i m : Nat} {g : Int} (gd : Good os) (ft : FitS m os) (h : SpareM os i g) {w : List Int} (hw : w.length ≤ m) {o : Option Int} (li : LeastIs (shopRws os) w o) : LeastIs (rwsM (offP i (prowsM os))) w o := by
  obtain ⟨c, p, ho, hz, ⟨⟨zs, z1, z2, z3⟩, _⟩, le⟩ := h
  have fo := ft _ (List.mem_of_getElem? ho)
  exact least_repl (nn_off (rws_nn gd ft)) off_sub (only_row ho hz) fo.1 hw z1 z2 (by rw [z3]; exact le) li
/-! ### _law_without -/
abbrev s_law_without : Stmt := topS 49
abbrev N_law_without : List Str := ["_law_shop", "_law_place", "_law_found", "_law_k", "_law_offer"]
theorem sc_law_without : FnScope N_law_without ["_law_shop", "_law_place"] (defScope s_law_without) := ⟨rfl, rfl, rfl, by decide +kernel, rfl, by decide +kernel, by decide +kernel⟩

/-- an offer's place among the others once place i is gone -/
def shiftO (i : Nat) : Ofr → Ofr
  | .add c p k => .add c p (k - if k > (i : Int) then 1 else 0)
  | o => o
def outN (os : List Ofr) (i n : Nat) : List Ofr := (List.range n).flatMap fun k => if k = i then [] else match os[k]? with
  | some o => [shiftO i o]
  | none => []
theorem outN_at {os : List Ofr} {i : Nat} : outN os i (i + 1) = outN os i i := by
  unfold outN
  rw [List.range_succ, List.flatMap_append, List.flatMap_singleton, if_pos rfl, List.append_nil]
theorem outN_off {os : List Ofr} {i n : Nat} {o : Ofr} (h : n ≠ i) (ho : os[n]? = some o) : outN os i (n + 1) = outN os i n ++ [shiftO i o] := by
  unfold outN
  rw [List.range_succ, List.flatMap_append, List.flatMap_singleton, if_neg h, ho]
def sp_lwithout : Sp := fun vs H Q _ => ∃ (S d : Addr) (i : Nat) (os : List Ofr) (ds : List V), vs = [.ref S, .int i] ∧ H d = some (.lst ds) ∧ ShopAt (cutH d H) S os ∧ os.length ≤ 8 ∧
  ∀ H' q, Same H H' → H q = none → ShopAt (cutH d H') q (outN os i os.length) → Q (.ref q) H'
section
variable {P : Program} {w : World} {K : PySem.W.Frag} {mg : Str → Option Value} {base : Heap} {T : List Addr}
theorem ok_lwithout {f : Addr} {fd : FuncData} {k : Nat} (M : Names mg) (D : Def K mg "_law_without" s_law_without ["_law_shop", "_law_place"] f fd) : FnOk P w K mg base CX0 (k + 1) f fd ["_law_shop", "_law_place"] sp_lwithout := by
  refine D.F.ok sc_law_without (fun vs H Q E h => ?_) (fun cdv A outer s H vs Q E hr h => ?_)
  · obtain ⟨S, d, i, os, ds, rfl, _⟩ := h
    rfl
  · obtain ⟨S, d, i, os, ds, rfl, hd, hS, h8, q⟩ := h
    obtain ⟨us, hSl0, alu⟩ := hS.al
    have hSl := (cut_some hSl0).2
    have lu := alu.len
    refine ⟨_, (pss_cons (ps_set (i := 2) sc_law_without.nd rfl (Or.inl rfl) (pe_lst pa_nil))
  (pss_cons (ps_for PassesOwn.never rfl (pi_enum (by rfl) M.enumerate (pa_cons (pv 0) pa_nil)) (pg_tup rfl (pgs_cons (pg_name (i := 3) sc_law_without.nd rfl (Or.inl rfl)) (pgs_cons (pg_name (i := 4) sc_law_without.nd rfl (Or.inl rfl)) pgs_nil)))
   (pss_one (ps_if (PW.pt (pw_and (pt_cmpR op_ne (pv 3) (pv 1) (nomark _)) (pw_and1 (pt_cmpR op_eq (pe_ix ix_tup (pv 4) pe_int (fun _ _ => rfl)) pe_str (nomark _)))))
   (pss_one (ps_expr (pe_bm PySem.F.plainAttrs_list PySem.F.slot_list_append PySem.F.type_list_append mt_append (pv 2) (pa_cons (pe_tup (pa_cons pe_str (pa_cons (pe_ix ix_tup (pv 4) pe_int (fun _ _ => rfl)) (pa_cons (pe_ix ix_tup (pv 4) pe_int (fun _ _ => rfl)) (pa_cons (pe_op op_sub (pe_ix ix_tup (pv 4) pe_int (fun _ _ => rfl)) (pe_callTy call_int1 (by rfl) M.int (by decide +kernel) (pa_cons (pe_cmpR op_gt (pe_ix ix_tup (pv 4) pe_int (fun _ _ => rfl)) (pv 1) (nomark _)) pa_nil))) pa_nil))))) pa_nil))))
   (pss_one (ps_if (pt_cmpR op_ne (pv 3) (pv 1) (nomark _))
   (pss_one (ps_expr (pe_bm PySem.F.plainAttrs_list PySem.F.slot_list_append PySem.F.type_list_append mt_append (pv 2) (pa_cons (pv 4) pa_nil))))
   pss_nil)))))
  (pss_one (ps_ret (pv 2))))), ?_⟩
    refine ⟨Nat.zero_le _, fun B nB => ?_⟩
    have sB := same_upd (o := .lst []) nB
    have hB0 : upd H B (.lst []) B = some (.lst []) := upd_same
    have nBd : B ≠ d := (ne_of_none hd nB).symm
    generalize upd H B (.lst []) = H1 at sB hB0 ⊢
    have keep : ∀ {H' : Hp}, Same H H' → Same (cutH d H) (cutH d (cutH B H')) := fun {H'} s b o h => by
      obtain ⟨n, e⟩ := cut_some h
      exact cut_put n (cut_put (ne_of_none e nB) (s _ _ e))
    refine ⟨_, rfl, S, _, rfl, SqL.of (sB _ _ hSl), for_it (walk_enum (K := K) (a := S) (xs := us.map V.ref)) (fun n σ H' => ∃ (y3 y4 : Option V) (bs : List Addr), σ = [some (.ref S), some (.int i), some (.ref B), y3, y4] ∧ Same H H' ∧ H' B = some (.lst (bs.map V.ref)) ∧ bs.length ≤ n ∧ Al (OfrAt (cutH d (cutH B H'))) bs (outN os i n)) ⟨none, none, [], rfl, sB, hB0, Nat.le_refl _, True.intro⟩ (fun n σ H' _ hp => ?_) (fun n x σ H2 H3 hn hp hy => ?_) (fun σ H2 hp => ?_)⟩
    · obtain ⟨_, _, _, _, s2, _⟩ := hp
      exact SqL.of (s2 _ _ hSl)
    · obtain ⟨y3, y4, bs, rfl, s2, hB2, lb, alb⟩ := hp
      obtain ⟨T0, x', y', rfl, nT0, rfl, ex', hy'⟩ := hy
      cases Option.some.inj ex'
      have hy' : (us.map V.ref)[n]? = some y' := hy'
      rw [List.length_map] at hn
      have gn := List.getElem?_eq_getElem hn
      rw [List.getElem?_map, gn] at hy'
      cases Option.some.inj hy'
      obtain ⟨o, ho, hov⟩ := alu.get gn
      have sT := same_upd (o := .tup [.int (n : Nat), .ref us[n]]) nT0
      have hT : upd H2 T0 (.tup [.int (n : Nat), .ref us[n]]) T0 = some (.tup [.int (n : Nat), .ref us[n]]) := upd_same
      generalize upd H2 T0 (.tup [.int (n : Nat), .ref us[n]]) = H3 at sT hT ⊢
      have s3 := s2.trans sT
      have hB3 := sT _ _ hB2
      have alb3 : Al (OfrAt (cutH d (cutH B H3))) bs (outN os i n) := alb.imp fun a x h => h.same (cut_mono (cut_mono sT))
      obtain ⟨b, r, h1, h2⟩ := hov.head
      have h1' := s3 _ _ (cut_some h1).2
      refine ⟨T0, _, rfl, SqT.of hT, rfl, _, _, rfl, _, _, rfl, rfl, ?_⟩
      by_cases e : n = i
      · subst e
        have ev : V.bl (!decide (V.int (n : Int) = V.int (n : Int))) = .bl false := by
          rw [decide_eq_true rfl]
          rfl
        refine ⟨_, rfl, _, rfl, rfl, false, ev, ?_⟩
        refine ⟨_, rfl, _, rfl, rfl, false, ev, _, _, bs, rfl, s3, hB3, by omega, ?_⟩
        rw [outN_at]
        exact alb3
      · have ev : V.bl (!decide (V.int (n : Int) = V.int (i : Int))) = .bl true := by
          rw [decide_eq_false fun z => e (by have := V.int.inj z; omega)]
          rfl
        refine ⟨_, rfl, _, rfl, rfl, true, ev, ?_⟩
        have plain : shiftO i o = o → Al (OfrAt (cutH d (cutH B (upd H3 B (.lst (bs.map V.ref ++ [.ref us[n]])))))) (bs ++ [us[n]]) (outN os i (n + 1)) := fun es => by
          rw [cut_off, outN_off e ho, es]
          exact Al.app alb3 (.one (hov.same (keep s3)))
        have app : upd H3 B (.lst (bs.map V.ref ++ [.ref us[n]])) B = some (.lst ((bs ++ [us[n]]).map V.ref)) := by
          rw [upd_same, List.map_append]
          rfl
        match o, ho, hov, h1', h2, plain with
        | .pack c p, ho, hov, h1', h2, plain =>
          refine ⟨_, rfl, us[n], _, _, _, rfl, rfl, SqT.of h1', atI_nat (j := 0) rfl, rfl, false, rfl, ?_⟩
          exact ⟨_, rfl, _, rfl, rfl, true, ev, _, rfl, .inl ⟨rfl, _, SqL.of hB3⟩, _, rfl, B, _, _, rfl, rfl, hB3, szL' (by rw [List.length_map]; omega), _, _, bs ++ [us[n]], rfl, sm_new s3 nB, app, by rw [List.length_append, List.length_singleton]; omega, plain rfl⟩
        | .many c ts, ho, hov, h1', h2, plain =>
          refine ⟨_, rfl, us[n], _, _, _, rfl, rfl, SqT.of h1', atI_nat (j := 0) rfl, rfl, false, rfl, ?_⟩
          exact ⟨_, rfl, _, rfl, rfl, true, ev, _, rfl, .inl ⟨rfl, _, SqL.of hB3⟩, _, rfl, B, _, _, rfl, rfl, hB3, szL' (by rw [List.length_map]; omega), _, _, bs ++ [us[n]], rfl, sm_new s3 nB, app, by rw [List.length_append, List.length_singleton]; omega, plain rfl⟩
        | .add c p kk, ho, hov, _, _, _ =>
          obtain ⟨b', g1, g2⟩ := hov
          have g1' := s3 _ _ (cut_some g1).2
          refine ⟨_, rfl, us[n], _, _, _, rfl, rfl, SqT.of g1', atI_nat (j := 0) rfl, rfl, true, rfl, ?_⟩
          refine ⟨_, rfl, .inl ⟨rfl, _, SqL.of hB3⟩, _, rfl, us[n], _, _, _, rfl, rfl, SqT.of g1', atI_nat (j := 1) rfl, _, rfl, us[n], _, _, _, rfl, rfl, SqT.of g1', atI_nat (j := 2) rfl, _, rfl, us[n], _, _, _, rfl, rfl, SqT.of g1', atI_nat (j := 3) rfl, _, rfl, us[n], _, _, _, rfl, rfl, SqT.of g1', atI_nat (j := 3) rfl, _, rfl, _, _, rfl, rfl, .inr ⟨_, rfl, ?_⟩⟩
          have ek : kk - (if decide (kk > (i : Int)) then 1 else 0) = kk - if kk > (i : Int) then 1 else 0 := by
            by_cases z : kk > (i : Int)
            · rw [if_pos z, if_pos (decide_eq_true z)]
            · rw [if_neg z, if_neg (by rw [decide_eq_false z]; exact fun y => nomatch y)]
          refine ⟨_, _, rfl, rfl, by show 4 ≤ sizeLine; decide, fun rr nrr => ?_⟩
          have sr := same_upd (o := .tup [.str "add", .ref b', .int p, .int (kk - (if decide (kk > (i : Int)) then 1 else 0))]) nrr
          have s4 := s3.trans sr
          have nrB : rr ≠ B := (ne_of_none hB3 nrr).symm
          have nrd : rr ≠ d := (ne_of_none (s3 _ _ hd) nrr).symm
          refine ⟨B, _, _, rfl, rfl, sr _ _ hB3, szL' (by rw [List.length_map]; omega), _, _, bs ++ [rr], rfl, sm_new s4 nB, ?_, by rw [List.length_append, List.length_singleton]; omega, ?_⟩
          · rw [upd_same, List.map_append]
            rfl
          · rw [cut_off, outN_off e ho]
            refine Al.app (alb3.imp fun a x h => h.same (cut_mono (cut_mono sr))) (.one ⟨b', ?_, keep s4 _ _ g2⟩)
            rw [cut_at nrd, cut_at nrB, upd_same]
            show some (HO.tup [_, _, _, V.int (kk - (if decide (kk > (i : Int)) then 1 else 0))]) = _
            rw [ek]
    · obtain ⟨y3, y4, bs, rfl, s2, hB2, lb, alb⟩ := hp
      rw [List.length_map, lu] at alb
      exact ⟨_, rfl, q H2 B s2 nB (ShopAt.of_al (cut_put nBd hB2) (alb.imp fun a x h => h.same (cut_mono cut_le)))⟩
end
/-! ### the rows of a shop that lost a pack that stands alone -/
theorem outN_erase {os : List Ofr} {i : Nat} : ∀ {n : Nat}, n ≤ os.length → outN os i n = ((os.take n).eraseIdx i).map (shiftO i)
  | 0, _ => by rw [List.take_zero, List.eraseIdx_nil]; rfl
  | n + 1, h => by
    have hn : n < os.length := h
    have ho := List.getElem?_eq_getElem hn
    have ih := outN_erase (os := os) (i := i) (Nat.le_of_lt hn)
    have et : os.take (n + 1) = os.take n ++ [os[n]] := by rw [List.take_succ, ho]; rfl
    have lt : (os.take n).length = n := by rw [List.length_take]; omega
    by_cases z : n = i
    · subst z
      rw [outN_at, ih, et, List.eraseIdx_append_of_length_le (by omega), lt, Nat.sub_self, List.eraseIdx_of_length_le (by omega)]
      show _ = (os.take n ++ []).map _
      rw [List.append_nil]
    · rw [outN_off z ho, ih, et]
      by_cases y : n < i
      · rw [List.eraseIdx_of_length_le (by omega), List.eraseIdx_of_length_le (by rw [List.length_append]; show (os.take n).length + 1 ≤ i; omega), List.map_append]
        rfl
      · rw [List.eraseIdx_append_of_lt_length (by omega), List.map_append]
        rfl
/-- where place k of the smaller shop stood -/
def upN (i k : Nat) : Nat := if k < i then k else k + 1
def dnI (i : Nat) (x : Int) : Int := x - if x > (i : Int) then 1 else 0
def dnL (i : Nat) (l : Ln) : Ln := ⟨dnI i l.p, l.c, l.as.map (dnI i)⟩
abbrev outS (os : List Ofr) (i : Nat) : List Ofr := outN os i os.length
theorem outS_get {os : List Ofr} {i k : Nat} : (outS os i)[k]? = (os[upN i k]?).map (shiftO i) := by
  show (outN os i os.length)[k]? = _
  rw [outN_erase (Nat.le_refl _), List.take_length, List.getElem?_map, List.getElem?_eraseIdx]
  unfold upN
  split <;> rfl
theorem outS_len {os : List Ofr} {i : Nat} (h : i < os.length) : (outS os i).length = os.length - 1 := by
  show (outN os i os.length).length = _
  rw [outN_erase (Nat.le_refl _), List.take_length, List.length_map, List.length_eraseIdx_of_lt h]
theorem dn_up {i k : Nat} : dnI i ((upN i k : Nat) : Int) = (k : Int) := by
  unfold dnI upN
  split <;> split <;> omega
theorem up_of {i p : Nat} (h : p ≠ i) : ∃ k, upN i k = p := by
  by_cases z : p < i
  · exact ⟨p, if_pos z⟩
  · exact ⟨p - 1, by unfold upN; rw [if_neg (by omega)]; omega⟩
theorem range_off {i : Nat} : ∀ {n : Nat}, i < n → (List.range n).filter (fun k => !decide (k = i)) = (List.range (n - 1)).map (upN i)
  | n + 1, h => by
    rw [List.range_succ, List.filter_append, Nat.add_sub_cancel]
    by_cases z : n = i
    · subst z
      have e1 : (List.range n).filter (fun k => !decide (k = n)) = List.range n := List.filter_eq_self.mpr fun k hk => by
        have := List.mem_range.mp hk
        rw [decide_eq_false (by omega)]
        rfl
      have e2 : (List.range n).map (upN n) = List.range n := by
        conv => rhs; rw [← List.map_id (List.range n)]
        exact List.map_congr_left fun k hk => if_pos (List.mem_range.mp hk)
      rw [e1, e2, List.filter_cons_of_neg (by rw [decide_eq_true rfl]; exact Bool.false_ne_true), List.filter_nil, List.append_nil]
    · have hi : i < n := by omega
      obtain ⟨m, rfl⟩ : ∃ m, n = m + 1 := ⟨n - 1, by omega⟩
      have eu : upN i m = m + 1 := if_neg (by omega)
      rw [range_off hi, List.filter_cons_of_pos (by rw [decide_eq_false z]; rfl), List.filter_nil, Nat.add_sub_cancel, List.range_succ, List.map_append, List.map_singleton, eu]
theorem choices_map {f : Int → Int} : ∀ ps : List Int, choicesM (ps.map f) = (choicesM ps).map (List.map f)
  | [] => rfl
  | p :: ps => by
    rw [List.map_cons]
    unfold choicesM
    rw [choices_map ps, List.map_append, List.map_append, List.map_map, List.map_map, List.map_tail]
    rfl
section
variable {os : List Ofr} {i : Nat} {c : List Int} {p : Int}
theorem isAdd_off (hz : addsM os i = []) {n : Nat} (hn : n < os.length) : isAdd os (i : Int) n = false := by
  cases e : isAdd os (i : Int) n with
  | false => rfl
  | true =>
    have : (n : Int) ∈ addsM os i := List.mem_map.mpr ⟨n, List.mem_filter.mpr ⟨List.mem_range.mpr hn, e⟩, rfl⟩
    rw [hz] at this
    cases this
theorem isAdd_out (hz : addsM os i = []) {k a : Nat} : isAdd (outS os i) (k : Int) a = isAdd os ((upN i k : Nat) : Int) (upN i a) := by
  have hz' := fun h => isAdd_off (n := upN i a) hz h
  unfold isAdd at hz' ⊢
  rw [outS_get]
  cases e : os[upN i a]? with
  | none => rfl
  | some o =>
    rw [e] at hz'
    cases o with
    | pack c' p' => rfl
    | many c' ts => rfl
    | add c' p' k0 =>
      have h0 : k0 ≠ (i : Int) := of_decide_eq_false (hz' (List.getElem?_eq_some_iff.mp e).1)
      show decide (k0 - (if k0 > (i : Int) then 1 else 0) = (k : Int)) = decide (k0 = ((upN i k : Nat) : Int))
      refine decide_eq_decide.mpr ?_
      unfold upN
      split <;> split <;> omega
theorem adds_out (ho : os[i]? = some (.pack c p)) (hz : addsM os i = []) (k : Nat) : addsM (outS os i) (k : Int) = (addsM os ((upN i k : Nat) : Int)).map (dnI i) := by
  have hi := (List.getElem?_eq_some_iff.mp ho).1
  have e0 : (List.range os.length).filter (isAdd os ((upN i k : Nat) : Int)) = ((List.range os.length).filter (fun k => !decide (k = i))).filter (isAdd os ((upN i k : Nat) : Int)) := by
    rw [List.filter_filter]
    refine List.filter_congr fun x hx => ?_
    by_cases z : x = i
    · subst z
      have : isAdd os ((upN x k : Nat) : Int) x = false := by unfold isAdd; rw [ho]
      rw [this]
      rfl
    · rw [decide_eq_false z]
      cases isAdd os ((upN i k : Nat) : Int) x <;> rfl
  unfold addsM addsN
  rw [e0, range_off hi, List.filter_map, List.map_map, List.map_map, outS_len hi]
  have e2 : (List.range (os.length - 1)).filter (isAdd (outS os i) (k : Int)) = (List.range (os.length - 1)).filter (isAdd os ((upN i k : Nat) : Int) ∘ upN i) := List.filter_congr fun a _ => isAdd_out hz
  rw [e2]
  exact List.map_congr_left fun a _ => dn_up.symm
theorem linesAt_out (ho : os[i]? = some (.pack c p)) (hz : addsM os i = []) (k : Nat) : linesAtM (outS os i) k = (linesAtM os (upN i k)).map (dnL i) := by
  unfold linesAtM
  rw [outS_get]
  cases e : os[upN i k]? with
  | none => rfl
  | some o =>
    cases o with
    | pack c' p' =>
      show (choicesM (addsM (outS os i) (k : Int))).map _ = ((choicesM (addsM os ((upN i k : Nat) : Int))).map _).map _
      rw [adds_out ho hz, choices_map, List.map_map, List.map_map]
      refine List.map_congr_left fun x _ => ?_
      show (⟨(k : Int), 1, x.map (dnI i)⟩ : Ln) = ⟨dnI i ((upN i k : Nat) : Int), 1, x.map (dnI i)⟩
      rw [dn_up]
    | many c' ts =>
      show (List.range 12).map _ = ((List.range 12).map _).map _
      rw [List.map_map]
      refine List.map_congr_left fun x _ => ?_
      show (⟨(k : Int), 1 + (x : Nat), []⟩ : Ln) = ⟨dnI i ((upN i k : Nat) : Int), 1 + (x : Nat), []⟩
      rw [dn_up]
    | add c' p' k0 => rfl
theorem cont_shift : ∀ {o : Ofr}, (shiftO i o).cont = o.cont
  | .pack _ _ => rfl
  | .many _ _ => rfl
  | .add _ _ _ => rfl
theorem contAt_out {a : Nat} : contAt (outS os i) (a : Int) = contAt os ((upN i a : Nat) : Int) := by
  unfold contAt
  rw [Int.toNat_natCast, Int.toNat_natCast, outS_get]
  cases os[upN i a]? with
  | none => rfl
  | some o => exact cont_shift
theorem addPr_out {a : Nat} : addPr (outS os i) (a : Int) = addPr os ((upN i a : Nat) : Int) := by
  unfold addPr
  rw [Int.toNat_natCast, Int.toNat_natCast, outS_get]
  cases os[upN i a]? with
  | none => rfl
  | some o => cases o <;> rfl
/-- places other than i -/
def OffI (i : Nat) (x : Int) : Prop := ∃ a : Nat, x = ((upN i a : Nat) : Int)
theorem fold_out : ∀ (as : List Int) (acc : List Int), (∀ x ∈ as, OffI i x) → (as.map (dnI i)).foldl (fun acc x => togM acc (contAt (outS os i) x)) acc = as.foldl (fun acc x => togM acc (contAt os x)) acc
  | [], _, _ => rfl
  | x :: r, acc, h => by
    obtain ⟨a, rfl⟩ := h x List.mem_cons_self
    rw [List.map_cons, List.foldl_cons, List.foldl_cons, dn_up, contAt_out]
    exact fold_out r _ fun y hy => h y (List.mem_cons_of_mem _ hy)
theorem addPrs_out {as : List Int} (h : ∀ x ∈ as, OffI i x) : (as.map (dnI i)).map (addPr (outS os i)) = as.map (addPr os) := by
  rw [List.map_map]
  refine List.map_congr_left fun x hx => ?_
  obtain ⟨a, rfl⟩ := h x hx
  show addPr (outS os i) (dnI i _) = _
  rw [dn_up, addPr_out]
theorem prow_out {k : Nat} {l : Ln} (hp : l.p = ((upN i k : Nat) : Int)) (h : ∀ x ∈ l.as, OffI i x) : (prowM (outS os i) (dnL i l)).2 = (prowM os l).2 := by
  have ep : (dnL i l).p = (k : Int) := by
    show dnI i l.p = _
    rw [hp, dn_up]
  have h1 : contM (outS os i) (dnL i l) = contM os l := by
    unfold contM
    rw [ep, hp, contAt_out]
    exact fold_out _ _ h
  have h2 : priceM (outS os i) (dnL i l) = priceM os l := by
    unfold priceM
    rw [ep, hp, Int.toNat_natCast, Int.toNat_natCast, outS_get]
    cases os[upN i k]? with
    | none => rfl
    | some o =>
      cases o with
      | pack c' p' =>
        show p' + ((l.as.map (dnI i)).map (addPr (outS os i))).sum = p' + (l.as.map (addPr os)).sum
        rw [addPrs_out h]
      | many c' ts => rfl
      | add c' p' k0 => rfl
  show (contM (outS os i) (dnL i l), priceM (outS os i) (dnL i l)) = (contM os l, priceM os l)
  rw [h1, h2]
theorem lineAt_off (ho : os[i]? = some (.pack c p)) {q : Nat} {l : Ln} (h : l ∈ linesAtM os q) : l.p = (q : Int) ∧ ∀ x ∈ l.as, OffI i x := by
  unfold linesAtM at h
  split at h
  · obtain ⟨x, hx, rfl⟩ := List.mem_map.mp h
    refine ⟨rfl, fun y hy => ?_⟩
    have hy2 := (choices_mem hx).2 y hy
    obtain ⟨n, hn, rfl⟩ := List.mem_map.mp hy2
    have ha := (List.mem_filter.mp hn).2
    have ne : n ≠ i := fun z => by
      unfold isAdd at ha
      rw [z, ho] at ha
      cases ha
    obtain ⟨a, e⟩ := up_of ne
    exact ⟨a, by rw [e]⟩
  · obtain ⟨x, hx, rfl⟩ := List.mem_map.mp h
    exact ⟨rfl, fun y hy => nomatch hy⟩
  · cases h
theorem rows_out (ho : os[i]? = some (.pack c p)) (hz : addsM os i = []) (r : Rw) : r ∈ shopRws (outS os i) ↔ r ∈ rwsM (offP i (prowsM os)) := by
  have hi := (List.getElem?_eq_some_iff.mp ho).1
  constructor
  · intro h
    obtain ⟨y, hy, rfl⟩ := List.mem_map.mp h
    obtain ⟨l', hl', rfl⟩ := List.mem_map.mp hy
    obtain ⟨k, hk, hl0⟩ := List.mem_flatMap.mp hl'
    rw [linesAt_out ho hz] at hl0
    obtain ⟨l, hl, rfl⟩ := List.mem_map.mp hl0
    obtain ⟨e1, e2⟩ := lineAt_off ho hl
    have hk' := List.mem_range.mp hk
    rw [outS_len hi] at hk'
    have hu : upN i k < os.length ∧ upN i k ≠ i := by unfold upN; split <;> omega
    rw [prow_out e1 e2]
    refine List.mem_map.mpr ⟨prowM os l, List.mem_filter.mpr ⟨List.mem_map.mpr ⟨l, List.mem_flatMap.mpr ⟨upN i k, List.mem_range.mpr hu.1, hl⟩, rfl⟩, ?_⟩, rfl⟩
    show (!decide (l.p = (i : Int))) = true
    rw [e1, decide_eq_false (by have := hu.2; omega)]
    rfl
  · intro h
    obtain ⟨y, hy, rfl⟩ := List.mem_map.mp h
    obtain ⟨hy, off⟩ := List.mem_filter.mp hy
    obtain ⟨l, hl', rfl⟩ := List.mem_map.mp hy
    obtain ⟨q, hq, hl⟩ := List.mem_flatMap.mp hl'
    obtain ⟨e1, e2⟩ := lineAt_off ho hl
    have off' : (!decide (l.p = (i : Int))) = true := off
    have ne : q ≠ i := fun z => by
      rw [e1, z, decide_eq_true rfl] at off'
      cases off'
    obtain ⟨k, rfl⟩ := up_of ne
    have hq' := List.mem_range.mp hq
    have hk : k < os.length - 1 := by unfold upN at hq' ne; split at hq' <;> omega
    rw [← prow_out e1 e2]
    refine List.mem_map.mpr ⟨prowM (outS os i) (dnL i l), List.mem_map.mpr ⟨dnL i l, List.mem_flatMap.mpr ⟨k, List.mem_range.mpr (by rw [outS_len hi]; exact hk), ?_⟩, rfl⟩, rfl⟩
    rw [linesAt_out ho hz]
    exact List.mem_map.mpr ⟨l, hl, rfl⟩
theorem fit_shift {m : Nat} : ∀ {o : Ofr}, FitO m o → FitO m (shiftO i o)
  | .pack _ _, h => h
  | .many _ _, h => h
  | .add _ _ _, h => h
theorem fit_out {m : Nat} (ft : FitS m os) : FitS m (outS os i) := fun o ho => by
  have ho' : o ∈ outN os i os.length := ho
  rw [outN_erase (Nat.le_refl _), List.take_length] at ho'
  obtain ⟨o', h, rfl⟩ := List.mem_map.mp ho'
  exact fit_shift (ft o' (List.mem_of_mem_eraseIdx h))
theorem good_out (ho : os[i]? = some (.pack c p)) (hz : addsM os i = []) (gd : Good os) : Good (outS os i) := by
  have hi := (List.getElem?_eq_some_iff.mp ho).1
  refine ⟨by rw [outS_len hi]; have := gd.1; omega, fun k o hk => ?_⟩
  rw [outS_get] at hk
  cases e : os[upN i k]? with
  | none => rw [e] at hk; cases hk
  | some o' =>
    rw [e] at hk
    cases Option.some.inj hk
    have g := gd.2 _ _ e
    cases o' with
    | pack c' p' => exact True.intro
    | many c' ts => exact g
    | add c' p' k0 =>
      obtain ⟨j, rfl, hj, c2, p2, hp⟩ := g
      have hn := isAdd_off (n := upN i k) hz (List.getElem?_eq_some_iff.mp e).1
      unfold isAdd at hn
      rw [e] at hn
      have ne : j ≠ i := fun z => of_decide_eq_false hn (by rw [z])
      obtain ⟨a, rfl⟩ := up_of ne
      refine ⟨a, dn_up, ?_, c2, p2, ?_⟩
      · unfold upN at hj
        split at hj <;> split at hj <;> omega
      · rw [outS_get, hp]
        rfl
theorem least_iff {R R' : List Rw} (h : ∀ r, r ∈ R ↔ r ∈ R') {w : List Int} : ∀ {o : Option Int}, LeastIs R w o → LeastIs R' w o
  | none, li => fun q s => li q fun r hr => (h r).mpr (s r hr)
  | some _, ⟨⟨q, s, cv, e⟩, le⟩ => ⟨⟨q, fun r hr => (h r).mp (s r hr), cv, e⟩, fun q s => le q fun r hr => (h r).mpr (s r hr)⟩
/-- the least price in the smaller shop -/
theorem least_out (ho : os[i]? = some (.pack c p)) (hz : addsM os i = []) {w : List Int} {o : Option Int} : LeastIs (shopRws (outS os i)) w o ↔ LeastIs (rwsM (offP i (prowsM os))) w o :=
  ⟨least_iff (rows_out ho hz), least_iff fun r => (rows_out ho hz r).symm⟩
end
/-! ### shops as data -/
def dTier (t : Int × Int) : PyData := .tuple [.int t.1, .int t.2]
def dOfr : Ofr → PyData
  | .pack c p => .tuple [.str "pack", dInts c, .int p]
  | .many c ts => .tuple [.str "many", dInts c, .list (ts.map dTier)]
  | .add c p k => .tuple [.str "add", dInts c, .int p, .int k]
abbrev dShop (os : List Ofr) : PyData := .list (os.map dOfr)
theorem dp_tiers {K : PySem.W.Frag} {H : Hp} : ∀ {us : List Addr} {ts : List (Int × Int)}, us.length = ts.length → (∀ (i : Nat) u (t : Int × Int), us[i]? = some u → ts[i]? = some t → H u = some (.tup [.int t.1, .int t.2])) → DpAll K H (us.map V.ref) (ts.map dTier)
  | [], [], _, _ => .nil
  | [], _ :: _, h, _ => by simp at h
  | _ :: _, [], h, _ => by simp at h
  | u :: us, t :: ts, hl, h => .cons (.tup (SqT.of (h 0 u t rfl rfl)) (.cons (.int _) (.cons (.int _) .nil))) (dp_tiers (by simpa using hl) fun i u' t' a b => h (i + 1) u' t' a b)
theorem TiersAt.dp {K : PySem.W.Frag} {H : Hp} {a : Addr} {ts : List (Int × Int)} (h : TiersAt H a ts) : Dp K H (.ref a) (.list (ts.map dTier)) := by
  obtain ⟨us, h1, h2, h3⟩ := h
  exact .lst (SqL.of h1) (dp_tiers h2 h3)
theorem OfrAt.dp {K : PySem.W.Frag} {H : Hp} {a : Addr} : ∀ {o : Ofr}, OfrAt H a o → Dp K H (.ref a) (dOfr o)
  | .pack c p, ⟨b, h1, h2⟩ => .tup (SqT.of h1) (.cons (.str _) (.cons (dp_ints (SqL.of h2)) (.cons (.int _) .nil)))
  | .many c ts, ⟨b, t, h1, h2, h3⟩ => .tup (SqT.of h1) (.cons (.str _) (.cons (dp_ints (SqL.of h2)) (.cons h3.dp .nil)))
  | .add c p k, ⟨b, h1, h2⟩ => .tup (SqT.of h1) (.cons (.str _) (.cons (dp_ints (SqL.of h2)) (.cons (.int _) (.cons (.int _) .nil))))
theorem dp_ofrs {K : PySem.W.Frag} {H : Hp} : ∀ {vs : List Addr} {os : List Ofr}, Al (OfrAt H) vs os → DpAll K H (vs.map V.ref) (os.map dOfr)
  | [], [], _ => .nil
  | [], _ :: _, h => h.elim
  | _ :: _, [], h => h.elim
  | _ :: _, _ :: _, h => .cons h.1.dp (dp_ofrs h.2)
theorem ShopAt.dp {K : PySem.W.Frag} {H : Hp} {a : Addr} {os : List Ofr} (h : ShopAt H a os) : Dp K H (.ref a) (dShop os) := by
  obtain ⟨vs, h1, al⟩ := h.al
  exact .lst (SqL.of h1) (dp_ofrs al)
theorem lay_tiers : ∀ ts : List (Int × Int), PyData.canLayAll0 (ts.map dTier) = true
  | [] => by simp [PyData.canLayAll0]
  | t :: r => by
    have ih := lay_tiers r
    simp [PyData.canLayAll0, PyData.canLay0, dTier, ih]
theorem depth_tiers : ∀ ts : List (Int × Int), PyData.depthAll (ts.map dTier) ≤ 1
  | [] => by simp [PyData.depthAll]
  | t :: r => by
    have ih := depth_tiers r
    simp only [List.map_cons, PyData.depthAll, PyData.depth, dTier]
    omega
theorem lay_ofr (o : Ofr) : PyData.canLay0 (dOfr o) = true := by
  cases o with
  | pack c p =>
    have := lay_ints c
    simp [dOfr, PyData.canLayAll0, PyData.canLay0, this]
    decide +kernel
  | many c ts =>
    have := lay_ints c
    have h2 := lay_tiers ts
    simp [dOfr, PyData.canLayAll0, PyData.canLay0, this, h2]
    decide +kernel
  | add c p k =>
    have := lay_ints c
    simp [dOfr, PyData.canLayAll0, PyData.canLay0, this]
    decide +kernel
theorem depth_ofr (o : Ofr) : PyData.depth (dOfr o) ≤ 4 := by
  cases o with
  | pack c p =>
    have := depth_ints c
    simp only [dOfr, PyData.depth, PyData.depthAll, this]
    omega
  | many c ts =>
    have := depth_ints c
    have h2 := depth_tiers ts
    simp only [dOfr, PyData.depth, PyData.depthAll, this]
    omega
  | add c p k =>
    have := depth_ints c
    simp only [dOfr, PyData.depth, PyData.depthAll, this]
    omega
theorem lay_ofrs : ∀ os : List Ofr, PyData.canLayAll0 (os.map dOfr) = true
  | [] => by simp [PyData.canLayAll0]
  | o :: r => by
    have ih := lay_ofrs r
    have h1 := lay_ofr o
    simp [PyData.canLayAll0, ih, h1]
theorem depth_ofrs : ∀ os : List Ofr, PyData.depthAll (os.map dOfr) ≤ 4
  | [] => by simp [PyData.depthAll]
  | o :: r => by
    have ih := depth_ofrs r
    have h1 := depth_ofr o
    simp only [List.map_cons, PyData.depthAll]
    omega
theorem shaped_shop (os : List Ofr) : SeqAt.shaped (dShop os) = true := by
  unfold SeqAt.shaped
  have h1 : PyData.canLay0 (dShop os) = true := by
    simp only [PyData.canLay0]
    exact lay_ofrs os
  have h2 : PyData.depth (dShop os) ≤ 64 := by
    have := depth_ofrs os
    simp only [PyData.depth]
    omega
  rw [h1, decide_eq_true h2]
  rfl
/-! ### _law_alone, _law_number -/
abbrev s_law_alone : Stmt := topS 48
abbrev N_law_alone : List Str := ["_law_shop", "_law_place", "_law_one"]
theorem sc_law_alone : FnScope N_law_alone ["_law_shop", "_law_place"] (defScope s_law_alone) := ⟨rfl, rfl, rfl, by decide +kernel, rfl, by decide +kernel, by decide +kernel⟩

abbrev s_law_number : Stmt := topS 51
abbrev N_law_number : List Str := ["_law_found"]
theorem sc_law_number : FnScope N_law_number ["_law_found"] (defScope s_law_number) := ⟨rfl, rfl, rfl, by decide +kernel, rfl, by decide +kernel, by decide +kernel⟩

theorem eqv_offers (os : List Ofr) : PyData.eqv (dShop os) (.list []) = decide (os = []) := by
  cases os with
  | nil => rfl
  | cons o r => rfl
def addOf (i : Int) : Ofr → Bool
  | .add _ _ k => decide (k = i)
  | _ => false
/-- a pack that no add is for -/
def aloneB (os : List Ofr) (i : Nat) : Bool := match os[i]? with
  | some (.pack _ _) => decide (os.filter (addOf i) = [])
  | _ => false
theorem alone_adds {os : List Ofr} {i : Nat} (h : os.filter (addOf i) = []) : addsM os i = [] := by
  unfold addsM addsN
  rw [List.map_eq_nil_iff, List.filter_eq_nil_iff]
  intro n _ hn
  unfold isAdd at hn
  split at hn
  · rename_i c p k e
    have := List.filter_eq_nil_iff.mp h _ (List.mem_of_getElem? e)
    exact this hn
  · cases hn
theorem adds_alone {os : List Ofr} {i : Nat} (h : addsM os i = []) : os.filter (addOf i) = [] := by
  rw [List.filter_eq_nil_iff]
  intro o ho hb
  obtain ⟨n, hn, e⟩ := List.getElem_of_mem ho
  have := isAdd_off (n := n) h hn
  unfold isAdd at this
  rw [List.getElem?_eq_getElem hn, e] at this
  cases o with
  | pack c p => cases hb
  | many c ts => cases hb
  | add c p k => exact absurd (of_decide_eq_true hb) (of_decide_eq_false this)
theorem alone_iff {os : List Ofr} {i : Nat} : aloneB os i = true ↔ ∃ c p, os[i]? = some (.pack c p) ∧ addsM os i = [] := by
  unfold aloneB
  constructor
  · intro h
    split at h
    · rename_i c p e
      exact ⟨c, p, e, alone_adds (of_decide_eq_true h)⟩
    · cases h
  · rintro ⟨c, p, e, hz⟩
    rw [e]
    exact decide_eq_true (adds_alone hz)
def sp_alone : Sp := fun vs H Q _ => ∃ (S : Addr) (os : List Ofr) (i : Nat), vs = [.ref S, .int i] ∧ ShopAt H S os ∧ os.length ≤ 8 ∧ i < os.length ∧ ∀ H', Same H H' → Q (.bl (aloneB os i)) H'
def sp_numb : Sp := fun vs H Q _ => (vs = [.non] ∧ ∀ H', Same H H' → Q .non H') ∨ ∃ (t : Addr) (x : V) (r : List V), vs = [.ref t] ∧ H t = some (.tup (x :: r)) ∧ ∀ H', Same H H' → Q x H'
section
variable {P : Program} {w : World} {K : PySem.W.Frag} {mg : Str → Option Value} {base : Heap} {T : List Addr}
theorem ok_alone {f : Addr} {fd : FuncData} {k : Nat} (M : Names mg) (D : Def K mg "_law_alone" s_law_alone ["_law_shop", "_law_place"] f fd) : FnOk P w K mg base CX0 (k + 1) f fd ["_law_shop", "_law_place"] sp_alone := by
  refine D.F.ok sc_law_alone (fun vs H Q E h => ?_) (fun cdv A outer s H vs Q E hr h => ?_)
  · obtain ⟨S, os, i, rfl, _⟩ := h
    rfl
  · obtain ⟨S, os, i, rfl, hS, h8, hi, q⟩ := h
    obtain ⟨vs, v1, v2, v3⟩ := id hS
    obtain ⟨v, o, g1, g2, g3⟩ := ShopAt.get (H := H) (a := S) v2 hi
    obtain ⟨b, r, hv, _⟩ := (v3 i v o g1 g2).head
    refine ⟨_, (pss_one (ps_ret (pe_and (pe_cmpR op_eq (pe_ix ix_tup (pe_ix ix_list (pv 0) (pv 1) (fun _ _ => rfl)) pe_int (fun _ _ => rfl)) pe_str (nomark _)) (pe_one (pe_cmpR (op_eqD hr.units) (pe_lc (own := [("_law_one", 2)]) (by rfl) sc_law_alone.nd (pi_list (pv 0)) (blkOk_by (own := [("_law_one", 2)]) (N := N_law_alone) (sc := defScope s_law_alone) (by decide +kernel)) (fun _ _ _ _ _ => (pg_name (i := 2) sc_law_alone.nd rfl (Or.inl rfl))) (fun _ _ _ _ _ => (pts_one (PW.pt (pw_and (pt_cmpR op_eq (pe_ix (ix_tupK (K := K) rfl) (pv 2) pe_int (fun _ _ => rfl)) pe_str (nomark _)) (pw_and1 (pt_cmpR op_eq (pe_ix (ix_tupK (K := K) rfl) (pv 2) pe_int (fun _ _ => rfl)) (pv 1) (nomark _))))))) (fun _ _ _ _ _ => (pv 2))) (pe_lst pa_nil) (nomark _)))))), ?_⟩
    refine ⟨_, rfl, _, rfl, S, _, _, _, rfl, rfl, SqL.of v1, atI_nat g3, v, _, _, _, rfl, rfl, SqT.of hv, atI_nat (j := 0) rfl, rfl, ?_⟩
    cases o with
    | many c ts =>
      have e : aloneB os i = false := by unfold aloneB; rw [g2]
      refine ⟨false, rfl, ?_⟩
      have := q H (.refl _)
      rw [e] at this
      exact this
    | add c p k0 =>
      have e : aloneB os i = false := by unfold aloneB; rw [g2]
      refine ⟨false, rfl, ?_⟩
      have := q H (.refl _)
      rw [e] at this
      exact this
    | pack c p =>
      have ea : aloneB os i = decide (os.filter (addOf i) = []) := by unfold aloneB; rw [g2]
      refine ⟨true, rfl, ?_⟩
      refine ⟨_, rfl, S, rfl, ⟨_, SqL.of v1⟩, fun B nB => lc_list (xs := vs.map V.ref) (fun n H' => Same H H' ∧ ∃ bs : List Addr, H' B = some (.lst (bs.map V.ref)) ∧ Al (OfrAt H) bs ((os.take n).filter (addOf i)) ∧ bs.length ≤ n) ⟨same_upd nB, [], upd_same, True.intro, Nat.le_refl _⟩ (fun n H' _ hp => SqL.of (hp.1 _ _ v1)) (fun n y H1 hy hp => ?_) (fun H1 hp => ?_)⟩
      · obtain ⟨s1, bs, hB, al, lb⟩ := hp
        have hn := (List.getElem?_eq_some_iff.mp hy).1
        rw [List.length_map, v2] at hn
        obtain ⟨v', o', k1, k2, k3⟩ := ShopAt.get (H := H) (a := S) v2 hn
        cases Option.some.inj (hy.symm.trans k3)
        have ho' := v3 n v' o' k1 k2
        obtain ⟨b', r', hv', _⟩ := ho'.head
        have et : os.take (n + 1) = os.take n ++ [o'] := by rw [List.take_succ, k2]; rfl
        have nope : addOf i o' = false → Same H H1 ∧ ∃ bs : List Addr, H1 B = some (.lst (bs.map V.ref)) ∧ Al (OfrAt H) bs ((os.take (n + 1)).filter (addOf i)) ∧ bs.length ≤ n + 1 := fun z => ⟨s1, bs, hB, by rw [et, List.filter_append, List.filter_cons_of_neg (by rw [z]; exact Bool.false_ne_true), List.filter_nil, List.append_nil]; exact al, by omega⟩
        refine ⟨rfl, _, rfl, v', _, _, _, rfl, rfl, SqT.of (s1 _ _ hv'), atI_nat (j := 0) rfl, rfl, ?_⟩
        cases o' with
        | pack c' p' => exact ⟨false, rfl, nope rfl⟩
        | many c' ts' => exact ⟨false, rfl, nope rfl⟩
        | add c' p' k' =>
          obtain ⟨b2, h1, h2⟩ := ho'
          refine ⟨true, rfl, ?_⟩
          refine ⟨_, rfl, v', _, _, _, rfl, rfl, SqT.of (s1 _ _ h1), atI_nat (j := 3) rfl, _, rfl, rfl, _, rfl, ite2 (fun z => ?_) (fun z => ?_)⟩
          · have z' : addOf i (.add c' p' k') = true := decide_eq_true (V.int.inj (of_decide_eq_true z))
            refine ⟨_, rfl, _, hB, szL' (by rw [List.length_map]; omega), sm_new s1 nB, bs ++ [v'], by rw [upd_same, List.map_append]; rfl, ?_, by rw [List.length_append]; show bs.length + 1 ≤ _; omega⟩
            rw [et, List.filter_append, List.filter_cons_of_pos z', List.filter_nil]
            exact Al.app al (.one ⟨b2, h1, h2⟩)
          · exact nope (decide_eq_false fun e => z (decide_eq_true (by rw [e])))
      · obtain ⟨s1, bs, hB, al, lb⟩ := hp
        rw [List.length_map, v2, List.take_length] at al
        refine ⟨by decide, fun e ne => ?_⟩
        have se := same_upd (o := .lst []) ne
        have hsub : ShopAt (upd H1 e (.lst [])) B (os.filter (addOf i)) := ShopAt.of_al (se _ _ hB) (al.imp fun _ _ h => h.same (s1.trans se))
        refine ⟨_, .list [], hsub.dp, .lst (SqL.of upd_same) .nil, shaped_shop _, by decide +kernel, ?_⟩
        rw [eqv_offers, ← ea]
        exact q _ (s1.trans se)
theorem ok_numb {f : Addr} {fd : FuncData} {k : Nat} (M : Names mg) (D : Def K mg "_law_number" s_law_number ["_law_found"] f fd) : FnOk P w K mg base CX0 (k + 1) f fd ["_law_found"] sp_numb := by
  refine D.F.ok sc_law_number (fun vs H Q E h => ?_) (fun cdv A outer s H vs Q E hr h => ?_)
  · rcases h with ⟨rfl, _⟩ | ⟨t, x, r, rfl, _⟩ <;> rfl
  · rcases h with ⟨rfl, q⟩ | ⟨t, x, r, rfl, ht, q⟩
    · refine ⟨_, (pss_one (ps_ret (pe_ix ix_tup (pe_ix ix_list (pe_lst (pa_cons (pv 0) (pa_cons (pe_tup (pa_cons pe_non (pa_cons pe_int pa_nil))) pa_nil))) (pe_callTy call_int1 (by rfl) M.int (by decide +kernel) (pa_cons (pe_cmpR op_isN (pv 0) pe_non (nomark _)) pa_nil)) (fun _ _ => rfl)) pe_int (fun _ _ => rfl)))), ?_⟩
      refine ⟨_, rfl, by show 2 ≤ sizeLine; decide, fun u nu => ⟨by show 2 ≤ sizeLine; decide, fun l nl => ?_⟩⟩
      have sl := same_upd (o := .lst [.non, .ref u]) nl
      have hu := sl _ _ (upd_same (H := H) (a := u) (o := .tup [.non, .int 0]))
      refine ⟨_, rfl, rfl, .inr ⟨_, rfl, l, _, _, _, rfl, rfl, SqL.of upd_same, atI_nat (j := 1) rfl, u, _, _, _, rfl, rfl, SqT.of hu, atI_nat (j := 0) rfl, q _ ((same_upd nu).trans sl)⟩⟩
    · refine ⟨_, (pss_one (ps_ret (pe_ix ix_tup (pe_ix ix_list (pe_lst (pa_cons (pv 0) (pa_cons (pe_tup (pa_cons pe_non (pa_cons pe_int pa_nil))) pa_nil))) (pe_callTy call_int1 (by rfl) M.int (by decide +kernel) (pa_cons (pe_cmpR op_isN (pv 0) pe_non (nomark _)) pa_nil)) (fun _ _ => rfl)) pe_int (fun _ _ => rfl)))), ?_⟩
      refine ⟨_, rfl, by show 2 ≤ sizeLine; decide, fun u nu => ⟨by show 2 ≤ sizeLine; decide, fun l nl => ?_⟩⟩
      have sl := (same_upd (o := .tup [.non, .int 0]) nu).trans (same_upd (o := .lst [.ref t, .ref u]) nl)
      refine ⟨_, rfl, rfl, .inr ⟨_, rfl, l, _, _, _, rfl, rfl, SqL.of upd_same, atI_nat (j := 0) rfl, t, _, _, _, rfl, rfl, SqT.of (sl _ _ ht), atI_nat (j := 0) rfl, q _ sl⟩⟩
end
/-! ### the thinned shop, as lists -/
theorem least_ex {R : List Rw} {w : List Int} (nn : NN R) : ∀ (n : Nat) (q : List Rw), SubM q R → CovM q w → (costM q).toNat ≤ n → ∃ g, LeastIs R w (some g) ∧ g ≤ costM q := by
  intro n
  induction n with
  | zero =>
    intro q s c h
    have h0 := costM_nonneg (q := q) fun r hr => (nn r (s r hr)).2
    exact ⟨costM q, ⟨⟨q, s, c, rfl⟩, fun q' s' _ => by
      have := costM_nonneg (q := q') fun r hr => (nn r (s' r hr)).2
      omega⟩, Int.le_refl _⟩
  | succ n ih =>
    intro q s c h
    by_cases z : ∃ q', SubM q' R ∧ CovM q' w ∧ costM q' < costM q
    · obtain ⟨q', s', c', lt⟩ := z
      have h0 := costM_nonneg (q := q') fun r hr => (nn r (s' r hr)).2
      obtain ⟨g, li, le⟩ := ih q' s' c' (by omega)
      exact ⟨g, li, by omega⟩
    · refine ⟨costM q, ⟨⟨q, s, c, rfl⟩, fun q' s' c' => ?_⟩, Int.le_refl _⟩
      have : ¬ costM q' < costM q := fun lt => z ⟨q', s', c', lt⟩
      omega
def RA (os : List Ofr) (k : Nat) (r : Rw) : Prop := ∃ l ∈ linesAtM os k, (prowM os l).2 = r
def RX (xs : List PR) (a : Nat) (r : Rw) : Prop := ∃ y ∈ xs, y.1.p = (a : Int) ∧ y.2 = r
theorem ra_rx {os : List Ofr} {k : Nat} {r : Rw} (hk : k < os.length) : RX (prowsM os) k r ↔ RA os k r := by
  constructor
  · rintro ⟨y, hy, e1, e2⟩
    obtain ⟨l, hl, rfl⟩ := List.mem_map.mp hy
    obtain ⟨q, hq, hl⟩ := List.mem_flatMap.mp hl
    have e3 : (q : Int) = (k : Int) := (linesAtM_p hl).symm.trans e1
    have e4 : q = k := by omega
    subst e4
    exact ⟨l, hl, e2⟩
  · rintro ⟨l, hl, e⟩
    exact ⟨prowM os l, List.mem_map.mpr ⟨l, List.mem_flatMap.mpr ⟨k, List.mem_range.mpr hk, hl⟩, rfl⟩, linesAtM_p hl, e⟩
theorem ra_lt {os : List Ofr} {k : Nat} {r : Rw} (h : RA os k r) : k < os.length := by
  obtain ⟨l, hl, _⟩ := h
  by_cases z : k < os.length
  · exact z
  · unfold linesAtM at hl
    rw [List.getElem?_eq_none (by omega)] at hl
    cases hl
theorem ra_out {os : List Ofr} {i k : Nat} {c : List Int} {p : Int} {r : Rw} (ho : os[i]? = some (.pack c p)) (hz : addsM os i = []) : RA (outS os i) k r ↔ RA os (upN i k) r := by
  unfold RA
  rw [linesAt_out ho hz]
  constructor
  · rintro ⟨l', hl', e⟩
    obtain ⟨l, hl, rfl⟩ := List.mem_map.mp hl'
    obtain ⟨e1, e2⟩ := lineAt_off ho hl
    exact ⟨l, hl, by rw [← e, prow_out e1 e2]⟩
  · rintro ⟨l, hl, e⟩
    obtain ⟨e1, e2⟩ := lineAt_off ho hl
    exact ⟨dnL i l, List.mem_map.mpr ⟨l, hl, rfl⟩, by rw [prow_out e1 e2]; exact e⟩
theorem mem_off {j : Nat} {xs : List PR} {r : Rw} : r ∈ rwsM (offP j xs) ↔ ∃ y ∈ xs, y.1.p ≠ (j : Int) ∧ y.2 = r := by
  constructor
  · intro h
    obtain ⟨y, hy, rfl⟩ := List.mem_map.mp h
    obtain ⟨h1, h2⟩ := List.mem_filter.mp hy
    refine ⟨y, h1, fun z => ?_, rfl⟩
    rw [decide_eq_true z] at h2
    cases h2
  · rintro ⟨y, hy, n, rfl⟩
    exact List.mem_map.mpr ⟨y, List.mem_filter.mpr ⟨hy, by rw [decide_eq_false n]; rfl⟩, rfl⟩
theorem off_ra {os : List Ofr} {j : Nat} {r : Rw} : r ∈ rwsM (offP j (prowsM os)) ↔ ∃ k, k ≠ j ∧ RA os k r := by
  rw [mem_off]
  constructor
  · rintro ⟨y, hy, n, rfl⟩
    obtain ⟨l, hl, rfl⟩ := List.mem_map.mp hy
    obtain ⟨q, hq, hl⟩ := List.mem_flatMap.mp hl
    exact ⟨q, fun z => n (by rw [← z]; exact linesAtM_p hl), l, hl, rfl⟩
  · rintro ⟨k, n, h⟩
    obtain ⟨y, hy, e1, e2⟩ := (ra_rx (ra_lt h)).mpr h
    exact ⟨y, hy, fun z => n (by have := e1.symm.trans z; omega), e2⟩
theorem adds_none {os : List Ofr} {i : Nat} : addsM os i = [] ↔ ∀ (a : Nat) c p, os[a]? ≠ some (.add c p (i : Int)) := by
  constructor
  · intro h a c p e
    have := isAdd_off (n := a) h (List.getElem?_eq_some_iff.mp e).1
    unfold isAdd at this
    rw [e] at this
    exact of_decide_eq_false this rfl
  · intro h
    unfold addsM addsN
    rw [List.map_eq_nil_iff, List.filter_eq_nil_iff]
    intro n _ hn
    unfold isAdd at hn
    split at hn
    · rename_i c p k e
      exact h n c p (by rw [e, of_decide_eq_true hn])
    · cases hn
/-- an offer of the whole shop as it stands among the places L -/
def LeftIs (L : List Nat) : Ofr → Ofr → Prop
  | .add c p x, o' => ∃ j b : Nat, x = (b : Int) ∧ L[j]? = some b ∧ o' = .add c p (j : Int)
  | o, o' => o' = o
theorem LeftIs.cont {L : List Nat} : ∀ {o o' : Ofr}, LeftIs L o o' → o'.cont = o.cont
  | .pack _ _, _, h => by rw [show _ = _ from h]
  | .many _ _, _, h => by rw [show _ = _ from h]
  | .add _ _ _, _, ⟨_, _, _, _, e⟩ => by rw [e]; rfl
/-- i is a pack that stands alone and the others of xs cover it for g -/
def SpareX (os : List Ofr) (xs : List PR) (i : Nat) (g : Int) : Prop := ∃ c p, os[i]? = some (.pack c p) ∧ addsM os i = [] ∧ LeastIs (rwsM (offP i xs)) c (some g) ∧ g ≤ p
structure ThinI (os : List Ofr) (m rem : Nat) (L : List Nat) (cur : List Ofr) (xs : List PR) : Prop where
  len : L.length = cur.length
  low : ∀ k, k < rem → L[k]? = some k
  inc : L.Pairwise (· < ·)
  sub : ∀ (k a : Nat), L[k]? = some a → ∃ o o', os[a]? = some o ∧ cur[k]? = some o' ∧ LeftIs L o o'
  adds : ∀ (a : Nat) c p x, os[a]? = some (.add c p x) → a ∈ L
  gd : Good cur
  ft : FitS m cur
  row : ∀ (k a : Nat) r, L[k]? = some a → (RX xs a r ↔ RA cur k r)
  off : ∀ y ∈ xs, ∃ a ∈ L, y.1.p = (a : Int)
  xin : ∀ y ∈ xs, y ∈ prowsM os
  ns : ∀ k, rem ≤ k → ∀ g, ¬ SpareM cur k g
  ls : ∀ (w : List Int) o, w.length ≤ m → LeastIs (shopRws os) w o → LeastIs (shopRws cur) w o
theorem inc_inj {L : List Nat} (h : L.Pairwise (· < ·)) {i j a : Nat} (hi : L[i]? = some a) (hj : L[j]? = some a) : i = j := by
  obtain ⟨h1, e1⟩ := List.getElem?_eq_some_iff.mp hi
  obtain ⟨h2, e2⟩ := List.getElem?_eq_some_iff.mp hj
  rcases Nat.lt_trichotomy i j with z | z | z
  · have := List.pairwise_iff_getElem.mp h i j h1 h2 z
    omega
  · exact z
  · have := List.pairwise_iff_getElem.mp h j i h2 h1 z
    omega
theorem get_erase {α : Type} {L : List α} {j k : Nat} : (L.eraseIdx j)[k]? = L[upN j k]? := by
  rw [List.getElem?_eraseIdx]
  unfold upN
  split <;> rfl
theorem up_ne {j k : Nat} : upN j k ≠ j := by
  unfold upN
  split <;> omega
section
variable {os cur : List Ofr} {m j : Nat} {L : List Nat} {xs : List PR}
theorem ThinI.start (gd : Good os) (ft : FitS m os) : ThinI os m os.length (List.range os.length) os (prowsM os) := by
  have rg : ∀ {k : Nat}, k < os.length → (List.range os.length)[k]? = some k := fun {k} h => List.getElem?_range h
  have un : ∀ {k a : Nat}, (List.range os.length)[k]? = some a → k < os.length ∧ a = k := fun {k a} h => by
    have h1 := (List.getElem?_eq_some_iff.mp h).1
    rw [List.length_range] at h1
    rw [rg h1] at h
    exact ⟨h1, (Option.some.inj h).symm⟩
  refine ⟨List.length_range, fun k => rg, List.pairwise_lt_range, fun k a h => ?_, fun a c p x h => List.mem_range.mpr (List.getElem?_eq_some_iff.mp h).1, gd, ft, fun k a r h => ?_, fun y hy => ?_, fun y hy => hy, fun k hk g hg => ?_, fun w o _ h => h⟩
  · obtain ⟨h1, rfl⟩ := un h
    have e := List.getElem?_eq_getElem h1
    refine ⟨_, _, e, e, ?_⟩
    have g := gd.2 _ _ e
    generalize os[a] = o at g
    cases o with
    | pack c p => rfl
    | many c ts => rfl
    | add c p x =>
      obtain ⟨b, rfl, hb, _⟩ := g
      exact ⟨b, b, rfl, rg (by omega), rfl⟩
  · obtain ⟨h1, rfl⟩ := un h
    exact ra_rx h1
  · obtain ⟨l, hl, rfl⟩ := List.mem_map.mp hy
    obtain ⟨q, hq, hl⟩ := List.mem_flatMap.mp hl
    exact ⟨q, hq, linesAtM_p hl⟩
  · obtain ⟨c, p, h, _⟩ := hg
    have := (List.getElem?_eq_some_iff.mp h).1
    omega
theorem ThinI.off_iff (I : ThinI os m (j + 1) L cur xs) (r : Rw) : r ∈ rwsM (offP j xs) ↔ r ∈ rwsM (offP j (prowsM cur)) := by
  have lj := I.low j (by omega)
  rw [off_ra, mem_off]
  constructor
  · rintro ⟨y, hy, n, rfl⟩
    obtain ⟨a, ha, e⟩ := I.off y hy
    obtain ⟨k, hk⟩ := List.getElem?_of_mem ha
    refine ⟨k, fun z => n ?_, (I.row k a _ hk).mp ⟨y, hy, e, rfl⟩⟩
    rw [z, lj] at hk
    rw [e, Option.some.inj hk]
  · rintro ⟨k, n, h⟩
    have hk := ra_lt h
    rw [← I.len] at hk
    have gk := List.getElem?_eq_getElem hk
    obtain ⟨y, hy, e, er⟩ := (I.row k _ r gk).mpr h
    refine ⟨y, hy, fun z => n ?_, er⟩
    have ea : L[k] = j := by have := e.symm.trans z; omega
    rw [ea] at gk
    exact inc_inj I.inc gk lj
theorem ThinI.here (I : ThinI os m (j + 1) L cur xs) : ∃ o o', os[j]? = some o ∧ cur[j]? = some o' ∧ LeftIs L o o' := I.sub j j (I.low j (by omega))
theorem ThinI.adds_iff (I : ThinI os m (j + 1) L cur xs) : addsM os j = [] ↔ addsM cur j = [] := by
  have lj := I.low j (by omega)
  rw [adds_none, adds_none]
  constructor
  · intro h k c p e
    have hk := (List.getElem?_eq_some_iff.mp e).1
    rw [← I.len] at hk
    obtain ⟨o, o', e1, e2, lf⟩ := I.sub k _ (List.getElem?_eq_getElem hk)
    cases Option.some.inj (e2.symm.trans e)
    cases o with
    | pack c' p' => cases lf
    | many c' ts => cases lf
    | add c' p' x =>
      obtain ⟨j', b, rfl, hb, e3⟩ := lf
      injection e3 with e4 e5 e6
      have e7 : j' = j := by omega
      rw [e7, lj] at hb
      have e8 := Option.some.inj hb
      refine h (L[k]) c' p' ?_
      rw [e1, e8]
  · intro h a c p e
    obtain ⟨k, hk⟩ := List.getElem?_of_mem (I.adds a c p _ e)
    obtain ⟨o, o', e1, e2, lf⟩ := I.sub k a hk
    cases Option.some.inj (e1.symm.trans e)
    obtain ⟨j', b, eb, hb, e3⟩ := lf
    have e4 : b = j := by omega
    rw [e4] at hb
    have e5 := inc_inj I.inc hb lj
    refine h k c p ?_
    rw [e2, e3, e5]
theorem ThinI.spare_iff (I : ThinI os m (j + 1) L cur xs) (g : Int) : SpareX os xs j g ↔ SpareM cur j g := by
  obtain ⟨o, o', e1, e2, lf⟩ := I.here
  constructor
  · rintro ⟨c, p, h1, h2, h3, h4⟩
    cases Option.some.inj (e1.symm.trans h1)
    refine ⟨c, p, ?_, I.adds_iff.mp h2, least_iff I.off_iff h3, h4⟩
    rw [e2, show o' = _ from lf]
  · rintro ⟨c, p, h1, h2, h3, h4⟩
    cases Option.some.inj (e2.symm.trans h1)
    have eo : o = .pack c p := by
      cases o with
      | pack c' p' => exact (show _ = _ from lf).symm
      | many c' ts => cases lf
      | add c' p' x =>
        obtain ⟨_, _, _, _, z⟩ := lf
        cases z
    exact ⟨c, p, by rw [e1, eo], I.adds_iff.mpr h2, least_iff (fun r => (I.off_iff r).symm) h3, h4⟩
theorem ThinI.stay (I : ThinI os m (j + 1) L cur xs) (h : ∀ g, ¬ SpareM cur j g) : ThinI os m j L cur xs := by
  refine { I with low := fun k hk => I.low k (by omega), ns := fun k hk => ?_ }
  by_cases z : k = j
  · subst z
    exact h
  · exact I.ns k (by omega)
theorem ThinI.out {g : Int} (I : ThinI os m (j + 1) L cur xs) (h : SpareM cur j g) : ThinI os m j (L.eraseIdx j) (outS cur j) (offP j xs) := by
  obtain ⟨c, p, ho, hz, hli, hle⟩ := id h
  have hj := (List.getElem?_eq_some_iff.mp ho).1
  have lj := I.low j (by omega)
  obtain ⟨c2, p2, ho2, _⟩ := (I.spare_iff g).mpr h
  have ne : ∀ {k a : Nat}, L[upN j k]? = some a → a ≠ j := fun {k a} hk z => by
    rw [z] at hk
    exact up_ne (inc_inj I.inc hk lj)
  refine ⟨?_, fun k hk => ?_, I.inc.sublist (List.eraseIdx_sublist _ _), fun k a hk => ?_, fun a c p x ha => ?_, good_out ho hz I.gd, fit_out I.ft, fun k a r hk => ?_, fun y hy => ?_, fun y hy => I.xin y (offP_mem hy), fun k hk g' hg => ?_, fun w o hw hl => ?_⟩
  · rw [outS_len hj, List.length_eraseIdx_of_lt (by rw [I.len]; exact hj), I.len]
  · rw [get_erase, show upN j k = k from if_pos hk]
    exact I.low k (by omega)
  · rw [get_erase] at hk
    obtain ⟨o, o', e1, e2, lf⟩ := I.sub _ a hk
    refine ⟨o, shiftO j o', e1, by rw [outS_get, e2]; rfl, ?_⟩
    cases o with
    | pack c p => rw [show o' = _ from lf]; rfl
    | many c ts => rw [show o' = _ from lf]; rfl
    | add c' p' x =>
      obtain ⟨j', b, eb, hb, rfl⟩ := lf
      have nj : j' ≠ j := fun z => adds_none.mp hz _ c' p' (by rw [e2, z])
      obtain ⟨k', rfl⟩ := up_of nj
      refine ⟨k', b, eb, by rw [get_erase]; exact hb, ?_⟩
      show Ofr.add c' p' (dnI j ((upN j k' : Nat) : Int)) = _
      rw [dn_up]
  · obtain ⟨k, hk⟩ := List.getElem?_of_mem (I.adds a c p x ha)
    have nk : k ≠ j := fun z => by
      rw [z, lj] at hk
      rw [← Option.some.inj hk, ho2] at ha
      cases ha
    obtain ⟨k', rfl⟩ := up_of nk
    exact List.mem_of_getElem? (i := k') (by rw [get_erase]; exact hk)
  · rw [get_erase] at hk
    have na := ne hk
    rw [ra_out ho hz, ← I.row _ a r hk]
    constructor
    · rintro ⟨y, hy, e1, e2⟩
      exact ⟨y, offP_mem hy, e1, e2⟩
    · rintro ⟨y, hy, e1, e2⟩
      exact ⟨y, List.mem_filter.mpr ⟨hy, by rw [decide_eq_false (fun z => na (by have := e1.symm.trans z; omega))]; rfl⟩, e1, e2⟩
  · obtain ⟨h1, h2⟩ := List.mem_filter.mp hy
    obtain ⟨a, ha, e⟩ := I.off y h1
    obtain ⟨k, hk⟩ := List.getElem?_of_mem ha
    have nk : k ≠ j := fun z => by
      rw [z, lj] at hk
      rw [e, ← Option.some.inj hk, decide_eq_true rfl] at h2
      cases h2
    obtain ⟨k', rfl⟩ := up_of nk
    exact ⟨a, List.mem_of_getElem? (i := k') (by rw [get_erase]; exact hk), e⟩
  · obtain ⟨c3, p3, h1, h2, ⟨⟨q, q1, q2, q3⟩, _⟩, h4⟩ := hg
    have eu : upN j k = k + 1 := if_neg (by omega)
    rw [outS_get, eu] at h1
    rw [adds_out ho hz, eu, List.map_eq_nil_iff] at h2
    have h5 : cur[k + 1]? = some (.pack c3 p3) := by
      cases e : cur[k + 1]? with
      | none => rw [e] at h1; cases h1
      | some o =>
        rw [e] at h1
        have h6 := Option.some.inj h1
        cases o with
        | pack _ _ => rw [← h6]; rfl
        | many _ _ => cases h6
        | add _ _ _ => cases h6
    have nn := nn_off (i := k + 1) (rws_nn I.gd I.ft)
    have sq : SubM q (rwsM (offP (k + 1) (prowsM cur))) := fun r hr => by
      obtain ⟨k', n', hr'⟩ := off_ra.mp (q1 r hr)
      refine off_ra.mpr ⟨upN j k', fun z => n' ?_, (ra_out ho hz).mp hr'⟩
      rw [← eu] at z
      unfold upN at z
      split at z <;> split at z <;> omega
    obtain ⟨g3, l3, le3⟩ := least_ex nn _ q sq q2 (Nat.le_refl _)
    exact I.ns (k + 1) (by omega) g3 ⟨c3, p3, h5, h2, l3, by omega⟩
  · exact (least_out ho hz).mpr (spare_same I.gd I.ft h hw (I.ls w o hw hl))
end
open Classical in
/-- places and shop behind t turns -/
noncomputable def thinM (os : List Ofr) : Nat → List Nat × List Ofr
  | 0 => (List.range os.length, os)
  | t + 1 => if ∃ g, SpareM (thinM os t).2 (os.length - 1 - t) g then ((thinM os t).1.eraseIdx (os.length - 1 - t), outS (thinM os t).2 (os.length - 1 - t)) else thinM os t
open Classical in
theorem thin_out {os : List Ofr} {t : Nat} {g : Int} (h : SpareM (thinM os t).2 (os.length - 1 - t) g) : thinM os (t + 1) = ((thinM os t).1.eraseIdx (os.length - 1 - t), outS (thinM os t).2 (os.length - 1 - t)) := by
  show (if _ then _ else _) = _
  rw [if_pos ⟨g, h⟩]
open Classical in
theorem thin_stay {os : List Ofr} {t : Nat} (h : ∀ g, ¬ SpareM (thinM os t).2 (os.length - 1 - t) g) : thinM os (t + 1) = thinM os t := by
  show (if _ then _ else _) = _
  rw [if_neg fun ⟨g, z⟩ => h g z]
theorem thin_ok {os : List Ofr} {m : Nat} (gd : Good os) (ft : FitS m os) : ∀ t, t ≤ os.length → ∃ xs, ThinI os m (os.length - t) (thinM os t).1 (thinM os t).2 xs
  | 0, _ => ⟨_, .start gd ft⟩
  | t + 1, h => by
    obtain ⟨xs, I⟩ := thin_ok gd ft t (by omega)
    have e : os.length - t = (os.length - 1 - t) + 1 := by omega
    have e2 : os.length - (t + 1) = os.length - 1 - t := by omega
    rw [e] at I
    rw [e2]
    by_cases z : ∃ g, SpareM (thinM os t).2 (os.length - 1 - t) g
    · obtain ⟨g, hg⟩ := z
      rw [thin_out hg]
      exact ⟨_, I.out hg⟩
    · rw [thin_stay fun g hg => z ⟨g, hg⟩]
      exact ⟨_, I.stay fun g hg => z ⟨g, hg⟩⟩
/-! ### instead, among the rows that are left -/
def sp_insteadX : Sp := fun vs H Q _ => ∃ (S pa : Addr) (i m : Nat) (os : List Ofr) (as : List Addr) (xs : List PR), vs = [.ref S, .ref pa, .int i] ∧ ShopAt H S os ∧ Good os ∧ FitS m os ∧ m ≤ 4 ∧ i < os.length ∧ H pa = some (.lst (as.map V.ref)) ∧ Al (PRowAt H) as xs ∧ xs.length ≤ 2048 ∧ NN (rwsM (offP i xs)) ∧
  (∀ H', Same H H' → (∀ g, ¬ SpareX os xs i g) → Q .non H') ∧ ∀ H' (q : Addr) (g : Int), Same H H' → SpareX os xs i g → Q (.ref q) H'
section
variable {P : Program} {w : World} {K : PySem.W.Frag} {mg : Str → Option Value} {base : Heap} {T : List Addr}
theorem ok_insteadX {f f1 f2 f3 : Addr} {fd fd1 fd2 fd3 : FuncData} {k : Nat} (M : Names mg) (D : Def K mg "instead" s_instead ["shop", "priced", "place"] f fd) (D_adds_to : Def K mg "adds_to" s_adds_to ["shop", "place"] f1 fd1) (D_cheapest : Def K mg "cheapest" s_cheapest ["priced", "want"] f2 fd2) (D_without : Def K mg "without" s_without ["priced", "place"] f3 fd3)
    (G_cheapest : FnOk P w K mg base CX0 (k + 1) f2 fd2 ["priced", "want"] sp_cheapest) : FnOk P w K mg base CX0 (k + 2) f fd ["shop", "priced", "place"] sp_insteadX := by
  have G_adds_to : FnOk P w K mg base CX0 (k + 1) f1 fd1 ["shop", "place"] sp_adds_to := ok_adds_to M D_adds_to
  have G_without : FnOk P w K mg base CX0 (k + 1) f3 fd3 ["priced", "place"] sp_without := ok_without M D_without
  refine D.F.ok sc_instead (fun vs H Q E h => ?_) (fun cdv A outer s H vs Q E hr h => ?_)
  · obtain ⟨S, pa, i, m, os, as, xs, rfl, _⟩ := h
    rfl
  · obtain ⟨S, pa, i, m, os, as, xs, rfl, hS, gd, ft, hm, hi, hpa, al, lpr, nn, qn, qs⟩ := h
    obtain ⟨us, hSl, alu⟩ := hS.al
    have lu := alu.len
    have gi : us[i]? = some (us[i]'(by omega)) := List.getElem?_eq_getElem (by omega)
    have gv : (us.map V.ref)[i]? = some (.ref (us[i]'(by omega))) := by rw [List.getElem?_map, gi]; rfl
    obtain ⟨o, ho, hov⟩ := alu.get gi
    refine ⟨_, (pss_cutI (ps_if (PW.pt (pw_or (pt_cmpR op_ne (pe_ix ix_tup (pe_ix ix_list (pv 0) (pv 2) (fun _ _ => rfl)) pe_int (fun _ _ => rfl)) pe_str (nomark _)) (pw_or1 (pt_truth (pe_call G_adds_to hr (by rfl) D_adds_to.g D_adds_to.F.kp D_adds_to.b .nil pass0 (pa_cons (pv 0) (pa_cons (pv 2) pa_nil))) (by intro _; rfl)))))
   (pss_one (ps_ret pe_non))
   pss_nil)
  (pss_cons (ps_set (i := 3) sc_instead.nd rfl (Or.inl rfl) (pe_call G_cheapest hr (by rfl) D_cheapest.g D_cheapest.F.kp D_cheapest.b .nil pass0 (pa_cons (pe_call G_without hr (by rfl) D_without.g D_without.F.kp D_without.b .nil pass0 (pa_cons (pv 1) (pa_cons (pv 2) pa_nil))) (pa_cons (pe_ix ix_tup (pe_ix ix_list (pv 0) (pv 2) (fun _ _ => rfl)) pe_int (fun _ _ => rfl)) pa_nil))))
  (pss_cutI (ps_if (PW.pt (pw_or (pt_cmpR op_isN (pv 3) pe_non (nomark _)) (pw_or1 (pt_cmpR op_gt (pe_ix ix_tup (pv 3) pe_int (fun _ _ => rfl)) (pe_ix ix_tup (pe_ix ix_list (pv 0) (pv 2) (fun _ _ => rfl)) pe_int (fun _ _ => rfl)) (nomark _)))))
   (pss_one (ps_ret pe_non))
   pss_nil)
  (pss_one (ps_ret (pe_ix ix_tup (pv 3) pe_int (fun _ _ => rfl))))))), ?_⟩
    refine ⟨fun σ' H' => ∃ c p, o = .pack c p ∧ addsM os i = [] ∧ σ' = [some (.ref S), some (.ref pa), some (.int i), none] ∧ Same H H', ?_, fun σ1 H1 hI => ?_⟩
    · obtain ⟨b, r, h1, h2⟩ := hov.head
      refine ⟨_, rfl, _, rfl, S, _, _, _, rfl, rfl, SqL.of hSl, atI_nat gv, us[i], _, _, _, rfl, rfl, SqT.of h1, atI_nat (j := 0) rfl, rfl, ?_⟩
      match o, ho, hov with
      | .many c ts, ho, _ =>
        refine ⟨true, rfl, qn H (fun _ _ e => e) fun g hg => ?_⟩
        obtain ⟨c', p', h, _⟩ := hg
        rw [ho] at h
        cases h
      | .add c p kk, ho, _ =>
        refine ⟨true, rfl, qn H (fun _ _ e => e) fun g hg => ?_⟩
        obtain ⟨c', p', h, _⟩ := hg
        rw [ho] at h
        cases h
      | .pack c p, ho, _ =>
        refine ⟨false, rfl, _, rfl, _, rfl, S, os, i, rfl, hS, gd.1, fun H1 q1 s1 nq1 hq1 => ?_⟩
        cases z : addsM os i with
        | nil =>
          rw [z] at hq1
          exact ⟨false, .inl ⟨_, SqL.of hq1, rfl⟩, c, p, rfl, rfl, rfl, s1⟩
        | cons x y =>
          rw [z] at hq1
          refine ⟨true, .inl ⟨_, SqL.of hq1, rfl⟩, qn H1 s1 fun g hg => ?_⟩
          obtain ⟨c', p', h, h2, _⟩ := hg
          rw [z] at h2
          cases h2
    · obtain ⟨c, p, rfl, hz, rfl, s1⟩ := hI
      obtain ⟨b, h1, h2⟩ := hov
      have fo := ft _ (List.mem_of_getElem? ho)
      refine ⟨_, rfl, _, rfl, pa, i, as, xs, rfl, s1 _ _ hpa, al.imp fun a x h => h.ke (.of s1), lpr, fun H2 q2 bs s2 nq2 hq2 alb => ?_⟩
      have s12 := s1.trans s2
      refine ⟨_, rfl, _, rfl, S, _, _, _, rfl, rfl, SqL.of (s12 _ _ hSl), atI_nat gv, us[i], _, _, _, rfl, rfl, SqT.of (s12 _ _ h1), atI_nat (j := 1) rfl, q2, b, c, bs, offP i xs, rfl, hq2, alb, s12 _ _ h2, by rw [fo.1]; exact hm, fo.2.1, nn, fun H3 s3 li => ?_, fun H3 t q bls ys g s3 nt ht pur li sub cv cost eb hz0 pth => ?_⟩
      · refine ⟨fun _ _ => False, ?_, fun _ _ z => z.elim⟩
        refine ⟨_, rfl, rfl, true, rfl, ?_⟩
        refine qn H3 (s12.trans s3) fun g hg => ?_
        obtain ⟨c', p', h, _, li', _⟩ := hg
        cases Option.some.inj (ho.symm.trans h)
        exact absurd (leastIs_unique li li') (fun z => nomatch z)
      · have s13 := s12.trans s3
        refine ⟨fun σ' H' => g ≤ p ∧ σ' = [some (.ref S), some (.ref pa), some (.int i), some (.ref t)] ∧ H' = H3, ?_, fun σ4 H4 hI => ?_⟩
        · refine ⟨_, rfl, rfl, false, rfl, ?_⟩
          refine ⟨_, rfl, t, _, _, _, rfl, rfl, SqT.of ht, atI_nat (j := 0) rfl, _, rfl, _, rfl, S, _, _, _, rfl, rfl, SqL.of (s13 _ _ hSl), atI_nat gv, us[i], _, _, _, rfl, rfl, SqT.of (s13 _ _ h1), atI_nat (j := 2) rfl, _, _, rfl, rfl, ?_⟩
          by_cases e : g > p
          · refine ⟨true, (by show V.bl (decide (g > p)) = _; rw [decide_eq_true e]), qn H3 s13 fun g' hg => ?_⟩
            obtain ⟨c', p', h, _, li', le⟩ := hg
            cases Option.some.inj (ho.symm.trans h)
            have := Option.some.inj (leastIs_unique li li')
            omega
          · exact ⟨false, (by show V.bl (decide (g > p)) = _; rw [decide_eq_false e]), by omega, rfl, rfl⟩
        obtain ⟨le, rfl, rfl⟩ := hI
        refine ⟨_, rfl, t, _, _, _, rfl, rfl, SqT.of ht, atI_nat (j := 1) rfl, ?_⟩
        exact qs _ q g s13 ⟨c, p, ho, hz, li, le⟩
end
/-! ### offer_left, thinned -/
abbrev s_offer_left : Stmt := topS 32
abbrev N_offer_left : List Str := ["offer", "places"]
theorem sc_offer_left : FnScope N_offer_left ["offer", "places"] (defScope s_offer_left) := ⟨rfl, rfl, rfl, by decide +kernel, rfl, by decide +kernel, by decide +kernel⟩

abbrev s_thinned : Stmt := topS 33
abbrev N_thinned : List Str := ["shop", "priced", "places", "place"]
theorem sc_thinned : FnScope N_thinned ["shop"] (defScope s_thinned) := ⟨rfl, rfl, rfl, by decide +kernel, rfl, by decide +kernel, by decide +kernel⟩

/-- an offer that was told: its tuple's content, tiers and their tuples -/
structure Tof where
  b : Addr
  t : Addr
  us : List Addr
  o : Ofr
def Tof.own (e : Tof) : List Addr := match e.o with
  | .many _ _ => [e.b, e.t]
  | _ => [e.b]
def TofAt (H0 H : Hp) (r : Addr) (e : Tof) : Prop := H0 r = none ∧ H0 e.b = none ∧ H e.b = some (LI e.o.cont) ∧ match e.o with
  | .pack _ p => H r = some (.tup [.str "pack", .ref e.b, .int p])
  | .add _ p k => H r = some (.tup [.str "add", .ref e.b, .int p, .int k])
  | .many _ ts => H r = some (.tup [.str "many", .ref e.b, .ref e.t]) ∧ H0 e.t = none ∧ H e.t = some (.lst (e.us.map V.ref)) ∧ e.b ≠ e.t ∧ e.us.length = ts.length ∧ ∀ (i : Nat) u (t : Int × Int), e.us[i]? = some u → ts[i]? = some t → H u = some (.tup [.int t.1, .int t.2])
theorem TofAt.ke {H0 H H' : Hp} (k : Ke H H') {r : Addr} {e : Tof} (h : TofAt H0 H r e) : TofAt H0 H' r e := by
  obtain ⟨h1, h2, h3, h4⟩ := h
  refine ⟨h1, h2, k.lst h3, ?_⟩
  obtain ⟨b, t, us, o⟩ := e
  cases o with
  | pack c p => exact k.tup h4
  | add c p x => exact k.tup h4
  | many c ts =>
    obtain ⟨g1, g2, g3, g4, g5, g6⟩ := h4
    exact ⟨k.tup g1, g2, k.lst g3, g4, g5, fun i u t a b => k.tup (g6 i u t a b)⟩
theorem TofAt.free {H0 H1 H : Hp} (f : ∀ b, H1 b = none → H0 b = none) {r : Addr} {e : Tof} (h : TofAt H1 H r e) : TofAt H0 H r e := by
  obtain ⟨h1, h2, h3, h4⟩ := h
  refine ⟨f _ h1, f _ h2, h3, ?_⟩
  obtain ⟨b, t, us, o⟩ := e
  cases o with
  | pack c p => exact h4
  | add c p x => exact h4
  | many c ts =>
    obtain ⟨g1, g2, g3⟩ := h4
    exact ⟨g1, f _ g2, g3⟩
theorem TofAt.ofr {H0 H : Hp} {r : Addr} {e : Tof} (h : TofAt H0 H r e) : OfrAt H r e.o := by
  obtain ⟨h1, h2, h3, h4⟩ := h
  obtain ⟨b, t, us, o⟩ := e
  cases o with
  | pack c p => exact ⟨b, h4, h3⟩
  | add c p x => exact ⟨b, h4, h3⟩
  | many c ts =>
    obtain ⟨g1, g2, g3, g4, g5, g6⟩ := h4
    exact ⟨b, t, g1, h3, us, g3, g5, g6⟩
theorem TofAt.own_at {H0 H : Hp} {r : Addr} {e : Tof} (h : TofAt H0 H r e) : e.own.Nodup ∧ ∀ b ∈ e.own, H0 b = none ∧ ∃ xs, H b = some (.lst xs) := by
  obtain ⟨h1, h2, h3, h4⟩ := h
  obtain ⟨b, t, us, o⟩ := e
  cases o with
  | pack c p => exact ⟨List.nodup_cons.mpr ⟨(fun z => nomatch z), List.nodup_nil⟩, fun x hx => by rw [List.mem_singleton.mp hx]; exact ⟨h2, _, h3⟩⟩
  | add c p x => exact ⟨List.nodup_cons.mpr ⟨(fun z => nomatch z), List.nodup_nil⟩, fun x hx => by rw [List.mem_singleton.mp hx]; exact ⟨h2, _, h3⟩⟩
  | many c ts =>
    obtain ⟨g1, g2, g3, g4, g5, g6⟩ := h4
    refine ⟨List.nodup_cons.mpr ⟨fun z => g4 (List.mem_singleton.mp z), List.nodup_cons.mpr ⟨(fun z => nomatch z), List.nodup_nil⟩⟩, fun x hx => ?_⟩
    rcases List.mem_cons.mp hx with rfl | hx
    · exact ⟨h2, _, h3⟩
    · rw [List.mem_singleton.mp hx]
      exact ⟨g2, _, g3⟩
abbrev natI (L : List Nat) : List Int := L.map fun (n : Nat) => (n : Int)
theorem natI_get {L : List Nat} {j b : Nat} (h : L[j]? = some b) : (natI L)[j]? = some (b : Int) := by
  rw [List.getElem?_map, h]
  rfl
theorem flatI (xs : List Int) : (xs.map V.int).all flatV = true := List.all_eq_true.mpr fun v hv => by
  obtain ⟨x, _, rfl⟩ := List.mem_map.mp hv
  rfl
def sp_offer_left : Sp := fun vs H Q _ => ∃ (oa pl : Addr) (o o' : Ofr) (L : List Nat), vs = [.ref oa, .ref pl] ∧ OfrAt H oa o ∧ H pl = some (LI (natI L)) ∧ L.Pairwise (· < ·) ∧ LeftIs L o o' ∧
  ∀ H' r e, Same H H' → TofAt H H' r e → e.o = o' → H' e.b ≠ H' r → Q (.ref r) H'
def sp_withoutR : Sp := fun vs H Q _ => ∃ (R : Addr → PR → Prop) (pa : Addr) (p : Nat) (as : List Addr) (xs : List PR), vs = [.ref pa, .int p] ∧ H pa = some (.lst (as.map V.ref)) ∧ Al (PRowAt H) as xs ∧ Al R as xs ∧ xs.length ≤ 2048 ∧
  ∀ H' q (bs : List Addr), Same H H' → H q = none → H' q = some (.lst (bs.map V.ref)) → Al R bs (offP p xs) → Q (.ref q) H'
section
variable {P : Program} {w : World} {K : PySem.W.Frag} {mg : Str → Option Value} {base : Heap} {T : List Addr}
theorem ok_withoutR {f : Addr} {fd : FuncData} {k : Nat} (M : Names mg) (D : Def K mg "without" s_without ["priced", "place"] f fd) : FnOk P w K mg base CX0 (k + 1) f fd ["priced", "place"] sp_withoutR := by
  refine D.F.ok sc_without (fun vs H Q E h => ?_) (fun cdv A outer s H vs Q E hr h => ?_)
  · obtain ⟨R, pa, p, as, xs, rfl, _⟩ := h
    rfl
  · obtain ⟨R, pa, p, as, xs, rfl, hpa, al, alR, hl, q⟩ := h
    have lal := al.len
    refine ⟨_, (pss_one (ps_ret (pe_lc (own := [("row", 2)]) (by rfl) sc_without.nd (pi_list (pv 0)) (blkOk_by (own := [("row", 2)]) (N := N_without) (sc := defScope s_without) (by decide +kernel)) (fun _ _ _ _ _ => (pg_name (i := 2) sc_without.nd rfl (Or.inl rfl))) (fun _ _ _ _ _ => (pts_one (pt_cmpR op_ne (pe_ix (ix_tupK (K := K) rfl) (pe_ix (ix_tupK (K := K) rfl) (pv 2) pe_int (fun _ _ => rfl)) pe_int (fun _ _ => rfl)) (pv 1) (nomark _)))) (fun _ _ _ _ _ => (pv 2))))), ?_⟩
    refine ⟨_, rfl, pa, rfl, ⟨_, SqL.of hpa⟩, fun B nB => lc_list (K := K) (xs := as.map V.ref) (fun i H' => Same H H' ∧ ∃ bs : List Addr, H' B = some (.lst (bs.map V.ref)) ∧ bs.length ≤ i ∧ Al R bs (offP p (xs.take i))) ⟨same_upd nB, [], upd_same, Nat.le_refl _, True.intro⟩ (fun i H' _ hp => SqL.of (hp.1 _ _ hpa)) (fun i x H1 hx hp => ?_) (fun H1 hp => ?_)⟩
    · obtain ⟨s1, bs, hB, lb, alB⟩ := hp
      rw [List.getElem?_map] at hx
      cases hu : as[i]? with
      | none => rw [hu] at hx; cases hx
      | some u =>
        rw [hu] at hx
        cases Option.some.inj hx
        have hi := (List.getElem?_eq_some_iff.mp hu).1
        obtain ⟨x, hxi, hr0⟩ := al.get hu
        obtain ⟨x', hxi', hR⟩ := alR.get hu
        cases Option.some.inj (hxi.symm.trans hxi')
        obtain ⟨la, ca, h1, ⟨lb', h2, h3⟩, h4⟩ := id hr0
        have etk : xs.take (i + 1) = xs.take i ++ [x] := take_succ_at hxi
        refine ⟨rfl, _, rfl, u, _, _, _, rfl, rfl, SqT.of (s1 _ _ h1), atI_nat (j := 0) rfl, la, _, _, _, rfl, rfl, SqT.of (s1 _ _ h2), atI_nat (j := 0) rfl, _, rfl, rfl, ?_⟩
        by_cases e : x.1.p = (p : Int)
        · refine ⟨false, (by show V.bl (!decide (V.int x.1.p = V.int (p : Int))) = _; rw [decide_eq_true (by rw [e])]; rfl), s1, bs, hB, by omega, ?_⟩
          have e2 : offP p (xs.take (i + 1)) = offP p (xs.take i) := by
            unfold offP
            rw [etk, List.filter_append, List.filter_cons, decide_eq_true e]
            simp
          rw [e2]
          exact alB
        · refine ⟨true, (by show V.bl (!decide (V.int x.1.p = V.int (p : Int))) = _; rw [decide_eq_false (fun z => e (V.int.inj z))]; rfl), _, rfl, _, hB, szL' (by rw [List.length_map]; omega), sm_new s1 nB, bs ++ [u], ?_, by rw [List.length_append, List.length_singleton]; omega, ?_⟩
          · rw [upd_same, List.map_append]
            rfl
          · have e2 : offP p (xs.take (i + 1)) = offP p (xs.take i) ++ [x] := by
              unfold offP
              rw [etk, List.filter_append, List.filter_cons, decide_eq_false e]
              simp
            rw [e2]
            exact Al.app alB (.one hR)
    · obtain ⟨s1, bs, hB, lb, alB⟩ := hp
      rw [List.length_map, lal, List.take_length] at alB
      exact q H1 B bs s1 nB hB alB
theorem ok_offer_left {f : Addr} {fd : FuncData} {k : Nat} (M : Names mg) (D : Def K mg "offer_left" s_offer_left ["offer", "places"] f fd) : FnOk P w K mg base CX0 (k + 1) f fd ["offer", "places"] sp_offer_left := by
  refine D.F.ok sc_offer_left (fun vs H Q E h => ?_) (fun cdv A outer s H vs Q E hr h => ?_)
  · obtain ⟨oa, pl, o, o', L, rfl, _⟩ := h
    rfl
  · obtain ⟨oa, pl, o, o', L, rfl, ho, hpl, inc, lf, q⟩ := h
    refine ⟨_, (pss_cons (ps_if (pt_cmpR op_eq (pe_ix ix_tup (pv 0) pe_int (fun _ _ => rfl)) pe_str (nomark _))
   (pss_one (ps_ret (pe_tup (pa_cons pe_str (pa_cons (pe_callTy call_list_of (by rfl) M.list (by decide +kernel) (pa_cons (pe_ix ix_tup (pv 0) pe_int (fun _ _ => rfl)) pa_nil)) (pa_cons (pe_ix ix_tup (pv 0) pe_int (fun _ _ => rfl)) (pa_cons (pe_bm PySem.F.plainAttrs_list PySem.F.slot_list_index PySem.F.type_list_index mt_index (pv 1) (pa_cons (pe_ix ix_tup (pv 0) pe_int (fun _ _ => rfl)) pa_nil)) pa_nil)))))))
   pss_nil)
  (pss_cons (ps_if (pt_cmpR op_eq (pe_ix ix_tup (pv 0) pe_int (fun _ _ => rfl)) pe_str (nomark _))
   (pss_one (ps_ret (pe_tup (pa_cons pe_str (pa_cons (pe_callTy call_list_of (by rfl) M.list (by decide +kernel) (pa_cons (pe_ix ix_tup (pv 0) pe_int (fun _ _ => rfl)) pa_nil)) (pa_cons (pe_callTy call_list_of (by rfl) M.list (by decide +kernel) (pa_cons (pe_ix ix_tup (pv 0) pe_int (fun _ _ => rfl)) pa_nil)) pa_nil))))))
   pss_nil)
  (pss_one (ps_ret (pe_tup (pa_cons pe_str (pa_cons (pe_callTy call_list_of (by rfl) M.list (by decide +kernel) (pa_cons (pe_ix ix_tup (pv 0) pe_int (fun _ _ => rfl)) pa_nil)) (pa_cons (pe_ix ix_tup (pv 0) pe_int (fun _ _ => rfl)) pa_nil)))))))), ?_⟩
    cases o with
    | pack c p =>
      obtain ⟨b, h1, h2⟩ := ho
      cases lf
      refine ⟨_, rfl, oa, _, _, _, rfl, rfl, SqT.of h1, atI_nat (j := 0) rfl, rfl, false, rfl, ?_⟩
      refine ⟨_, rfl, oa, _, _, _, rfl, rfl, SqT.of h1, atI_nat (j := 0) rfl, rfl, false, rfl, ?_⟩
      refine ⟨_, rfl, oa, _, _, _, rfl, rfl, SqT.of h1, atI_nat (j := 1) rfl, b, _, rfl, .inl (SqL.of h2), fun B nB => ?_⟩
      have s1 := same_upd (o := .lst (c.map V.int)) nB
      have hB : upd H B (.lst (c.map V.int)) B = some (LI c) := upd_same
      generalize upd H B (.lst (c.map V.int)) = H1 at s1 hB ⊢
      refine ⟨_, rfl, oa, _, _, _, rfl, rfl, SqT.of (s1 _ _ h1), atI_nat (j := 2) rfl, by show 3 ≤ sizeLine; decide, fun r nr => ?_⟩
      have s2 := same_upd (o := .tup [.str "pack", .ref B, .int p]) nr
      have hr0 : upd H1 r (.tup [.str "pack", .ref B, .int p]) r = some (.tup [.str "pack", .ref B, .int p]) := upd_same
      have hB2 := s2 _ _ hB
      exact q _ r ⟨B, B, [], .pack c p⟩ (s1.trans s2) ⟨s1.free nr, nB, hB2, hr0⟩ rfl (by rw [hB2, hr0]; exact fun z => nomatch z)
    | many c ts =>
      obtain ⟨b, t, h1, h2, us, h3, h4, h5⟩ := ho
      cases lf
      refine ⟨_, rfl, oa, _, _, _, rfl, rfl, SqT.of h1, atI_nat (j := 0) rfl, rfl, false, rfl, ?_⟩
      refine ⟨_, rfl, oa, _, _, _, rfl, rfl, SqT.of h1, atI_nat (j := 0) rfl, rfl, true, rfl, ?_⟩
      refine ⟨_, rfl, oa, _, _, _, rfl, rfl, SqT.of h1, atI_nat (j := 1) rfl, b, _, rfl, .inl (SqL.of h2), fun B nB => ?_⟩
      have s1 := same_upd (o := .lst (c.map V.int)) nB
      have hB : upd H B (.lst (c.map V.int)) B = some (LI c) := upd_same
      generalize upd H B (.lst (c.map V.int)) = H1 at s1 hB ⊢
      refine ⟨_, rfl, oa, _, _, _, rfl, rfl, SqT.of (s1 _ _ h1), atI_nat (j := 2) rfl, t, _, rfl, .inl (SqL.of (s1 _ _ h3)), fun B2 nB2 => ?_⟩
      have s2 := same_upd (o := .lst (us.map V.ref)) nB2
      have hB2 : upd H1 B2 (.lst (us.map V.ref)) B2 = some (.lst (us.map V.ref)) := upd_same
      have neB := ne_of_none hB nB2
      have hB' := s2 _ _ hB
      generalize upd H1 B2 (.lst (us.map V.ref)) = H2 at s2 hB2 hB' ⊢
      refine ⟨by show 3 ≤ sizeLine; decide, fun r nr => ?_⟩
      have s3 := same_upd (o := .tup [.str "many", .ref B, .ref B2]) nr
      have hr0 : upd H2 r (.tup [.str "many", .ref B, .ref B2]) r = some (.tup [.str "many", .ref B, .ref B2]) := upd_same
      have s03 := (s1.trans s2).trans s3
      have hB3 := s3 _ _ hB'
      exact q _ r ⟨B, B2, us, .many c ts⟩ s03 ⟨(s1.trans s2).free nr, nB, hB3, hr0, s1.free nB2, s3 _ _ hB2, neB, h4, fun i u t a b => s03 _ _ (h5 i u t a b)⟩ rfl (by rw [hB3, hr0]; exact fun z => nomatch z)
    | add c p x =>
      obtain ⟨b, h1, h2⟩ := ho
      obtain ⟨j, y, rfl, hj, rfl⟩ := lf
      refine ⟨_, rfl, oa, _, _, _, rfl, rfl, SqT.of h1, atI_nat (j := 0) rfl, rfl, true, rfl, ?_⟩
      refine ⟨_, rfl, oa, _, _, _, rfl, rfl, SqT.of h1, atI_nat (j := 1) rfl, b, _, rfl, .inl (SqL.of h2), fun B nB => ?_⟩
      have s1 := same_upd (o := .lst (c.map V.int)) nB
      have hB : upd H B (.lst (c.map V.int)) B = some (LI c) := upd_same
      generalize upd H B (.lst (c.map V.int)) = H1 at s1 hB ⊢
      refine ⟨_, rfl, oa, _, _, _, rfl, rfl, SqT.of (s1 _ _ h1), atI_nat (j := 2) rfl, _, rfl, .inl ⟨rfl, _, SqL.of (s1 _ _ hpl)⟩, _, rfl, oa, _, _, _, rfl, rfl, SqT.of (s1 _ _ h1), atI_nat (j := 3) rfl, pl, _, _, j, _, rfl, rfl, SqL.of (s1 _ _ hpl), rfl, flatI _, get_ints (natI_get hj), ?_, fun n z hn hz => ?_, by show 4 ≤ sizeLine; decide, fun r nr => ?_⟩
      · show decide _ = true
        exact decide_eq_true rfl
      · obtain ⟨n', e', rfl⟩ := of_get_ints hz
        rw [List.getElem?_map] at e'
        cases e2 : L[n]? with
        | none => rw [e2] at e'; cases e'
        | some v =>
          rw [e2] at e'
          cases Option.some.inj e'
          show decide _ = false
          refine decide_eq_false fun z => ?_
          have : v = y := by have z' : ((v : Nat) : Int) = ((y : Nat) : Int) := z; omega
          subst this
          have := inc_inj inc e2 hj
          omega
      · have s2 := same_upd (o := .tup [.str "add", .ref B, .int p, .int (j : Nat)]) nr
        have hr0 : upd H1 r (.tup [.str "add", .ref B, .int p, .int (j : Nat)]) r = some (.tup [.str "add", .ref B, .int p, .int (j : Nat)]) := upd_same
        have hB2 := s2 _ _ hB
        exact q _ r ⟨B, B, [], .add c p j⟩ (s1.trans s2) ⟨s1.free nr, nB, hB2, hr0⟩ rfl (by rw [hB2, hr0]; exact fun z => nomatch z)
end
theorem map_erase {α β : Type} (f : α → β) : ∀ (l : List α) (j : Nat), (l.eraseIdx j).map f = (l.map f).eraseIdx j
  | [], _ => by simp
  | _ :: _, 0 => by simp
  | a :: r, j + 1 => by
    have := map_erase f r j
    simp [this]
theorem TofAt.cut {H0 H : Hp} {d : Addr} (hd : H0 d ≠ none) {r : Addr} {e : Tof} {ys : List V} (hl : H d = some (.lst ys)) (h : TofAt H0 H r e) : TofAt H0 (cutH d H) r e := by
  have ne : ∀ {x}, H0 x = none → x ≠ d := fun {x} h z => hd (by rw [← z]; exact h)
  obtain ⟨h1, h2, h3, h4⟩ := h
  refine ⟨h1, h2, cut_put (ne h2) h3, ?_⟩
  obtain ⟨b, t, us, o⟩ := e
  cases o with
  | pack c p => exact cut_put (ne h1) h4
  | add c p x => exact cut_put (ne h1) h4
  | many c ts =>
    obtain ⟨g1, g2, g3, g4, g5, g6⟩ := h4
    exact ⟨cut_put (ne h1) g1, g2, cut_put (ne g2) g3, g4, g5, fun i u t a b => cut_put (ne_of (g6 i u t a b) hl (fun z => nomatch z)) (g6 i u t a b)⟩
/-! ### thinned -/
theorem rg_range {n : Nat} : rgV 0 (n : Int) = (natI (List.range n)).map V.int := by
  unfold rgV
  rw [List.map_map, show ((n : Int) - 0).toNat = n by omega]
  refine List.map_congr_left fun i _ => ?_
  show V.int (0 + (i : Nat)) = V.int (i : Nat)
  rw [Int.zero_add]
/-- what thinned tells -/
structure ThinAt (os : List Ofr) (H0 H : Hp) (z q pl : Addr) (rs : List Addr) (es : List Tof) : Prop where
  hz : H z = some (.tup [.ref q, .ref pl])
  hq : H q = some (.lst (rs.map V.ref))
  hp : H pl = some (LI (natI (thinM os os.length).1))
  al : Al (TofAt H0 H) rs es
  eo : es.map (·.o) = (thinM os os.length).2
  nd : (q :: pl :: es.flatMap Tof.own).Nodup
  nq : H0 q = none
  np : H0 pl = none
  nz : H0 z = none
def sp_thinned (T : List Addr) : Sp := fun vs H Q _ => ∃ (S : Addr) (os : List Ofr) (m : Nat), vs = [.ref S] ∧ ShopAt H S os ∧ Good os ∧ FitS m os ∧ m ≤ 4 ∧ Tb T H ∧
  ∀ H' (z q pl : Addr) (rs : List Addr) (es : List Tof), Ext T H H' → ThinAt os H H' z q pl rs es → Q (.ref z) H'
section
variable {P : Program} {w : World} {K : PySem.W.Frag} {mg : Str → Option Value} {base : Heap} {T : List Addr}
theorem ok_thinned {f f1 f2 f3 f4 : Addr} {fd fd1 fd2 fd3 fd4 : FuncData} {k : Nat} (M : Names mg) (D : Def K mg "thinned" s_thinned ["shop"] f fd) (D_priced_lines : Def K mg "priced_lines" s_priced_lines ["shop"] f1 fd1) (D_instead : Def K mg "instead" s_instead ["shop", "priced", "place"] f2 fd2)
    (D_without : Def K mg "without" s_without ["priced", "place"] f3 fd3) (D_offer_left : Def K mg "offer_left" s_offer_left ["offer", "places"] f4 fd4)
    (G_priced_lines : FnOk P w K mg base CX0 (k + 1) f1 fd1 ["shop"] (sp_priced_lines T)) (G_instead : FnOk P w K mg base CX0 (k + 1) f2 fd2 ["shop", "priced", "place"] sp_insteadX) : FnOk P w K mg base CX0 (k + 2) f fd ["shop"] (sp_thinned T) := by
  have G_without : FnOk P w K mg base CX0 (k + 1) f3 fd3 ["priced", "place"] sp_withoutR := ok_withoutR M D_without
  have G_offer_left : FnOk P w K mg base CX0 (k + 1) f4 fd4 ["offer", "places"] sp_offer_left := ok_offer_left M D_offer_left
  refine D.F.ok sc_thinned (fun vs H Q E h => ?_) (fun cdv A outer s H vs Q E hr h => ?_)
  · obtain ⟨S, os, m, rfl, _⟩ := h
    rfl
  · obtain ⟨S, os, m, rfl, hS, gd, ft, hm, hT, q⟩ := h
    refine ⟨_, (pss_cons (ps_set (i := 1) sc_thinned.nd rfl (Or.inl rfl) (pe_call G_priced_lines hr (by rfl) D_priced_lines.g D_priced_lines.F.kp D_priced_lines.b .nil pass0 (pa_cons (pv 0) pa_nil)))
  (pss_cons (ps_set (i := 2) sc_thinned.nd rfl (Or.inr rfl) (pe_listRg rfl (by rfl) M.list (prg_1 (by rfl) M.range (pe_callB call_len_seq (by rfl) M.len (by decide +kernel) (pa_cons (pv 0) pa_nil)))))
  (pss_cons (ps_for PassesOwn.never rfl (pi_revR (by rfl) M.reversed (prg_1 (by rfl) M.range (pe_callB call_len_seq (by rfl) M.len (by decide +kernel) (pa_cons (pv 0) pa_nil)))) (pg_name (i := 3) sc_thinned.nd rfl (Or.inl rfl))
   (pss_one (ps_if (pt_cmpR op_notN (pe_call G_instead hr (by rfl) D_instead.g D_instead.F.kp D_instead.b .nil pass0 (pa_cons (pv 0) (pa_cons (pv 1) (pa_cons (pv 3) pa_nil)))) pe_non (nomark _))
   (pss_cons (ps_expr (pe_bm PySem.F.plainAttrs_list PySem.F.slot_list_remove PySem.F.type_list_remove mt_remove (pv 2) (pa_cons (pv 3) pa_nil)))
  (pss_one (ps_set (i := 1) sc_thinned.nd rfl (Or.inl rfl) (pe_call G_without hr (by rfl) D_without.g D_without.F.kp D_without.b .nil pass0 (pa_cons (pv 1) (pa_cons (pv 3) pa_nil))))))
   pss_nil)))
  (pss_one (ps_ret (pe_tup (pa_cons (pe_lc (own := [("place", 3)]) (by rfl) sc_thinned.nd (pi_list (pv 2)) (blkOk_by (own := [("place", 3)]) (N := N_thinned) (sc := defScope s_thinned) (by decide +kernel)) (fun _ _ _ _ _ => (pg_name (i := 3) sc_thinned.nd rfl (Or.inl rfl))) (fun _ _ _ _ _ => pts_nil) (fun _ _ _ _ _ => (pe_call G_offer_left hr (by rfl) D_offer_left.g D_offer_left.F.kp D_offer_left.b .nil pass0 (pa_cons (pe_ix (ix_listK (K := K) rfl) (pv 0) (pv 3) (fun _ _ => rfl)) (pa_cons (pv 2) pa_nil))))) (pa_cons (pv 2) pa_nil)))))))), ?_⟩
    refine ⟨_, rfl, S, os, rfl, hS, gd, ft.fit hm, hT, fun H1 pa e1 npa hpr => ?_⟩
    obtain ⟨as, hpa, al⟩ := hpr
    have hS1 := hS.ext e1
    have alA : Al (PRowAt H1) as (prowsM os) := al.imp fun r x h => h.at
    obtain ⟨us, hSl, alu⟩ := id hS1.al
    have lu := alu.len
    have h8 := gd.1
    have lpr : (prowsM os).length ≤ 2048 := by
      have := linesN_len gd.1 os.length
      unfold prowsM linesM
      rw [List.length_map]
      omega
    have el : ((us.map V.ref).length : Int) = ((os.length : Nat) : Int) := by rw [List.length_map, lu]
    refine ⟨_, rfl, S, _, rfl, .inl (SqL.of hSl), _, rfl, ?_⟩
    rw [el]
    refine ⟨RgOk.of_le (by omega) (by omega) (by omega) (by omega), fun L0 nL0 => ?_⟩
    rw [rg_range]
    have sL := same_upd (o := .lst ((natI (List.range os.length)).map V.int)) nL0
    have hL0 : upd H1 L0 (.lst ((natI (List.range os.length)).map V.int)) L0 = some (LI (natI (List.range os.length))) := upd_same
    have npL : pa ≠ L0 := ne_of_none hpa nL0
    generalize upd H1 L0 (.lst ((natI (List.range os.length)).map V.int)) = H2 at sL hL0 ⊢
    have keepC : ∀ {H' : Hp}, Same H1 H' → Same H1 (cutH L0 H') := fun {H'} s b o h => cut_put (ne_of_none h nL0) (s _ _ h)
    refine ⟨_, rfl, S, _, rfl, .inl (SqL.of (sL _ _ hSl)), _, rfl, ?_⟩
    rw [el]
    refine ⟨by omega, by omega, by omega, by omega, ?_⟩
    have en : (((os.length : Nat) : Int) - 0).toNat = os.length := by omega
    rw [en]
    refine for_rangeC (fun t σ H' => ∃ (y3 : Option V) (pa : Addr) (as : List Addr) (xs : List PR), σ = [some (.ref S), some (.ref pa), some (.ref L0), y3] ∧ Same H1 H' ∧ H' L0 = some (LI (natI (thinM os t).1)) ∧ H' pa = some (.lst (as.map V.ref)) ∧ pa ≠ L0 ∧ Al (PRowAt (cutH L0 H')) as xs ∧ ThinI os m (os.length - t) (thinM os t).1 (thinM os t).2 xs ∧ xs.length ≤ 2048) ⟨none, pa, as, prowsM os, rfl, sL, hL0, sL _ _ hpa, npL, alA.imp fun a x h => h.ke (.of (keepC sL)), .start gd ft, lpr⟩ (fun t σ H3 ht hp => ?_) (fun σ H3 hp => ?_)
    · obtain ⟨y3, pa', as', xs, rfl, s3, hL3, hpa3, npL', al3, I, lx⟩ := hp
      have ev : (0 : Int) + (os.length : Nat) - 1 + (t : Nat) * (-1) = ((os.length - 1 - t : Nat) : Int) := by omega
      rw [ev]
      have erem : os.length - t = (os.length - 1 - t) + 1 := by omega
      have erem2 : os.length - (t + 1) = os.length - 1 - t := by omega
      have hj : os.length - 1 - t < os.length := by omega
      rw [erem] at I
      have nn : NN (rwsM (offP (os.length - 1 - t) xs)) := fun r hr => by
        obtain ⟨y, hy, rfl⟩ := List.mem_map.mp hr
        exact rws_nn gd ft _ (List.mem_map.mpr ⟨y, I.xin y (offP_mem hy), rfl⟩)
      refine ⟨_, rfl, _, rfl, _, rfl, S, pa', os.length - 1 - t, m, os, as', xs, rfl, hS1.same s3, gd, ft, hm, hj, hpa3, al3.imp fun a x h => h.ke (.of cut_le), lx, nn, fun H4 s4 no => ?_, fun H4 q4 g s4 sp => ?_⟩
      · refine ⟨rfl, false, rfl, some (.int ((os.length - 1 - t : Nat) : Int)), pa', as', xs, rfl, s3.trans s4, ?_, s4 _ _ hpa3, npL', al3.imp fun a x h => h.ke (.of (cut_mono s4)), ?_, lx⟩
        · rw [thin_stay fun g hg => no g ((I.spare_iff g).mpr hg)]
          exact s4 _ _ hL3
        · rw [thin_stay fun g hg => no g ((I.spare_iff g).mpr hg), erem2]
          exact I.stay fun g hg => no g ((I.spare_iff g).mpr hg)
      · have spM := (I.spare_iff g).mp sp
        have hL4 := s4 _ _ hL3
        have lj := I.low (os.length - 1 - t) (by omega)
        refine ⟨rfl, true, rfl, ?_⟩
        refine ⟨_, rfl, .inl ⟨rfl, _, SqL.of hL4⟩, _, rfl, L0, natI (thinM os t).1, _, os.length - 1 - t, rfl, rfl, hL4, natI_get lj, fun n hn z => ?_, ?_⟩
        · have h1 := I.low n (by omega)
          rw [natI_get h1] at z
          have := Option.some.inj z
          omega
        · have al4 : Al (PRowAt (cutH L0 (upd H4 L0 (.lst (((natI (thinM os t).1).eraseIdx (os.length - 1 - t)).map V.int))))) as' xs := by
            rw [cut_off]
            exact al3.imp fun a x h => h.ke (.of (cut_mono s4))
          have e5 : (natI (thinM os t).1).eraseIdx (os.length - 1 - t) = natI (thinM os (t + 1)).1 := by
            rw [thin_out spM]
            exact (map_erase _ _ _).symm
          have s5 : Same H1 (upd H4 L0 (.lst (((natI (thinM os t).1).eraseIdx (os.length - 1 - t)).map V.int))) := sm_new (s3.trans s4) nL0
          have hL5 : upd H4 L0 (.lst (((natI (thinM os t).1).eraseIdx (os.length - 1 - t)).map V.int)) L0 = some (LI (natI (thinM os (t + 1)).1)) := by rw [upd_same, e5]
          have hpa5 : upd H4 L0 (.lst (((natI (thinM os t).1).eraseIdx (os.length - 1 - t)).map V.int)) pa' = some (.lst (as'.map V.ref)) := by rw [upd_ne npL']; exact s4 _ _ hpa3
          generalize upd H4 L0 (.lst (((natI (thinM os t).1).eraseIdx (os.length - 1 - t)).map V.int)) = H5 at al4 s5 hL5 hpa5 ⊢
          refine ⟨_, rfl, _, rfl, PRowAt (cutH L0 H5), pa', os.length - 1 - t, as', xs, rfl, hpa5, al4.imp fun a x h => h.ke (.of cut_le), al4, lx, fun H6 q6 bs s6 nq6 hq6 alb => ?_⟩
          refine ⟨some (.int ((os.length - 1 - t : Nat) : Int)), q6, bs, offP (os.length - 1 - t) xs, rfl, s5.trans s6, s6 _ _ hL5, hq6, (ne_of_none hL5 nq6).symm, alb.imp fun a x h => h.ke (.of (cut_mono s6)), ?_, Nat.le_trans (List.length_filter_le _ _) lx⟩
          rw [thin_out spM, erem2]
          exact I.out spM
    · obtain ⟨y3, pa', as', xs, rfl, s3, hL3, hpa3, npL', al3, I, lx⟩ := hp
      rw [Nat.sub_self] at I
      have hS3 := hS1.same s3
      have hSl3 := s3 _ _ hSl
      have lL : (thinM os os.length).1.length = (thinM os os.length).2.length := I.len
      have l8 := I.gd.1
      refine ⟨_, rfl, L0, rfl, ⟨_, SqL.of hL3⟩, fun B nB => lc_list (K := K) (xs := (natI (thinM os os.length).1).map V.int) (fun i H' => Same H3 H' ∧ ∃ (rs : List Addr) (es : List Tof), H' B = some (.lst (rs.map V.ref)) ∧ es.length ≤ i ∧ es.map (·.o) = (thinM os os.length).2.take i ∧ Al (TofAt H3 (cutH B H')) rs es ∧ (es.flatMap Tof.own).Nodup) ⟨same_upd nB, [], [], upd_same, Nat.le_refl _, rfl, True.intro, List.nodup_nil⟩ (fun i H' _ hp => SqL.of (hp.1 _ _ hL3)) (fun i x H4 hx hp => ?_) (fun H4 hp => ?_)⟩
      · obtain ⟨s4, rs, es, hB4, le, eo, al4, nd⟩ := hp
        obtain ⟨a', ha', rfl⟩ := of_get_ints hx
        rw [List.getElem?_map] at ha'
        cases ea : (thinM os os.length).1[i]? with
        | none => rw [ea] at ha'; cases ha'
        | some a =>
          rw [ea] at ha'
          cases Option.some.inj ha'
          obtain ⟨o, o', ho, ho', lf⟩ := I.sub i a ea
          have ha := (List.getElem?_eq_some_iff.mp ho).1
          have hi := (List.getElem?_eq_some_iff.mp ho').1
          have gv : (us.map V.ref)[a]? = some (.ref (us[a]'(by omega))) := by rw [List.getElem?_map, List.getElem?_eq_getElem (by omega)]; rfl
          obtain ⟨o2, ho2, hov⟩ := alu.get (List.getElem?_eq_getElem (show a < us.length by omega))
          cases Option.some.inj (ho.symm.trans ho2)
          have s14 := s3.trans s4
          refine ⟨rfl, _, rfl, _, rfl, S, _, _, _, rfl, rfl, SqL.of (s14 _ _ hSl), atI_nat gv, _, rfl, us[a], L0, o, o', (thinM os os.length).1, rfl, hov.same s14, s4 _ _ hL3, I.inc, lf, fun H5 r e s5 tof eeo _ => ?_⟩
          have hB5 := s5 _ _ hB4
          have hB4n : H4 B ≠ none := by rw [hB4]; exact fun z => nomatch z
          have lrs := al4.len
          refine ⟨_, hB5, szL' (by rw [List.length_map]; omega), sm_new (s4.trans s5) nB, rs ++ [r], es ++ [e], ?_, by rw [List.length_append]; show es.length + 1 ≤ _; omega, ?_, ?_, ?_⟩
          · rw [upd_same, List.map_append]
            rfl
          · rw [List.map_append, eo, take_succ_at ho', List.map_singleton, eeo]
          · rw [cut_off]
            refine Al.app (al4.imp fun a x h => h.ke (.of (cut_mono s5))) (.one ?_)
            exact (tof.cut hB4n hB5).free fun b hb => s4.free hb
          · rw [List.flatMap_append, List.flatMap_singleton]
            refine List.nodup_append.mpr ⟨nd, tof.own_at.1, fun x hx y hy e' => ?_⟩
            subst e'
            obtain ⟨e0, he0, hx0⟩ := List.mem_flatMap.mp hx
            obtain ⟨r0, hr0⟩ := al_back al4 e0 he0
            obtain ⟨ys, hys⟩ := (hr0.own_at.2 x hx0).2
            have h1 := (cut_some hys).2
            rw [(tof.own_at.2 x hy).1] at h1
            cases h1
      · obtain ⟨s4, rs, es, hB4, le, eo, al4, nd⟩ := hp
        rw [List.length_map, List.length_map, lL, List.take_length] at eo
        have hL4 := s4 _ _ hL3
        refine ⟨_, rfl, by show 2 ≤ sizeLine; decide, fun z nz => ?_⟩
        have sz := same_upd (o := .tup [.ref B, .ref L0]) nz
        have hz : upd H4 z (.tup [.ref B, .ref L0]) z = some (.tup [.ref B, .ref L0]) := upd_same
        generalize upd H4 z (.tup [.ref B, .ref L0]) = H5 at sz hz ⊢
        have s15 := (s3.trans s4).trans sz
        have own_new : ∀ b ∈ es.flatMap Tof.own, H3 b = none ∧ b ≠ B := fun b hb => by
          obtain ⟨e0, he0, hx0⟩ := List.mem_flatMap.mp hb
          obtain ⟨r0, hr0⟩ := al_back al4 e0 he0
          obtain ⟨h1, ys, hys⟩ := hr0.own_at.2 b hx0
          exact ⟨h1, (cut_some hys).1⟩
        have f3 : ∀ b, H3 b = none → H b = none := fun b hb => e1.free _ (s3.free hb)
        refine q H5 z B L0 rs es (e1.trans (.same s15 e1.t1)) ⟨hz, sz _ _ hB4, sz _ _ hL4, al4.imp fun a x h => (h.ke (.of (cut_le.trans sz))).free f3, eo, ?_, f3 _ nB, e1.free _ nL0, f3 _ (s4.free nz)⟩
        refine List.nodup_cons.mpr ⟨fun z => ?_, List.nodup_cons.mpr ⟨fun z => ?_, nd⟩⟩
        · rcases List.mem_cons.mp z with z | z
          · rw [z, hL3] at nB
            cases nB
          · exact (own_new B z).2 rfl
        · have := (own_new L0 z).1
          rw [hL3] at this
          cases this
end
/-! ### a number or None -/
def optV : Option Int → V
  | none => .non
  | some p => .int p
/-! ### _law_pop -/
abbrev s_law_pop : Stmt := topS 37
abbrev N_law_pop : List Str := ["_law_draws_here"]
theorem sc_law_pop : FnScope N_law_pop ["_law_draws_here"] (defScope s_law_pop) := ⟨rfl, rfl, rfl, by decide +kernel, rfl, by decide +kernel, by decide +kernel⟩

def sp_pop : Sp := fun vs H Q _ => ∃ (a : Addr) (ns : List Int), vs = [.ref a] ∧ H a = some (LI ns) ∧ ∀ H', SameBut a H H' → H' a = some (LI ns.tail) → Q (.int (ns.headD 0)) H'
section
variable {P : Program} {w : World} {K : PySem.W.Frag} {mg : Str → Option Value} {base : Heap}
theorem ok_pop {f : Addr} {fd : FuncData} {k : Nat} (D : Def K mg "_law_pop" s_law_pop ["_law_draws_here"] f fd) : FnOk P w K mg base CX0 (k + 1) f fd ["_law_draws_here"] sp_pop := by
  refine D.F.ok sc_law_pop (fun vs H Q E h => ?_) (fun cdv A outer s H vs Q E hr h => ?_)
  · obtain ⟨a, ns, rfl, _⟩ := h
    rfl
  · obtain ⟨a, ns, rfl, ha, q⟩ := h
    refine ⟨_, (pss_cons (ps_if (pt_cmpR (op_eqD hr.units) (pv 0) (pe_lst pa_nil) (nomark _))
   (pss_one (ps_ret pe_int))
   pss_nil)
  (pss_one (ps_ret (pe_bm PySem.F.plainAttrs_list PySem.F.slot_list_pop PySem.F.type_list_pop mt_popAt (pv 0) (pa_cons pe_int pa_nil))))), ?_⟩
    refine ⟨.ref a, rfl, Nat.zero_le _, fun p np => ?_⟩
    have ne : a ≠ p := ne_of_none ha np
    have ha1 : upd H p (.lst []) a = some (LI ns) := by rw [upd_ne ne]; exact ha
    have s1 : SameBut a H (upd H p (.lst [])) := .of (same_upd np)
    refine ⟨_, _, dp_ints (SqL.of ha1), dp_ints (ns := []) (SqL.of upd_same), shaped_ints _, shaped_ints _, _, rfl, ite2 (fun e => ?_) (fun e => ?_)⟩
    · rw [eqv_ints] at e
      have e2 : ns = [] := of_decide_eq_true e
      subst e2
      exact q _ s1 ha1
    · rw [eqv_ints] at e
      cases ns with
      | nil => exact absurd (decide_eq_true rfl) e
      | cons n r =>
        refine ⟨.ref a, rfl, .inl ⟨rfl, _, SqL.of ha1⟩, a, _, 0, 0, .int n, rfl, rfl, ha1, by decide, by decide, ?_, rfl, ?_⟩
        · rw [List.length_map, List.length_cons]
          exact (ixN_seq (ixN_nat (Nat.succ_pos _))).1
        · exact q _ (s1.trans .upd) upd_same
end
/-! ### _law_mix, _law_draws -/
abbrev s_law_mix : Stmt := topS 35
abbrev N_law_mix : List Str := ["_law_cell", "_law_turn", "_law_number_here"]
theorem sc_law_mix : FnScope N_law_mix ["_law_cell", "_law_turn"] (defScope s_law_mix) := ⟨rfl, rfl, rfl, by decide +kernel, rfl, by decide +kernel, by decide +kernel⟩

abbrev s_law_draws : Stmt := topS 36
abbrev N_law_draws : List Str := ["_law_script", "_law_turn", "_law_many", "_law_cells", "_law_lefts", "_law_found", "_law_k", "_law_at", "_law_number_here", "_law_cell"]
theorem sc_law_draws : FnScope N_law_draws ["_law_script", "_law_turn", "_law_many"] (defScope s_law_draws) := ⟨rfl, rfl, rfl, by decide +kernel, rfl, by decide +kernel, by decide +kernel⟩

theorem cut_to (ns : List Int) (k : Nat) : cutV (ns.map V.int) none (some (k : Int)) = (ns.take k).map V.int := by
  unfold cutV
  rw [HT.sIx_nat, HT.sIx_none, List.drop_zero, Nat.sub_zero, List.map_take]
  exact (List.take_eq_take_iff).mpr (by omega)
theorem cut_ints (ns : List Int) (lo hi : Option Int) : ∃ ms : List Int, cutV (ns.map V.int) lo hi = ms.map V.int ∧ ms.length ≤ ns.length := by
  refine ⟨(ns.drop (HT.sIx (ns.map V.int).length 0 lo)).take (HT.sIx (ns.map V.int).length (ns.map V.int).length hi - HT.sIx (ns.map V.int).length 0 lo), ?_, ?_⟩
  · unfold cutV
    rw [List.map_take, List.map_drop]
  · rw [List.length_take, List.length_drop]
    omega
def sp_mix : Sp := fun vs H Q _ => ∃ (c : Int) (t : Nat), vs = [.int c, .int t] ∧ t ≤ 5000 ∧ ∀ n : Int, 0 ≤ n → n < 2147483629 → Q (.int n) H
def sp_draws (K : PySem.W.Frag) : Sp := fun vs H Q _ => ∃ (a : Addr) (ns : List Int) (t m : Nat), vs = [.ref a, .int t, .int m] ∧ SqL K H a (ns.map V.int) ∧ ns.length ≤ 1000 ∧ t ≤ 1000 ∧ m ≤ 1000 ∧
  ∀ H' p ds, Same H H' → H p = none → H' p = some (LI ds) → Q (.ref p) H'
section
variable {P : Program} {w : World} {K : PySem.W.Frag} {mg : Str → Option Value} {base : Heap}
theorem ok_mix {f : Addr} {fd : FuncData} {k : Nat} (D : Def K mg "_law_mix" s_law_mix ["_law_cell", "_law_turn"] f fd) : FnOk P w K mg base CX0 (k + 1) f fd ["_law_cell", "_law_turn"] sp_mix := by
  refine D.F.ok sc_law_mix (fun vs H Q E h => ?_) (fun cdv A outer s H vs Q E hr h => ?_)
  · obtain ⟨c, t, rfl, _⟩ := h
    rfl
  · obtain ⟨c, t, rfl, ht, q⟩ := h
    have mb : ∀ z : Int, -(2 ^ 64) < z % 2147483647 ∧ z % 2147483647 < 2 ^ 64 := fun z => by omega
    refine ⟨_, (pss_cons (ps_set (i := 2) sc_law_mix.nd rfl (Or.inl rfl) (pe_op op_mod (pe_op op_mul (pe_op op_add (pe_op op_add (pe_op op_mod (pv 0) pe_int) (pe_op op_mul (pe_op op_mul (pv 1) (pv 1)) pe_int)) pe_int) pe_int) pe_int))
  (pss_one (ps_ret (pe_op op_mod (pe_op op_add (pe_op op_mul (pv 2) (pv 2)) (pe_op op_mul pe_int (pv 1))) pe_int)))), ?_⟩
    refine ⟨_, rfl, _, _, rfl, rfl, (by show (0 : Int) < _; decide), _, rfl, _, rfl, _, _, rfl, rfl, .inl ⟨by omega, by omega⟩, _, _, rfl, rfl, .inr ⟨by decide, by decide⟩, _, _, rfl, rfl, _, _, rfl, rfl, _, _, rfl, rfl, .inr ⟨by decide, by decide⟩, _, _, rfl, rfl, (by show (0 : Int) < _; decide), ?_⟩
    refine ⟨_, rfl, _, rfl, _, _, rfl, rfl, .inl (mb _), _, rfl, _, _, rfl, rfl, .inl ⟨by decide, by decide⟩, _, _, rfl, rfl, _, _, rfl, rfl, (by show (0 : Int) < _; decide), ?_⟩
    exact q _ (Int.emod_nonneg _ (by decide)) (Int.emod_lt_of_pos _ (by decide))
theorem ok_draws {f f1 : Addr} {fd fd1 : FuncData} {k : Nat} (M : Names mg) (D : Def K mg "_law_draws" s_law_draws ["_law_script", "_law_turn", "_law_many"] f fd) (D_law_mix : Def K mg "_law_mix" s_law_mix ["_law_cell", "_law_turn"] f1 fd1) :
    FnOk P w K mg base CX0 (k + 2) f fd ["_law_script", "_law_turn", "_law_many"] (sp_draws K) := by
  have G_law_mix : FnOk P w K mg base CX0 (k + 1) f1 fd1 ["_law_cell", "_law_turn"] sp_mix := ok_mix D_law_mix
  refine D.F.ok sc_law_draws (fun vs H Q E h => ?_) (fun cdv A outer s H vs Q E hr h => ?_)
  · obtain ⟨a, ns, t, m, rfl, _⟩ := h
    rfl
  · obtain ⟨a, ns, t, m, rfl, hS, hl, ht, hm, q⟩ := h
    refine ⟨_, (pss_cons (ps_set (i := 3) sc_law_draws.nd rfl (Or.inl rfl) (pe_op op_cat (pe_slice sl_list (pv 0) po_none (po_some pe_int)) (pe_lst (pa_cons (pv 1) pa_nil))))
  (pss_cons (ps_setLc (i := 4) (own := [("_law_cell", 9)]) (by rfl) sc_law_draws.nd rfl rfl (sw_true rfl rfl rfl (by decide +kernel)) (pi_list (pv 3)) (blkOk_by (own := [("_law_cell", 9)]) (N := N_law_draws) (sc := defScope s_law_draws) (by decide +kernel)) (fun _ _ _ _ _ => (pg_name (i := 9) sc_law_draws.nd rfl (Or.inl rfl))) (fun _ _ _ _ _ => pts_nil) (fun _ _ _ _ _ => (pe_op op_fdiv (pv 9) pe_int)))
  (pss_cons (ps_set (i := 5) sc_law_draws.nd rfl (Or.inl rfl) (pe_lst pa_nil))
  (pss_cons (ps_for PassesOwn.never rfl (pi_range1 (by rfl) M.range (pa_cons (pe_op op_add (pv 1) (pv 2)) pa_nil)) (pg_name (i := 6) sc_law_draws.nd rfl (Or.inl rfl))
   (pss_cons (ps_set (i := 7) sc_law_draws.nd rfl (Or.inl rfl) (pe_op op_mod (pv 6) (pe_callB call_len_seq (by rfl) M.len (by decide +kernel) (pa_cons (pv 3) pa_nil))))
  (pss_cons (ps_set (i := 8) sc_law_draws.nd rfl (Or.inl rfl) (pe_call G_law_mix hr (by rfl) D_law_mix.g D_law_mix.F.kp D_law_mix.b .nil pass0 (pa_cons (pe_ix ix_list (pv 3) (pv 7) (fun _ _ => rfl)) (pa_cons (pv 6) pa_nil))))
  (pss_cons (ps_set (i := 8) sc_law_draws.nd rfl (Or.inl rfl) (pe_op op_mod (pe_op op_add (pe_op op_mul (pv 8) (pv 8)) (pe_op op_mul pe_int (pv 6))) pe_int))
  (pss_cutI (ps_if (PW.pt (pw_and (pt_cmpR op_ge (pe_ix ix_list (pv 3) (pv 7) (fun _ _ => rfl)) (pe_op op_pow pe_int pe_int) (nomark _)) (pw_and1 (pt_cmpR op_gt (pe_ix ix_list (pv 4) (pv 7) (fun _ _ => rfl)) pe_int (nomark _)))))
   (pss_cons (ps_set (i := 8) sc_law_draws.nd rfl (Or.inl rfl) (pe_op op_mod (pe_ix ix_list (pv 4) (pv 7) (fun _ _ => rfl)) pe_int))
  (pss_one (ps_asg (pe_op op_fdivW (pe_ix ix_list (pv 4) (pv 7) (fun _ _ => rfl)) pe_int) (pg_sub (pv 4) (pv 7) set_list))))
   pss_nil)
  (pss_one (ps_expr (pe_bm PySem.F.plainAttrs_list PySem.F.slot_list_append PySem.F.type_list_append mt_append (pv 5) (pa_cons (pv 8) pa_nil)))))))))
  (pss_one (ps_ret (pe_slice sl_list (pv 5) (po_some (pv 1)) po_none))))))), ?_⟩
    refine ⟨.ref a, rfl, 63, rfl, a, ns.map V.int, rfl, hS, fun c nc => ?_⟩
    refine ⟨.int t, rfl, by show 1 ≤ sizeLine; decide, fun u nu => ?_⟩
    have hcu : c ≠ u := ne_of_none upd_same nu
    have hc : (upd (upd H c (.lst (cutV (ns.map V.int) none (some 63)))) u (.lst [.int (t : Int)])) c = some (.lst (cutV (ns.map V.int) none (some 63))) := by
      rw [upd_ne hcu]
      exact upd_same
    have hlen := cutV_length (ns.map V.int) none (some 63)
    rw [List.length_map] at hlen
    refine ⟨c, u, _, _, rfl, rfl, hc, upd_same, szL (by rw [show ([V.int (t : Int)] : List V).length = 1 from rfl]; omega), fun e ne => ?_⟩
    obtain ⟨cs, ecs, hcs1, hcs2⟩ : ∃ cs : List Int, cutV (ns.map V.int) none (some 63) ++ [V.int (t : Int)] = cs.map V.int ∧ 0 < cs.length ∧ cs.length ≤ 2000 := by
      refine ⟨ns.take 63 ++ [(t : Int)], ?_, ?_, ?_⟩
      · rw [show (63 : Int) = ((63 : Nat) : Int) from rfl, cut_to, List.map_append]
        rfl
      · rw [List.length_append]
        exact Nat.succ_pos _
      · rw [List.length_append, List.length_take, List.length_singleton]
        omega
    have s1 : Same H (upd (upd (upd H c (.lst (cutV (ns.map V.int) none (some 63)))) u (.lst [.int (t : Int)])) e (.lst (cutV (ns.map V.int) none (some 63) ++ [.int (t : Int)]))) :=
      ((same_upd nc).trans (same_upd nu)).trans (same_upd ne)
    have he1 : (upd (upd (upd H c (.lst (cutV (ns.map V.int) none (some 63)))) u (.lst [.int (t : Int)])) e (.lst (cutV (ns.map V.int) none (some 63) ++ [.int (t : Int)]))) e = some (LI cs) := by
      rw [upd_same, ecs]
    generalize (upd (upd (upd H c (.lst (cutV (ns.map V.int) none (some 63)))) u (.lst [.int (t : Int)])) e (.lst (cutV (ns.map V.int) none (some 63) ++ [.int (t : Int)]))) = H2 at s1 he1 ⊢
    -- lefts
    refine ⟨.ref e, rfl, e, rfl, ⟨_, SqL.of he1⟩, fun B nB => lc_list (xs := cs.map V.int) (fun i H' => Same H2 H' ∧ ∃ ls : List Int, H' B = some (LI ls) ∧ ls.length = i) ⟨same_upd nB, [], upd_same, rfl⟩ (fun i H' _ hp => SqL.of (hp.1 _ _ he1)) (fun i x H' hx hp => ?_) (fun H3 hp => ?_)⟩
    · obtain ⟨s3, ls, hB, hls⟩ := hp
      obtain ⟨n, hn, rfl⟩ := of_get_ints hx
      have hi : i < cs.length := (List.getElem?_eq_some_iff.mp hn).1
      refine ⟨rfl, _, rfl, _, _, rfl, rfl, ⟨by decide, by decide⟩, _, hB, szL' (by rw [List.length_map]; omega), sm_new s3 nB, ls ++ [n / 100000], ?_, by rw [List.length_append, hls]; rfl⟩
      exact at_app
    · obtain ⟨s3, ls, hB, hls⟩ := hp
      rw [List.length_map] at hls
      have s3' := s1.trans s3
      have he3 := s3 _ _ he1
      have neB : e ≠ B := ne_of_none he1 nB
      have nBH : H B = none := s1.free nB
      -- found = []
      refine ⟨Nat.zero_le _, fun o no => ?_⟩
      have noB : B ≠ o := ne_of_none hB no
      have noe : e ≠ o := ne_of_none he3 no
      have noH : H o = none := s3'.free no
      have s4 := s3'.trans (same_upd (o := .lst []) no)
      have he4 := (same_upd (o := .lst []) no) _ _ he3
      have hB4 := (same_upd (o := .lst []) no) _ _ hB
      have ho4 : (upd H3 o (.lst [])) o = some (LI []) := upd_same
      generalize (upd H3 o (.lst [])) = H4 at s4 he4 hB4 ho4 ⊢
      refine ⟨_, rfl, _, rfl, _, _, rfl, rfl, _, rfl, by omega, by omega, for_range (n := ((t : Int) + (m : Int)).toNat) (fun i σ H' => ∃ y6 y7 y8, σ = [some (.ref a), some (.int t), some (.int m), some (.ref e), some (.ref B), some (.ref o), y6, y7, y8, none] ∧ Same H H' ∧ H' e = some (LI cs) ∧
        (∃ ds : List Int, H' o = some (LI ds) ∧ ds.length ≤ i) ∧ ∃ ls : List Int, H' B = some (LI ls) ∧ ls.length = cs.length) ⟨none, none, none, rfl, s4, he4, ⟨[], ho4, Nat.zero_le _⟩, ls, hB4, hls⟩ (fun i σ H5 hi hp => ?_) (fun σ H5 hp => ?_)⟩
      · obtain ⟨y6, y7, y8, rfl, s5, he5, ⟨ds, ho5, hds⟩, ls, hB5, hls⟩ := hp
        obtain ⟨j, hj, ej⟩ := mod_at (i := (0 : Int) + (i : Nat)) (n := (cs.map V.int).length) (by rw [List.length_map]; omega)
        rw [List.length_map] at hj
        refine ⟨_, rfl, _, rfl, e, _, rfl, .inl (SqL.of he5), _, _, rfl, rfl, by rw [List.length_map]; omega, ?_⟩
        -- mix
        refine ⟨_, rfl, _, rfl, e, _, _, _, rfl, rfl, SqL.of he5, at_of ej (getD_ints hj), _, rfl, _, i, by show [V.int _, V.int (0 + (i : Int))] = _; rw [Int.zero_add], by omega, fun n n0 n1 => ?_⟩
        refine ⟨_, rfl, _, rfl, _, _, rfl, rfl, .inl ⟨by omega, by omega⟩, _, rfl, _, _, rfl, rfl, .inl ⟨by decide, by decide⟩, _, _, rfl, rfl, _, _, rfl, rfl, (by show (0 : Int) < _; decide), ?_⟩
        refine ⟨fun σ' H' => ∃ n8 : Int, σ' = [some (.ref a), some (.int t), some (.int m), some (.ref e), some (.ref B), some (.ref o), some (.int (0 + (i : Nat))), some (.int ((0 + (i : Int)) % ((cs.map V.int).length : Int))), some (.int n8), none] ∧ Same H H' ∧ H' e = some (LI cs) ∧ H' o = some (LI ds) ∧ ∃ ls : List Int, H' B = some (LI ls) ∧ ls.length = cs.length, ?_, fun σ6 H6 hI => ?_⟩
        · refine ⟨_, rfl, _, rfl, e, _, _, _, rfl, rfl, SqL.of he5, at_of ej (getD_ints hj), _, _, rfl, rfl, ⟨by decide, by decide, by decide⟩, _, _, rfl, rfl, _, rfl, ite2 (fun _ => ?_) (fun _ => ?_)⟩
          · refine ⟨_, rfl, _, rfl, B, _, _, _, rfl, rfl, SqL.of hB5, at_of ej (getD_ints (ns := ls) (by omega)), _, _, rfl, rfl, _, rfl, ite2 (fun _ => ?_) (fun _ => ?_)⟩
            · refine ⟨_, rfl, _, rfl, B, _, _, _, rfl, rfl, SqL.of hB5, at_of ej (getD_ints (ns := ls) (by omega)), _, _, rfl, rfl, (by show (0 : Int) < _; decide), ?_⟩
              refine ⟨_, rfl, _, rfl, B, _, _, _, rfl, rfl, SqL.of hB5, at_of ej (getD_ints (ns := ls) (by omega)), _, _, rfl, rfl, wide_div (b := 32) (by decide) (by decide) (by decide) (by decide), _, rfl, _, rfl, B, _, _, j, rfl, rfl, hB5, by rw [ej, List.length_map]; exact ixN_nat (by omega), ?_⟩
              refine ⟨_, rfl, sm_new s5 nBH, ?_, ?_, ls.set j (ls[j] / 2147483587), at_set, by rw [List.length_set]; exact hls⟩
              · rw [upd_ne neB]
                exact he5
              · rw [upd_ne noB.symm]
                exact ho5
            · exact ⟨_, rfl, s5, he5, ho5, ls, hB5, hls⟩
          · exact ⟨_, rfl, s5, he5, ho5, ls, hB5, hls⟩
        · obtain ⟨n8, rfl, s6, he6, ho6, ls, hB6, hls⟩ := hI
          refine ⟨_, rfl, .inl ⟨rfl, _, SqL.of ho6⟩, _, rfl, o, _, _, rfl, rfl, ho6, szL' (by rw [List.length_map]; omega), ?_⟩
          refine ⟨_, _, _, rfl, sm_new s6 noH, ?_, ⟨ds ++ [n8], at_app, by rw [List.length_append, List.length_singleton]; omega⟩, ls, ?_, hls⟩
          · rw [upd_ne noe]
            exact he6
          · rw [upd_ne noB]
            exact hB6
      · obtain ⟨y6, y7, y8, rfl, s5, _, ⟨ds, ho5, hds⟩, _⟩ := hp
        refine ⟨_, rfl, _, rfl, _, rfl, o, _, rfl, SqL.of ho5, fun R nR => ?_⟩
        obtain ⟨ms, ems, _⟩ := cut_ints ds (some (t : Int)) none
        rw [ems]
        exact q _ R ms (s5.trans (same_upd nR)) (s5.free nR) upd_same
end
/-! ### _law_cut, _law_content, _law_price, _law_tiers, _law_want -/
abbrev s_law_cut : Stmt := topS 38
abbrev N_law_cut : List Str := ["_law_row", "_law_every", "_law_one"]
theorem sc_law_cut : FnScope N_law_cut ["_law_row"] (defScope s_law_cut) := ⟨rfl, rfl, rfl, by decide +kernel, rfl, by decide +kernel, by decide +kernel⟩

def sp_cut : Sp := fun vs H Q _ => ∃ (r : Addr) (ws : List Int), vs = [.ref r] ∧ H r = some (LI ws) ∧ Small ws ∧ 1 ≤ ws.length ∧ ws.length ≤ 1000 ∧
  ∀ H' ws', SameBut r H H' → H' r = some (LI ws') → ws'.length = ws.length → Small ws' → casesM ws' ≤ 400 → LeW ws' ws → Q (.ref r) H'
theorem set_le : ∀ {ws : List Int} {j : Nat} {x y : Int}, (∀ x ∈ ws, 0 ≤ x) → ws[j]? = some x → 0 ≤ y → y ≤ x → LeW (ws.set j y) ws
  | [], _, _, _, _, h, _, _ => by simp at h
  | a :: r, 0, x, y, h0, h, hy, hle => by
    cases Option.some.inj h
    exact ⟨hy, hle, LeW.refl fun z hz => h0 z (List.mem_cons_of_mem _ hz)⟩
  | a :: r, j + 1, x, y, h0, h, hy, hle => ⟨h0 a List.mem_cons_self, Int.le_refl _, set_le (fun z hz => h0 z (List.mem_cons_of_mem _ hz)) (show r[j]? = some x from h) hy hle⟩
theorem cut_body {ws : List Int} (sm : Small ws) (hc : casesM ws > 400) {mx : Int} (hmx : mx ∈ ws) (hle : ∀ y, y ∈ ws → y ≤ mx) : ∃ j : Nat, ws[j]? = some mx ∧ (∀ (m' : Nat) (z' : V), m' < j → (ws.map V.int)[m']? = some z' → eqV z' (.int mx) = false) ∧ j < ws.length ∧ Small (ws.set j (mx - 1)) ∧ (ws.set j (mx - 1)).sum < ws.sum ∧ LeW (ws.set j (mx - 1)) ws := by
  obtain ⟨j, h1, h2⟩ := first_at hmx
  have pos : 1 ≤ mx := by
    rcases Int.lt_or_le mx 1 with z | z
    · have e : casesM ws = 1 := casesM_zero ws 1 fun w hw => by
        have a1 := hle w hw
        have a2 := sm w hw
        omega
      omega
    · exact z
  have b := sm mx hmx
  refine ⟨j, h1, fun m' z' hm hz => ?_, (List.getElem?_eq_some_iff.mp h1).1, fun w hw => ?_, ?_, set_le (fun x hx => (sm x hx).1) h1 (by omega) (by omega)⟩
  · obtain ⟨y, hy, rfl⟩ := of_get_ints hz
    have := h2 m' y hm hy
    show (y == mx) = false
    exact beq_eq_false_iff_ne.mpr this
  · rcases List.mem_or_eq_of_mem_set hw with z | z
    · exact sm w z
    · omega
  · rw [sum_set h1]
    omega
section
variable {P : Program} {w : World} {K : PySem.W.Frag} {mg : Str → Option Value} {base : Heap}
theorem ok_cut {f : Addr} {fd : FuncData} {k : Nat} (M : Names mg) (D : Def K mg "_law_cut" s_law_cut ["_law_row"] f fd) : FnOk P w K mg base CX0 (k + 1) f fd ["_law_row"] sp_cut := by
  refine D.F.ok sc_law_cut (fun vs H Q E h => ?_) (fun cdv A outer s H vs Q E hr h => ?_)
  · obtain ⟨r, ws, rfl, _⟩ := h
    rfl
  · obtain ⟨r, ws, rfl, hrr, sm, hl1, hl2, q⟩ := h
    refine ⟨_, (pss_cons (ps_set (i := 1) sc_law_cut.nd rfl (Or.inl rfl) pe_int)
  (pss_cons (ps_while PassesOwn.never (pt_cmpR op_gt (pv 1) pe_int (nomark _))
   (pss_cons (ps_set (i := 1) sc_law_cut.nd rfl (Or.inl rfl) pe_int)
  (pss_cons (ps_for PassesOwn.never rfl (pi_list (pv 0)) (pg_name (i := 2) sc_law_cut.nd rfl (Or.inl rfl))
   (pss_one (ps_set (i := 1) sc_law_cut.nd rfl (Or.inl rfl) (pe_op op_mul (pv 1) (pe_op op_add (pv 2) pe_int)))))
  (pss_one (ps_if (pt_cmpR op_gt (pv 1) pe_int (nomark _))
   (pss_one (ps_asg (pe_op op_sub (pe_callB (cr_max rfl) (by rfl) M.max (by decide +kernel) (pa_cons (pv 0) pa_nil)) pe_int) (pg_sub (pv 0) (pe_bm PySem.F.plainAttrs_list PySem.F.slot_list_index PySem.F.type_list_index mt_index (pv 0) (pa_cons (pe_callB (cr_max rfl) (by rfl) M.max (by decide +kernel) (pa_cons (pv 0) pa_nil)) pa_nil)) set_list)))
   pss_nil)))))
  (pss_one (ps_ret (pv 0))))), ?_⟩
    refine ⟨fun μ σ H' => ∃ (ev : Int) (y2 : Option V) (us : List Int), σ = [some (.ref r), some (.int ev), y2] ∧ SameBut r H H' ∧ H' r = some (LI us) ∧ us.length = ws.length ∧ Small us ∧ LeW us ws ∧ ((ev > 400 ∧ μ = us.sum.toNat + 1) ∨ (ev ≤ 400 ∧ casesM us ≤ 400 ∧ μ = 0)), ⟨_, 401, none, ws, rfl, .refl _ _, hrr, rfl, sm, LeW.refl (fun x hx => (sm x hx).1), .inl ⟨by decide, rfl⟩⟩, fun μ σ H1 hW => ?_⟩
    obtain ⟨ev, y2, us, rfl, s1, hr1, hlu, smu, leu, hμ⟩ := hW
    refine ⟨_, rfl, _, _, rfl, rfl, _, rfl, ite2 (fun c => ?_) (fun c => ?_)⟩
    · have c' : ev > 400 := of_decide_eq_true c
      have eμ : μ = us.sum.toNat + 1 := by
        rcases hμ with h | h
        · exact h.2
        · exact absurd h.1 (by omega)
      have us0 := sumI_nonneg fun x hx => (smu x hx).1
      refine ⟨fun σ' H' => ∃ μ', μ' < μ ∧ ∃ (ev : Int) (y2 : Option V) (us : List Int), σ' = [some (.ref r), some (.int ev), y2] ∧ SameBut r H H' ∧ H' r = some (LI us) ∧ us.length = ws.length ∧ Small us ∧ LeW us ws ∧ ((ev > 400 ∧ μ' = us.sum.toNat + 1) ∨ (ev ≤ 400 ∧ casesM us ≤ 400 ∧ μ' = 0)), fun σ' H' hN => hN, ?_⟩
      refine ⟨_, rfl, r, rfl, ⟨_, SqL.of hr1⟩, for_list (K := K) (a := r) (xs := us.map V.int) (fun i σ H' => ∃ y, σ = [some (.ref r), some (.int (casesM (us.take i))), y] ∧ H' = H1) ⟨y2, rfl, rfl⟩ (fun i σ H' _ hp => ?_) (fun i x σ H' hx hp => ?_) (fun σ H' hp => ?_)⟩
      · obtain ⟨y, _, rfl⟩ := hp
        exact SqL.of hr1
      · obtain ⟨y, rfl, rfl⟩ := hp
        obtain ⟨n, hn, rfl⟩ := of_get_ints hx
        have b := smu n (List.mem_of_getElem? hn)
        refine ⟨_, rfl, _, rfl, _, _, rfl, rfl, _, _, rfl, rfl, .inr ⟨by omega, by omega⟩, some (.int n), ?_, rfl⟩
        rw [casesM_take hn]
        rfl
      · obtain ⟨y, rfl, rfl⟩ := hp
        rw [List.length_map, List.take_length]
        refine ⟨_, rfl, _, _, rfl, rfl, _, rfl, ite2 (fun c2 => ?_) (fun c2 => ?_)⟩
        · have c2' : casesM us > 400 := of_decide_eq_true c2
          refine ⟨_, rfl, r, us, rfl, SqL.of hr1, by omega, fun mx hmx hle => ⟨_, _, rfl, rfl, _, rfl, _, rfl, .inl ⟨rfl, _, SqL.of hr1⟩, _, rfl, r, us, rfl, SqL.of hr1, by omega, fun mx2 hmx2 hle2 => ?_⟩⟩
          have emx : mx2 = mx := Int.le_antisymm (hle mx2 hmx2) (hle2 mx hmx)
          subst emx
          obtain ⟨j, b1, b2, b3, b4, b5, b6⟩ := cut_body smu c2' hmx hle
          have p0 := sumI_nonneg fun x hx => (b4 x hx).1
          refine ⟨r, _, _, j, _, rfl, rfl, SqL.of hr1, rfl, by simp [flatV], get_ints b1, by show (mx2 == mx2) = true; exact beq_self_eq_true _, b2, r, _, _, j, rfl, rfl, hr1, by rw [List.length_map]; exact ixN_nat b3, ?_⟩
          refine ⟨(us.set j (mx2 - 1)).sum.toNat + 1, by omega, _, _, us.set j (mx2 - 1), rfl, s1.trans .upd, at_set, by rw [List.length_set]; exact hlu, b4, b6.trans leu, .inl ⟨c2', rfl⟩⟩
        · have c2' : casesM us ≤ 400 := Int.not_lt.mp fun z => c2 (decide_eq_true z)
          exact ⟨0, by omega, _, _, us, rfl, s1, hr1, hlu, smu, leu, .inr ⟨c2', c2', rfl⟩⟩
    · have c' : ev ≤ 400 := Int.not_lt.mp fun z => c (decide_eq_true z)
      rcases hμ with h | h
      · exact absurd h.1 (by omega)
      · exact ⟨_, rfl, q H1 us s1 hr1 hlu smu h.2.1 leu⟩
end
abbrev s_law_content : Stmt := topS 39
abbrev N_law_content : List Str := ["_law_draws_here", "_law_many", "_law_most", "_law_number_here", "_law_content_here", "_law_thing"]
theorem sc_law_content : FnScope N_law_content ["_law_draws_here", "_law_many", "_law_most"] (defScope s_law_content) := ⟨rfl, rfl, rfl, by decide +kernel, rfl, by decide +kernel, by decide +kernel⟩

def sp_content : Sp := fun vs H Q _ => ∃ (a : Addr) (ns : List Int) (m most : Nat), vs = [.ref a, .int m, .int most] ∧ H a = some (LI ns) ∧ 1 ≤ m ∧ m ≤ 4 ∧ 1 ≤ most ∧ most ≤ 9 ∧
  ∀ H' p ws ns', SameBut a H H' → H p = none → p ≠ a → H' p = some (LI ws) → H' a = some (LI ns') → ws.length = m → Small ws → Q (.ref p) H'
theorem menu4s {a b c e : Int} {j : Nat} (h : j < 4) (h1 : 0 ≤ a ∧ a ≤ 9) (h2 : 0 ≤ b ∧ b ≤ 9) (h3 : 0 ≤ c ∧ c ≤ 9) (h4 : 0 ≤ e ∧ e ≤ 9) : ∃ v : Int, ([V.int a, V.int b, V.int c, V.int e] : List V)[j]? = some (.int v) ∧ 0 ≤ v ∧ v ≤ 9 :=
  match j, h with
  | 0, _ => ⟨a, rfl, h1⟩
  | 1, _ => ⟨b, rfl, h2⟩
  | 2, _ => ⟨c, rfl, h3⟩
  | 3, _ => ⟨e, rfl, h4⟩
section
variable {P : Program} {w : World} {K : PySem.W.Frag} {mg : Str → Option Value} {base : Heap}
theorem ok_content {f f1 f2 : Addr} {fd fd1 fd2 : FuncData} {k : Nat} (M : Names mg) (D : Def K mg "_law_content" s_law_content ["_law_draws_here", "_law_many", "_law_most"] f fd) (D_law_pop : Def K mg "_law_pop" s_law_pop ["_law_draws_here"] f1 fd1) (D_law_cut : Def K mg "_law_cut" s_law_cut ["_law_row"] f2 fd2) :
    FnOk P w K mg base CX0 (k + 2) f fd ["_law_draws_here", "_law_many", "_law_most"] sp_content := by
  have G_law_pop : FnOk P w K mg base CX0 (k + 1) f1 fd1 ["_law_draws_here"] sp_pop := ok_pop D_law_pop
  have G_law_cut : FnOk P w K mg base CX0 (k + 1) f2 fd2 ["_law_row"] sp_cut := ok_cut M D_law_cut
  refine D.F.ok sc_law_content (fun vs H Q E h => ?_) (fun cdv A outer s H vs Q E hr h => ?_)
  · obtain ⟨a, ns, m, most, rfl, _⟩ := h
    rfl
  · obtain ⟨a, ns, m, most, rfl, ha, hm1, hm4, hmo1, hmo9, q⟩ := h
    refine ⟨_, (pss_cons (ps_set (i := 3) sc_law_content.nd rfl (Or.inl rfl) (pe_call G_law_pop hr (by rfl) D_law_pop.g D_law_pop.F.kp D_law_pop.b .nil pass0 (pa_cons (pv 0) pa_nil)))
  (pss_cons (ps_set (i := 4) sc_law_content.nd rfl (Or.inl rfl) (pe_lst pa_nil))
  (pss_cons (ps_for PassesOwn.never rfl (pi_range1 (by rfl) M.range (pa_cons (pv 1) pa_nil)) (pg_name (i := 5) sc_law_content.nd rfl (Or.inl rfl))
   (pss_cons (ps_expr (pe_bm PySem.F.plainAttrs_list PySem.F.slot_list_append PySem.F.type_list_append mt_append (pv 4) (pa_cons (pe_ix ix_list (pe_lst (pa_cons pe_int (pa_cons pe_int (pa_cons (pe_op op_add pe_int (pe_op op_mod (pv 3) (pv 2))) (pa_cons pe_int pa_nil))))) (pe_op op_mod (pe_op op_fdiv (pv 3) pe_int) pe_int) (fun _ _ => rfl)) pa_nil)))
  (pss_one (ps_set (i := 3) sc_law_content.nd rfl (Or.inl rfl) (pe_op op_fdiv (pv 3) pe_int)))))
  (pss_cutI (ps_if (pt_cmpR op_eq (pe_callB (cr_sum rfl) (by rfl) M.sum (by decide +kernel) (pa_cons (pv 4) pa_nil)) pe_int (nomark _))
   (pss_one (ps_asg pe_int (pg_sub (pv 4) (pe_op op_mod (pv 3) (pv 1)) set_list)))
   pss_nil)
  (pss_one (ps_ret (pe_call G_law_cut hr (by rfl) D_law_cut.g D_law_cut.F.kp D_law_cut.b .nil pass0 (pa_cons (pv 4) pa_nil)))))))), ?_⟩
    refine ⟨_, rfl, a, ns, rfl, ha, fun H1 s1 ha1 => ?_⟩
    generalize ns.headD 0 = n0
    generalize ns.tail = ns1 at ha1
    refine ⟨Nat.zero_le _, fun C nC => ?_⟩
    have nCa : C ≠ a := (ne_of_none ha1 nC).symm
    have nCH : H C = none := s1.free nC (by rw [ha1]; exact fun z => nomatch z)
    have s2 : SameBut a H (upd H1 C (.lst [])) := s1.trans (.of (same_upd nC))
    have ha2 : upd H1 C (.lst []) a = some (LI ns1) := (same_upd nC) _ _ ha1
    have hC2 : upd H1 C (.lst []) C = some (LI []) := upd_same
    generalize upd H1 C (.lst []) = H2 at s2 ha2 hC2 ⊢
    refine ⟨_, rfl, _, rfl, by omega, by omega, for_range (n := (m : Int).toNat) (fun i σ H' => ∃ (n : Int) (y5 : Option V) (ws : List Int), σ = [some (.ref a), some (.int m), some (.int most), some (.int n), some (.ref C), y5] ∧ SameBut a H H' ∧ H' a = some (LI ns1) ∧ H' C = some (LI ws) ∧ ws.length = i ∧ Small ws) ⟨n0, none, [], rfl, s2, ha2, hC2, rfl, fun w hw => nomatch hw⟩ (fun i σ H3 hi hp => ?_) (fun σ H3 hp => ?_)⟩
    · obtain ⟨n, y5, ws, rfl, s3, ha3, hC3, hl, sm⟩ := hp
      have mo0 : (0 : Int) < (most : Int) := by omega
      have r1 := Int.emod_nonneg n (show (most : Int) ≠ 0 by omega)
      have r2 := Int.emod_lt_of_pos n mo0
      refine ⟨_, rfl, .inl ⟨rfl, _, SqL.of hC3⟩, _, rfl, _, rfl, _, _, rfl, rfl, mo0, _, _, rfl, rfl, by show 4 ≤ sizeLine; decide, fun e ne => ?_⟩
      obtain ⟨j, hj, ej⟩ := mod_at (i := n / 16) (n := 4) (by decide)
      obtain ⟨v, hv, hv0, hv1⟩ := menu4s (a := 0) (b := 1) (c := 1 + n % (most : Int)) (e := 1) hj (by omega) (by omega) (by omega) (by omega)
      have se := same_upd (o := .lst [.int 0, .int 1, .int (1 + n % (most : Int)), .int 1]) ne
      have neC : C ≠ e := ne_of_none hC3 ne
      refine ⟨_, rfl, _, _, rfl, rfl, ⟨by decide, by decide⟩, _, _, rfl, rfl, (by show (0 : Int) < _; decide), e, _, _, _, rfl, rfl, SqL.of upd_same, at_of ej hv, C, _, _, rfl, rfl, se _ _ hC3, szL' (by rw [List.length_map]; omega), ?_⟩
      refine ⟨_, rfl, _, _, rfl, rfl, ⟨by decide, by decide⟩, _, _, ws ++ [v], rfl, (s3.trans (.of se)).new nCH, ?_, at_app, by rw [List.length_append, hl]; rfl, sm.app hv0 hv1⟩
      rw [upd_ne nCa.symm]
      exact se _ _ ha3
    · obtain ⟨n, y5, ws, rfl, s3, ha3, hC3, hl, sm⟩ := hp
      rw [Int.toNat_natCast] at hl
      refine ⟨fun σ' H' => ∃ (y5 : Option V) (ws : List Int), σ' = [some (.ref a), some (.int m), some (.int most), some (.int n), some (.ref C), y5] ∧ SameBut a H H' ∧ H' a = some (LI ns1) ∧ H' C = some (LI ws) ∧ ws.length = m ∧ Small ws, ?_, fun σ4 H4 hI => ?_⟩
      · refine ⟨_, rfl, C, ws, rfl, SqL.of hC3, rfl, _, rfl, ite2 (fun _ => ?_) (fun _ => ?_)⟩
        · obtain ⟨j, hj, ej⟩ := mod_at (i := n) (n := m) (by omega)
          refine ⟨_, rfl, _, rfl, _, rfl, _, _, rfl, rfl, (by show (0 : Int) < (m : Int); omega), C, _, _, j, rfl, rfl, hC3, (by rw [ej, List.length_map]; exact ixN_nat (by omega)), ?_⟩
          refine ⟨_, ws.set j 1, rfl, s3.new nCH, ?_, at_set, by rw [List.length_set]; exact hl, fun x hx => ?_⟩
          · rw [upd_ne nCa.symm]
            exact ha3
          · rcases List.mem_or_eq_of_mem_set hx with z | z
            · exact sm x z
            · rw [z]
              omega
        · exact ⟨_, ws, rfl, s3, ha3, hC3, hl, sm⟩
      · obtain ⟨y5, ws, rfl, s4, ha4, hC4, hl, sm⟩ := hI
        refine ⟨_, rfl, C, ws, rfl, hC4, sm, by omega, by omega, fun H5 ws' s5 hC5 hl5 sm5 _ _ => ?_⟩
        refine q H5 C ws' ns1 (fun b o n e => ?_) nCH nCa hC5 (s5 _ _ nCa.symm ha4) (by omega) sm5
        have hb := s4 b o n e
        exact s5 b o (fun z => by rw [z, nCH] at e; cases e) hb
end
/-! ### _law_want -/
abbrev s_law_want : Stmt := topS 40
abbrev N_law_want : List Str := ["_law_draws_here", "_law_many", "_law_number_here", "_law_want_here", "_law_thing"]
theorem sc_law_want : FnScope N_law_want ["_law_draws_here", "_law_many"] (defScope s_law_want) := ⟨rfl, rfl, rfl, by decide +kernel, rfl, by decide +kernel, by decide +kernel⟩

def sp_want : Sp := fun vs H Q _ => ∃ (a : Addr) (ns : List Int) (m : Nat), vs = [.ref a, .int m] ∧ H a = some (LI ns) ∧ 1 ≤ m ∧ m ≤ 4 ∧
  ∀ H' p ws ns', SameBut a H H' → H p = none → p ≠ a → H' p = some (LI ws) → H' a = some (LI ns') → ws.length = m → Small ws → casesM ws ≤ 400 → Q (.ref p) H'
section
variable {P : Program} {w : World} {K : PySem.W.Frag} {mg : Str → Option Value} {base : Heap}
theorem ok_want {f f1 f2 : Addr} {fd fd1 fd2 : FuncData} {k : Nat} (M : Names mg) (D : Def K mg "_law_want" s_law_want ["_law_draws_here", "_law_many"] f fd) (D_law_pop : Def K mg "_law_pop" s_law_pop ["_law_draws_here"] f1 fd1) (D_law_cut : Def K mg "_law_cut" s_law_cut ["_law_row"] f2 fd2) :
    FnOk P w K mg base CX0 (k + 2) f fd ["_law_draws_here", "_law_many"] sp_want := by
  have G_law_pop : FnOk P w K mg base CX0 (k + 1) f1 fd1 ["_law_draws_here"] sp_pop := ok_pop D_law_pop
  have G_law_cut : FnOk P w K mg base CX0 (k + 1) f2 fd2 ["_law_row"] sp_cut := ok_cut M D_law_cut
  refine D.F.ok sc_law_want (fun vs H Q E h => ?_) (fun cdv A outer s H vs Q E hr h => ?_)
  · obtain ⟨a, ns, m, rfl, _⟩ := h
    rfl
  · obtain ⟨a, ns, m, rfl, ha, hm1, hm4, q⟩ := h
    refine ⟨_, (pss_cons (ps_set (i := 2) sc_law_want.nd rfl (Or.inl rfl) (pe_call G_law_pop hr (by rfl) D_law_pop.g D_law_pop.F.kp D_law_pop.b .nil pass0 (pa_cons (pv 0) pa_nil)))
  (pss_cons (ps_set (i := 3) sc_law_want.nd rfl (Or.inl rfl) (pe_lst pa_nil))
  (pss_cons (ps_for PassesOwn.never rfl (pi_range1 (by rfl) M.range (pa_cons (pv 1) pa_nil)) (pg_name (i := 4) sc_law_want.nd rfl (Or.inl rfl))
   (pss_cons (ps_expr (pe_bm PySem.F.plainAttrs_list PySem.F.slot_list_append PySem.F.type_list_append mt_append (pv 3) (pa_cons (pe_op op_mod (pv 2) pe_int) pa_nil)))
  (pss_one (ps_set (i := 2) sc_law_want.nd rfl (Or.inl rfl) (pe_op op_fdiv (pv 2) pe_int)))))
  (pss_one (ps_ret (pe_call G_law_cut hr (by rfl) D_law_cut.g D_law_cut.F.kp D_law_cut.b .nil pass0 (pa_cons (pv 3) pa_nil))))))), ?_⟩
    refine ⟨_, rfl, a, ns, rfl, ha, fun H1 s1 ha1 => ?_⟩
    generalize ns.headD 0 = n0
    generalize ns.tail = ns1 at ha1
    refine ⟨Nat.zero_le _, fun C nC => ?_⟩
    have nCa : C ≠ a := (ne_of_none ha1 nC).symm
    have nCH : H C = none := s1.free nC (by rw [ha1]; exact fun z => nomatch z)
    have s2 : SameBut a H (upd H1 C (.lst [])) := s1.trans (.of (same_upd nC))
    have ha2 : upd H1 C (.lst []) a = some (LI ns1) := (same_upd nC) _ _ ha1
    have hC2 : upd H1 C (.lst []) C = some (LI []) := upd_same
    generalize upd H1 C (.lst []) = H2 at s2 ha2 hC2 ⊢
    refine ⟨_, rfl, _, rfl, by omega, by omega, for_range (n := (m : Int).toNat) (fun i σ H' => ∃ (n : Int) (y5 : Option V) (ws : List Int), σ = [some (.ref a), some (.int m), some (.int n), some (.ref C), y5] ∧ SameBut a H H' ∧ H' a = some (LI ns1) ∧ H' C = some (LI ws) ∧ ws.length = i ∧ Small ws) ⟨n0, none, [], rfl, s2, ha2, hC2, rfl, fun w hw => nomatch hw⟩ (fun i σ H3 hi hp => ?_) (fun σ H3 hp => ?_)⟩
    · obtain ⟨n, y5, ws, rfl, s3, ha3, hC3, hl, sm⟩ := hp
      refine ⟨_, rfl, .inl ⟨rfl, _, SqL.of hC3⟩, _, rfl, _, _, rfl, rfl, (by show (0 : Int) < _; decide), C, _, _, rfl, rfl, hC3, szL' (by rw [List.length_map]; omega), ?_⟩
      refine ⟨_, rfl, _, _, rfl, rfl, ⟨by decide, by decide⟩, _, _, ws ++ [n % 10], rfl, s3.new nCH, ?_, at_app, by rw [List.length_append, hl]; rfl, sm.app (by omega) (by omega)⟩
      rw [upd_ne nCa.symm]
      exact ha3
    · obtain ⟨n, y5, ws, rfl, s3, ha3, hC3, hl, sm⟩ := hp
      rw [Int.toNat_natCast] at hl
      refine ⟨_, rfl, C, ws, rfl, hC3, sm, by omega, by omega, fun H5 ws' s5 hC5 hl5 sm5 c5 _ => ?_⟩
      refine q H5 C ws' ns1 (fun b o n e => ?_) nCH nCa hC5 (s5 _ _ nCa.symm ha3) (by omega) sm5 c5
      have hb := s3 b o n e
      exact s5 b o (fun z => by rw [z, nCH] at e; cases e) hb
end
/-! ### how many things -/
theorem menuM {j : Nat} (h : j < 8) : ∃ v : Nat, ([V.int 1, V.int 2, V.int 2, V.int 3, V.int 2, V.int 3, V.int 1, V.int 4] : List V)[j]? = some (.int v) ∧ 1 ≤ v ∧ v ≤ 4 :=
  match j, h with
  | 0, _ => ⟨1, rfl, by decide, by decide⟩
  | 1, _ => ⟨2, rfl, by decide, by decide⟩
  | 2, _ => ⟨2, rfl, by decide, by decide⟩
  | 3, _ => ⟨3, rfl, by decide, by decide⟩
  | 4, _ => ⟨2, rfl, by decide, by decide⟩
  | 5, _ => ⟨3, rfl, by decide, by decide⟩
  | 6, _ => ⟨1, rfl, by decide, by decide⟩
  | 7, _ => ⟨4, rfl, by decide, by decide⟩
theorem LeW.snoc : ∀ {us ws : List Int} {x n : Int}, LeW us ws → 0 ≤ x → x ≤ n → LeW (us ++ [x]) (ws ++ [n])
  | [], [], _, _, _, h0, h1 => ⟨h0, h1, True.intro⟩
  | [], _ :: _, _, _, h, _, _ => h.elim
  | _ :: _, [], _, _, h, _, _ => h.elim
  | a :: r, b :: w, _, _, h, h0, h1 => ⟨h.1, h.2.1, LeW.snoc h.2.2 h0 h1⟩
/-! ### _law_groups -/
abbrev s_law_groups : Stmt := topS 41
abbrev N_law_groups : List Str := ["_law_places", "_law_found", "_law_place", "_law_one"]
theorem sc_law_groups : FnScope N_law_groups ["_law_places"] (defScope s_law_groups) := ⟨rfl, rfl, rfl, by decide +kernel, rfl, by decide +kernel, by decide +kernel⟩

def sp_groups : Sp := fun vs H Q _ => ∃ (a : Addr) (ps : List Int), vs = [.ref a] ∧ H a = some (LI ps) ∧ ps.length ≤ 8 ∧ ∀ H' q (as : List Addr), Same H H' → H q = none → H' q = some (.lst (as.map V.ref)) → Al (RowF H H') as (choicesM ps) → Q (.ref q) H'
section
variable {P : Program} {w : World} {K : PySem.W.Frag} {mg : Str → Option Value} {base : Heap} {T : List Addr}
theorem ok_groups {f : Addr} {fd : FuncData} {k : Nat} (M : Names mg) (D : Def K mg "_law_groups" s_law_groups ["_law_places"] f fd) : FnOk P w K mg base CX0 (k + 1) f fd ["_law_places"] sp_groups := by
  refine D.F.ok sc_law_groups (fun vs H Q E h => ?_) (fun cdv A outer s H vs Q E hr h => ?_)
  · obtain ⟨a, ps, rfl, _⟩ := h
    rfl
  · obtain ⟨a, ps, rfl, ha, h8, q⟩ := h
    refine ⟨_, (pss_cons (ps_set (i := 1) sc_law_groups.nd rfl (Or.inl rfl) (pe_lst (pa_cons (pe_lst pa_nil) pa_nil)))
  (pss_cons (ps_for PassesOwn.never rfl (pi_list (pe_revL (pv 0))) (pg_name (i := 2) sc_law_groups.nd rfl (Or.inr rfl))
   (pss_one (ps_set (i := 1) sc_law_groups.nd rfl (Or.inl rfl) (pe_op op_cat (pe_op op_cat (pe_slice sl_list (pv 1) po_none (po_some pe_int)) (pe_lc (own := [("_law_one", 3)]) (by rfl) sc_law_groups.nd (pi_list (pv 1)) (blkOk_by (own := [("_law_one", 3)]) (N := N_law_groups) (sc := defScope s_law_groups) (by decide +kernel)) (fun _ _ _ _ _ => (pg_name (i := 3) sc_law_groups.nd rfl (Or.inl rfl))) (fun _ _ _ _ _ => pts_nil) (fun _ _ _ _ _ => (pe_op op_cat (pe_lst (pa_cons (pv 2) pa_nil)) (pv 3))))) (pe_slice sl_list (pv 1) (po_some pe_int) po_none)))))
  (pss_one (ps_ret (pv 1))))), ?_⟩
    refine ⟨Nat.zero_le _, fun z nz => ⟨by show 1 ≤ sizeLine; decide, fun t nt => ?_⟩⟩
    have nzt : z ≠ t := ne_of_none upd_same nt
    have s0 : Same H (upd (upd H z (.lst [])) t (.lst [.ref z])) := (same_upd nz).trans (same_upd nt)
    refine ⟨_, rfl, a, _, rfl, SqL.of (s0 _ _ ha), fun R nR => ?_⟩
    have sR := same_upd (o := .lst (ps.map V.int).reverse) nR
    have hR : upd (upd (upd H z (.lst [])) t (.lst [.ref z])) R (.lst (ps.map V.int).reverse) R = some (.lst (ps.reverse.map V.int)) := by rw [upd_same, List.map_reverse]
    have s0R := s0.trans sR
    have ht0 : upd (upd (upd H z (.lst [])) t (.lst [.ref z])) R (.lst (ps.map V.int).reverse) t = some (.lst [.ref z]) := sR _ _ upd_same
    have hz0 : upd (upd (upd H z (.lst [])) t (.lst [.ref z])) R (.lst (ps.map V.int).reverse) z = some (LI []) := sR _ _ ((same_upd nt) _ _ upd_same)
    have nRH : H R = none := s0.free nR
    have ntH : H t = none := (same_upd nz).free nt
    generalize upd (upd (upd H z (.lst [])) t (.lst [.ref z])) R (.lst (ps.map V.int).reverse) = H0 at hR s0R ht0 hz0 ⊢
    clear s0 sR nR nt
    refine ⟨R, rfl, ⟨_, SqL.of hR⟩, for_list (K := K) (a := R) (xs := ps.reverse.map V.int) (fun i σ H' => ∃ t y2 as, σ = [some (.ref a), some (.ref t), y2, none] ∧ Same H H' ∧ Same H0 H' ∧ H t = none ∧ H' t = some (.lst (as.map V.ref)) ∧ Al (RowF H H') as (choicesM (ps.drop (ps.length - i)))) ⟨t, none, [z], rfl, s0R, fun _ _ e => e, ntH, ht0, ?_⟩ (fun i σ H' _ hp => ?_) (fun i x σ H2 hx hp => ?_) (fun σ H1 hp => ?_)⟩
    · rw [Nat.sub_zero, List.drop_length]
      exact .one ⟨hz0, nz⟩
    · obtain ⟨t, y2, as, _, _, s1, _⟩ := hp
      exact SqL.of (s1 _ _ hR)
    · obtain ⟨t1, y2, as, rfl, s1, s01, nt1, ht1, al⟩ := hp
      obtain ⟨n, hn', rfl⟩ := of_get_ints hx
      have hi : i < ps.length := by
        have := (List.getElem?_eq_some_iff.mp hn').1
        rw [List.length_reverse] at this
        exact this
      have hn : ps[ps.length - 1 - i]? = some n := by
        rw [List.getElem?_reverse hi] at hn'
        exact hn'
      have ed : ps.drop (ps.length - (i + 1)) = n :: ps.drop (ps.length - i) := by
        have hlt : ps.length - 1 - i < ps.length := by omega
        rw [show ps.length - (i + 1) = ps.length - 1 - i by omega, List.drop_eq_getElem_cons hlt, show ps.length - 1 - i + 1 = ps.length - i by omega]
        congr 1
        exact (List.getElem?_eq_some_iff.mp hn).2
      generalize hrs : choicesM (ps.drop (ps.length - i)) = rs at al
      have lrs : rs.length ≤ 256 := by
        rw [← hrs]
        exact choicesM_le (by rw [List.length_drop]; omega)
      have lal := al.len
      obtain ⟨z, ar, rfl⟩ : ∃ z ar, as = z :: ar := by
        cases as with
        | nil =>
          have := choices_head (ps.drop (ps.length - i))
          rw [hrs] at this
          rw [this] at lal
          simp at lal
        | cons z ar => exact ⟨z, ar, rfl⟩
      have hz1 : H2 z = some (LI []) ∧ H z = none := by
        have hh := choices_head (ps.drop (ps.length - i))
        rw [hrs] at hh
        rw [hh] at al
        exact al.1
      refine ⟨_, rfl, _, rfl, t1, _, rfl, SqL.of ht1, fun e ne => ?_⟩
      have ecut : cutV ((z :: ar).map V.ref) none (some 1) = [.ref z] := by
        unfold cutV
        have a1 : HT.sIx ((z :: ar).map V.ref).length ((z :: ar).map V.ref).length (some ((1 : Nat) : Int)) = min 1 ((z :: ar).map V.ref).length := HT.sIx_nat _ _ _
        rw [show (1 : Int) = ((1 : Nat) : Int) from rfl, a1, HT.sIx_none, List.drop_zero, Nat.sub_zero, List.length_map, List.length_cons, Nat.min_eq_left (by omega)]
        rfl
      rw [ecut]
      have s2 : Same H2 (upd H2 e (.lst [.ref z])) := same_upd ne
      have hz2 : upd H2 e (.lst [.ref z]) z = some (LI []) := s2 _ _ hz1.1
      have he2 : upd H2 e (.lst [.ref z]) e = some (.lst [.ref z]) := upd_same
      generalize upd H2 e (.lst [.ref z]) = H3 at s2 hz2 he2 ⊢
      generalize has : z :: ar = as at al lal ht1
      refine ⟨_, rfl, t1, rfl, ⟨_, SqL.of (s2 _ _ ht1)⟩, fun C nC => lc_list (xs := as.map V.ref) (fun j H' => Same H3 H' ∧ ∃ cs : List Addr, H' C = some (.lst (cs.map V.ref)) ∧ Al (RowB H H' C) cs ((rs.take j).map (n :: ·))) ⟨same_upd nC, [], upd_same, True.intro⟩ (fun j H' _ hp => SqL.of (hp.1 _ _ (s2 _ _ ht1))) (fun j x H4 hx hp => ?_) (fun H4 hp => ?_)⟩
      · obtain ⟨s4, cs, hC, alc⟩ := hp
        rw [List.getElem?_map] at hx
        cases hu : as[j]? with
        | none => rw [hu] at hx; cases hx
        | some u =>
          rw [hu] at hx
          cases Option.some.inj hx
          obtain ⟨r, hr, hur⟩ := al.get hu
          have lr : r.length ≤ 8 := by
            have : ∀ (ps : List Int) r, r ∈ choicesM ps → r.length ≤ ps.length := by
              intro ps
              induction ps with
              | nil => intro r h; rw [List.mem_singleton.mp h]; exact Nat.le_refl _
              | cons p ps ih =>
                intro r h
                rcases List.mem_append.mp h with h | h
                · rcases List.mem_append.mp h with h | h
                  · rw [List.mem_singleton.mp h]; exact Nat.zero_le _
                  · obtain ⟨r', h', rfl⟩ := List.mem_map.mp h
                    have := ih r' h'
                    rw [List.length_cons, List.length_cons]
                    omega
                · have := ih r (List.mem_of_mem_tail h)
                  rw [List.length_cons]
                  omega
            have := this (ps.drop (ps.length - i)) r (by rw [hrs]; exact List.mem_of_getElem? hr)
            rw [List.length_drop] at this
            omega
          refine ⟨rfl, _, rfl, by show 1 ≤ sizeLine; decide, fun g ng => ?_⟩
          have hu4 : H4 u = some (LI r) := s4 _ _ (s2 _ _ hur.1)
          have ngu : u ≠ g := ne_of_none hu4 ng
          refine ⟨_, rfl, g, u, _, _, rfl, rfl, upd_same, (by rw [upd_ne ngu]; exact hu4), szL (by rw [List.length_map]; show 1 + r.length ≤ _; omega), fun v nv => ?_⟩
          have s5 : Same H4 (upd (upd H4 g (.lst [.int n])) v (.lst ([.int n] ++ r.map V.int))) := (same_upd ng).trans (same_upd nv)
          have lc := alc.len
          rw [List.length_map, List.length_take] at lc
          refine ⟨_, s5 _ _ hC, szL' (by rw [List.length_map]; omega), sm_new (s4.trans s5) nC, cs ++ [v], ?_, ?_⟩
          · rw [upd_same, List.map_append]
            rfl
          · have nvC : v ≠ C := fun z => by
              rw [z] at nv
              rw [(same_upd ng) _ _ hC] at nv
              cases nv
            rw [take_succ_at hr, List.map_append]
            exact Al.app (alc.imp fun a x h => h.keep ((SameBut.of s5).trans .upd)) (.one ⟨by rw [upd_ne nvC, upd_same]; rfl, ((s1.trans s2).trans s4).free ((same_upd ng).free nv), nvC⟩)
      · obtain ⟨s4, cs, hC, alc⟩ := hp
        rw [List.length_map, lal, List.take_length] at alc
        have lc := alc.len
        rw [List.length_map] at lc
        refine ⟨e, C, _, _, rfl, rfl, s4 _ _ he2, hC, szL (by rw [List.length_map]; show 1 + _ ≤ _; omega), fun g ng => ?_⟩
        refine ⟨_, rfl, 1, rfl, t1, _, rfl, SqL.of ((same_upd ng) _ _ (s4 _ _ (s2 _ _ ht1))), fun sl nsl => ?_⟩
        have s5 : Same H4 (upd (upd H4 g (.lst ([.ref z] ++ cs.map V.ref))) sl (.lst (cutV (as.map V.ref) (some 1) none))) := (same_upd ng).trans (same_upd nsl)
        have hg5 : upd (upd H4 g (.lst ([.ref z] ++ cs.map V.ref))) sl (.lst (cutV (as.map V.ref) (some 1) none)) g = some (.lst ([.ref z] ++ cs.map V.ref)) := (same_upd nsl) _ _ upd_same
        refine ⟨g, sl, _, _, rfl, rfl, hg5, upd_same, szL (by rw [cut1, List.length_drop, List.length_map, List.length_append, List.length_map]; show 1 + _ + _ ≤ _; omega), fun t' nt' => ?_⟩
        have s6 := s5.trans (same_upd (o := .lst ([.ref z] ++ cs.map V.ref ++ cutV (as.map V.ref) (some 1) none)) nt')
        have s46 := (s2.trans s4).trans s6
        refine ⟨t', _, ([z] ++ cs) ++ as.drop 1, rfl, s1.trans s46, s01.trans s46, ((s1.trans (s2.trans s4)).trans s5).free nt', ?_, ?_⟩
        · rw [upd_same, cut1, List.map_append, List.map_append, List.map_drop]
          rfl
        · rw [ed]
          show Al _ _ (([[]] ++ (choicesM (ps.drop (ps.length - i))).map (n :: ·)) ++ (choicesM (ps.drop (ps.length - i))).tail)
          rw [hrs]
          exact Al.app (Al.app (.one ⟨s6 _ _ (s4 _ _ hz2), hz1.2⟩) (alc.imp fun a x h => h.toF.keep s6)) ((al.drop1).imp fun a x h => h.keep s46)
    · obtain ⟨t1, y2, as, rfl, s1, s01, nt1, ht1, al⟩ := hp
      rw [List.length_map, List.length_reverse, Nat.sub_self, List.drop_zero] at al
      exact ⟨_, rfl, q H1 t1 as s1 nt1 ht1 al⟩
end
/-! ### _law_sum, _law_lines -/
abbrev s_law_sum : Stmt := topS 42
abbrev N_law_sum : List Str := ["_law_one", "_law_other", "_law_k"]
theorem sc_law_sum : FnScope N_law_sum ["_law_one", "_law_other"] (defScope s_law_sum) := ⟨rfl, rfl, rfl, by decide +kernel, rfl, by decide +kernel, by decide +kernel⟩

abbrev s_law_lines : Stmt := topS 43
abbrev N_law_lines : List Str := ["_law_shop", "_law_found", "_law_place", "_law_offer", "_law_own", "_law_adds", "_law_count", "_law_content_here", "_law_price", "_law_add", "_law_k", "_law_one", "_law_tier"]
theorem sc_law_lines : FnScope N_law_lines ["_law_shop"] (defScope s_law_lines) := ⟨rfl, rfl, rfl, by decide +kernel, rfl, by decide +kernel, by decide +kernel⟩

def sp_sum (K : PySem.W.Frag) : Sp := fun vs H Q _ => ∃ (a b : Addr) (xs ys : List Int), vs = [.ref a, .ref b] ∧ H a = some (LI xs) ∧ H b = some (LI ys) ∧ xs.length = ys.length ∧ xs.length ≤ 1000 ∧ ∀ H' q, Same H H' → H q = none → H' q = some (LI (togM xs ys)) → Q (.ref q) H'
section
variable {P : Program} {w : World} {K : PySem.W.Frag} {mg : Str → Option Value} {base : Heap}
theorem ok_sum {f : Addr} {fd : FuncData} {k : Nat} (M : Names mg) (D : Def K mg "_law_sum" s_law_sum ["_law_one", "_law_other"] f fd) : FnOk P w K mg base CX0 (k + 1) f fd ["_law_one", "_law_other"] (sp_sum K) := by
  refine D.F.ok sc_law_sum (fun vs H Q E h => ?_) (fun cdv A outer s H vs Q E hr h => ?_)
  · obtain ⟨a, b, xs, ys, rfl, _⟩ := h
    rfl
  · obtain ⟨a, b, xs, ys, rfl, ha, hb, hl, h1000, q⟩ := h
    refine ⟨_, (pss_one (ps_ret (pe_lc (own := [("_law_k", 2)]) (by rfl) sc_law_sum.nd (pi_range1 (by rfl) M.range (pa_cons (pe_callB call_len_seq (by rfl) M.len (by decide +kernel) (pa_cons (pv 0) pa_nil)) pa_nil)) (blkOk_by (own := [("_law_k", 2)]) (N := N_law_sum) (sc := defScope s_law_sum) (by decide +kernel)) (fun _ _ _ _ _ => (pg_name (i := 2) sc_law_sum.nd rfl (Or.inl rfl))) (fun _ _ _ _ _ => pts_nil) (fun _ _ _ _ _ => (pe_op op_add (pe_ix (ix_listK (K := K) rfl) (pv 0) (pv 2) (fun _ _ => rfl)) (pe_ix (ix_listK (K := K) rfl) (pv 1) (pv 2) (fun _ _ => rfl))))))), ?_⟩
    refine ⟨_, rfl, a, _, rfl, .inl (SqL.of ha), _, rfl, by rw [List.length_map]; omega, by rw [List.length_map]; omega, fun B nB => lc_range (lo := 0) (n := ((xs.map V.int).length : Int).toNat) (fun i H' => Same H H' ∧ H' B = some (LI ((togM xs ys).take i))) ⟨same_upd nB, upd_same⟩ (fun i H1 hi hp => ?_) (fun H1 hp => ?_)⟩
    · obtain ⟨s1, hB⟩ := hp
      rw [Int.toNat_natCast, List.length_map] at hi
      have gx := List.getElem?_eq_getElem hi
      have gy := List.getElem?_eq_getElem (show i < ys.length by omega)
      refine ⟨rfl, _, rfl, _, rfl, a, _, _, _, rfl, rfl, SqL.of (s1 _ _ ha), at_of (Int.zero_add _) (get_ints gx), _, rfl, _, rfl, b, _, _, _, rfl, rfl, SqL.of (s1 _ _ hb), at_of (Int.zero_add _) (get_ints gy), _, _, rfl, rfl, _, hB, szL' (by rw [List.length_map, List.length_take]; omega), sm_new s1 nB, ?_⟩
      rw [take_succ_at (togM_get gx gy)]
      exact at_app
    · obtain ⟨s1, hB⟩ := hp
      rw [Int.toNat_natCast, List.length_map, List.take_of_length_le (by rw [togM_len]; omega)] at hB
      exact q H1 B s1 nB hB
end
/-- wares, apart from d -/
def WaresAt (d : Addr) (H : Hp) (q : Addr) (xs : List PR) : Prop := q ≠ d ∧ ∃ as : List Addr, H q = some (.lst (as.map V.ref)) ∧ Al (PRowAt (cutH d H)) as xs
def sp_wares : Sp := fun vs H Q _ => ∃ (a d : Addr) (os : List Ofr) (ds : List V) (m : Nat), vs = [.ref a] ∧ H d = some (.lst ds) ∧ ShopAt (cutH d H) a os ∧ Good os ∧ FitS m os ∧ m ≤ 1000 ∧ ∀ H' q, Same H H' → H q = none → WaresAt d H' q (prowsM os) → Q (.ref q) H'
abbrev rowsAt (os : List Ofr) (p : Nat) : List PR := (linesAtM os p).map (prowM os)
theorem prows_flat (os : List Ofr) : prowsM os = (List.range os.length).flatMap (rowsAt os) := by
  unfold prowsM linesM
  rw [List.map_flatMap]
theorem rowsAt_len {os : List Ofr} (h : os.length ≤ 8) (p : Nat) : (rowsAt os p).length ≤ 256 := by
  rw [List.length_map]
  exact linesAtM_len h p
theorem rowsN_len {os : List Ofr} (h : os.length ≤ 8) (n : Nat) : ((List.range n).flatMap (rowsAt os)).length ≤ n * 256 := by
  have := linesN_len h n
  rw [← List.map_flatMap, List.length_map]
  exact this
theorem cut2_off {F d : Addr} {H : Hp} {o : HO} (n : F ≠ d) : cutH F (cutH d (upd H F o)) = cutH F (cutH d H) := by
  rw [cut_upd n, cut_off]
theorem map_one (c : List Int) : c.map ((1 : Int) * ·) = c := by
  induction c with
  | nil => rfl
  | cons a r ih => rw [List.map_cons, ih, Int.one_mul]
section
variable {P : Program} {w : World} {K : PySem.W.Frag} {mg : Str → Option Value} {base : Heap}
theorem ok_wares {f f1 f2 : Addr} {fd fd1 fd2 : FuncData} {k : Nat} (M : Names mg) (D : Def K mg "_law_lines" s_law_lines ["_law_shop"] f fd) (D_law_groups : Def K mg "_law_groups" s_law_groups ["_law_places"] f1 fd1) (D_law_sum : Def K mg "_law_sum" s_law_sum ["_law_one", "_law_other"] f2 fd2) : FnOk P w K mg base CX0 (k + 2) f fd ["_law_shop"] sp_wares := by
  have G_law_groups : FnOk P w K mg base CX0 (k + 1) f1 fd1 ["_law_places"] sp_groups := ok_groups M D_law_groups
  have G_law_sum : FnOk P w K mg base CX0 (k + 1) f2 fd2 ["_law_one", "_law_other"] (sp_sum K) := ok_sum M D_law_sum
  refine D.F.ok sc_law_lines (fun vs H Q E h => ?_) (fun cdv A outer s H vs Q E hr h => ?_)
  · obtain ⟨a, d, os, ds, m, rfl, _⟩ := h
    rfl
  · obtain ⟨a, d, os, ds, m, rfl, hd, hS, gd, ft, hm, q⟩ := h
    obtain ⟨vs, h1, h2, h3⟩ := id hS
    have h1' := (cut_some h1).2
    have h8 := gd.1
    refine ⟨_, (pss_cons (ps_set (i := 1) sc_law_lines.nd rfl (Or.inl rfl) (pe_lst pa_nil))
  (pss_cons (ps_for PassesOwn.never rfl (pi_enum (by rfl) M.enumerate (pa_cons (pv 0) pa_nil)) (pg_tup rfl (pgs_cons (pg_name (i := 2) sc_law_lines.nd rfl (Or.inr rfl)) (pgs_cons (pg_name (i := 3) sc_law_lines.nd rfl (Or.inl rfl)) pgs_nil)))
   (pss_cutI (ps_if (pt_cmpR op_eq (pe_ix ix_tup (pv 3) pe_int (fun _ _ => rfl)) pe_str (nomark _))
   (pss_cons (ps_setLc (i := 4) (own := [("_law_k", 10), ("_law_one", 11)]) (by rfl) sc_law_lines.nd rfl rfl (sw_true rfl rfl rfl (by decide +kernel)) (pi_enum (by rfl) M.enumerate (pa_cons (pv 0) pa_nil)) (blkOk_by (own := [("_law_k", 10), ("_law_one", 11)]) (N := N_law_lines) (sc := defScope s_law_lines) (by decide +kernel)) (fun _ _ _ _ _ => (pg_tupK (K := K) (n := 2) rfl rfl (pgs_cons (pg_name (i := 10) sc_law_lines.nd rfl (Or.inl rfl)) (pgs_cons (pg_name (i := 11) sc_law_lines.nd rfl (Or.inl rfl)) pgs_nil)))) (fun _ _ _ _ _ => (pts_one (PW.pt (pw_and (pt_cmpR op_eq (pe_ix (ix_tupK (K := K) rfl) (pv 11) pe_int (fun _ _ => rfl)) pe_str (nomark _)) (pw_and1 (pt_cmpR op_eq (pe_ix (ix_tupK (K := K) rfl) (pv 11) pe_int (fun _ _ => rfl)) (pv 2) (nomark _))))))) (fun _ _ _ _ _ => (pv 10)))
  (pss_one (ps_for PassesOwn.never rfl (pi_list (pe_call G_law_groups hr (by rfl) D_law_groups.g D_law_groups.F.kp D_law_groups.b .nil pass0 (pa_cons (pv 4) pa_nil))) (pg_name (i := 5) sc_law_lines.nd rfl (Or.inl rfl))
   (pss_cons (ps_set (i := 7) sc_law_lines.nd rfl (Or.inl rfl) (pe_ix ix_tup (pv 3) pe_int (fun _ _ => rfl)))
  (pss_cons (ps_set (i := 8) sc_law_lines.nd rfl (Or.inl rfl) (pe_ix ix_tup (pv 3) pe_int (fun _ _ => rfl)))
  (pss_cons (ps_for PassesOwn.never rfl (pi_list (pv 5)) (pg_name (i := 9) sc_law_lines.nd rfl (Or.inl rfl))
   (pss_cons (ps_set (i := 7) sc_law_lines.nd rfl (Or.inl rfl) (pe_call G_law_sum hr (by rfl) D_law_sum.g D_law_sum.F.kp D_law_sum.b .nil pass0 (pa_cons (pv 7) (pa_cons (pe_ix ix_tup (pe_ix ix_list (pv 0) (pv 9) (fun _ _ => rfl)) pe_int (fun _ _ => rfl)) pa_nil))))
  (pss_one (ps_set (i := 8) sc_law_lines.nd rfl (Or.inl rfl) (pe_op op_add (pv 8) (pe_ix ix_tup (pe_ix ix_list (pv 0) (pv 9) (fun _ _ => rfl)) pe_int (fun _ _ => rfl)))))))
  (pss_one (ps_expr (pe_bm PySem.F.plainAttrs_list PySem.F.slot_list_append PySem.F.type_list_append mt_append (pv 1) (pa_cons (pe_tup (pa_cons (pe_tup (pa_cons (pv 2) (pa_cons pe_int (pa_cons (pv 5) pa_nil)))) (pa_cons (pv 7) (pa_cons (pv 8) pa_nil)))) pa_nil))))))))))
   pss_nil)
  (pss_one (ps_if (pt_cmpR op_eq (pe_ix ix_tup (pv 3) pe_int (fun _ _ => rfl)) pe_str (nomark _))
   (pss_one (ps_for PassesOwn.never rfl (pi_range2 (by rfl) M.range (pa_cons pe_int (pa_cons pe_int pa_nil))) (pg_name (i := 6) sc_law_lines.nd rfl (Or.inr rfl))
   (pss_cons (ps_set (i := 8) sc_law_lines.nd rfl (Or.inl rfl) (pe_ix ix_list (pe_lc (own := [("_law_tier", 12)]) (by rfl) sc_law_lines.nd (pi_list (pe_ix ix_tup (pv 3) pe_int (fun _ _ => rfl))) (blkOk_by (own := [("_law_tier", 12)]) (N := N_law_lines) (sc := defScope s_law_lines) (by decide +kernel)) (fun _ _ _ _ _ => (pg_name (i := 12) sc_law_lines.nd rfl (Or.inl rfl))) (fun _ _ _ _ _ => (pts_one (pt_cmpR op_le (pe_ix (ix_tupK (K := K) rfl) (pv 12) pe_int (fun _ _ => rfl)) (pv 6) (nomark _)))) (fun _ _ _ _ _ => (pe_ix (ix_tupK (K := K) rfl) (pv 12) pe_int (fun _ _ => rfl)))) (pe_un un_neg pe_int) (fun _ _ => rfl)))
  (pss_one (ps_expr (pe_bm PySem.F.plainAttrs_list PySem.F.slot_list_append PySem.F.type_list_append mt_append (pv 1) (pa_cons (pe_tup (pa_cons (pe_tup (pa_cons (pv 2) (pa_cons (pv 6) (pa_cons (pe_lst pa_nil) pa_nil)))) (pa_cons (pe_lc (own := [("_law_one", 11)]) (by rfl) sc_law_lines.nd (pi_list (pe_ix ix_tup (pv 3) pe_int (fun _ _ => rfl))) (blkOk_by (own := [("_law_one", 11)]) (N := N_law_lines) (sc := defScope s_law_lines) (by decide +kernel)) (fun _ _ _ _ _ => (pg_name (i := 11) sc_law_lines.nd rfl (Or.inl rfl))) (fun _ _ _ _ _ => pts_nil) (fun _ _ _ _ _ => (pe_op op_mul (pv 6) (pv 11)))) (pa_cons (pe_op op_mul (pv 6) (pv 8)) pa_nil)))) pa_nil)))))))
   pss_nil))))
  (pss_one (ps_ret (pv 1))))), ?_⟩
    refine ⟨Nat.zero_le _, fun F nF => ?_⟩
    have nFd : F ≠ d := (ne_of_none hd nF).symm
    refine ⟨_, rfl, a, _, rfl, SqL.of ((same_upd nF) _ _ h1'), for_it (walk_enum (xs := vs.map V.ref)) (fun i σ H' => ∃ y2 y3 y4 y5 y6 y7 y8 y9, σ = [some (.ref a), some (.ref F), y2, y3, y4, y5, y6, y7, y8, y9, none, none, none] ∧ Same H H' ∧ ∃ rs : List Addr, H' F = some (.lst (rs.map V.ref)) ∧ Al (PRowAt (cutH F (cutH d H'))) rs ((List.range i).flatMap (rowsAt os))) ⟨none, none, none, none, none, none, none, none, rfl, same_upd nF, [], upd_same, True.intro⟩ (fun i σ H' _ hp => ?_) (fun i x σ H1 H2 hi hp hy => ?_) (fun σ H1 hp => ?_)⟩
    · obtain ⟨_, _, _, _, _, _, _, _, _, s1, _⟩ := hp
      exact SqL.of (s1 _ _ h1')
    · obtain ⟨y2, y3, y4, y5, y6, y7, y8, y9, rfl, s1, rs, hF1, all⟩ := hp
      obtain ⟨Tt, x1, x2, rfl, nT, rfl, e1, e2⟩ := hy
      cases Option.some.inj e1
      rw [List.length_map] at hi
      have hi2 : i < os.length := by omega
      obtain ⟨v, o, g1, g2, g3⟩ := ShopAt.get (H := H) (a := a) h2 hi2
      have e2' : (vs.map V.ref)[i]? = some x2 := e2
      rw [g3] at e2'
      cases Option.some.inj e2'
      have ho := h3 i v o g1 g2
      have st := same_upd (o := .tup [.int (i : Nat), .ref v]) nT
      have s2 := s1.trans st
      have hF2 := st _ _ hF1
      have all2 : Al (PRowAt (cutH F (cutH d (upd H1 Tt (.tup [.int (i : Nat), .ref v]))))) rs ((List.range i).flatMap (rowsAt os)) := all.imp fun r x h => h.ke (.of (cut_mono (cut_mono st)))
      have hTt : upd H1 Tt (.tup [.int (i : Nat), .ref v]) Tt = some (.tup [.int (i : Nat), .ref v]) := upd_same
      generalize upd H1 Tt (.tup [.int (i : Nat), .ref v]) = H2 at st s2 hF2 all2 hTt ⊢
      have tot := rowsN_len h8 i
      have one := rowsAt_len h8 i
      refine ⟨Tt, _, rfl, SqT.of hTt, rfl, _, _, rfl, _, _, rfl, rfl, ?_⟩
      have fo := ft o (List.mem_of_getElem? g2)
      -- a row more
      have push : ∀ (H3 H4 : Hp) (rs : List Addr) (xs : List PR) (ra : Addr) (x : PR) (u : HO), Al (PRowAt (cutH F (cutH d H3))) rs xs → Same H3 H4 → PRowAt (cutH F (cutH d H4)) ra x → Al (PRowAt (cutH F (cutH d (upd H4 F u)))) (rs ++ [ra]) (xs ++ [x]) := fun H3 H4 rs xs ra x u al s hx => by
        rw [cut2_off nFd]
        exact Al.app (al.imp fun r x h => h.ke (.of (cut_mono (cut_mono s)))) (.one hx)
      have nH : ∀ (H3 : Hp) b, Same H H3 → H3 F ≠ none → H3 b = none → b ≠ F ∧ b ≠ d := fun H3 b s hF hb => ⟨fun z => hF (by rw [← z]; exact hb), fun z => by rw [z, s _ _ hd] at hb; cases hb⟩
      refine ⟨fun σ' H' => ∃ y4 y5 y7 y8 y9, σ' = [some (.ref a), some (.ref F), some (.int (i : Nat)), some (.ref v), y4, y5, y6, y7, y8, y9, none, none, none] ∧ Same H H' ∧ ∃ rs : List Addr, H' F = some (.lst (rs.map V.ref)) ∧ Al (PRowAt (cutH F (cutH d H'))) rs ((List.range i).flatMap (rowsAt os) ++ (match o with | .pack _ _ => rowsAt os i | _ => [])), ?_, fun σ3 H3 hI => ?_⟩
      · cases o with
        | many c ts =>
          obtain ⟨b, t', hb, _⟩ := ho
          refine ⟨_, rfl, v, _, _, _, rfl, rfl, SqT.of (s2 _ _ (cut_some hb).2), atI_nat (j := 0) rfl, rfl, false, rfl, ?_⟩
          exact ⟨_, _, _, _, _, rfl, s2, rs, hF2, by rw [List.append_nil]; exact all2⟩
        | add c pr kk =>
          obtain ⟨b, hb, _⟩ := ho
          refine ⟨_, rfl, v, _, _, _, rfl, rfl, SqT.of (s2 _ _ (cut_some hb).2), atI_nat (j := 0) rfl, rfl, false, rfl, ?_⟩
          exact ⟨_, _, _, _, _, rfl, s2, rs, hF2, by rw [List.append_nil]; exact all2⟩
        | pack c pr =>
          obtain ⟨b, hv, hb⟩ := ho
          obtain ⟨nbd, hb'⟩ := cut_some hb
          have hv' := (cut_some hv).2
          have nbF : b ≠ F := ne_of_none hb' nF
          have em : rowsAt os i = (choicesM (addsM os i)).map fun c => prowM os ⟨i, 1, c⟩ := by
            unfold rowsAt linesAtM
            rw [g2, List.map_map]
            rfl
          refine ⟨_, rfl, v, _, _, _, rfl, rfl, SqT.of (s2 _ _ hv'), atI_nat (j := 0) rfl, rfl, true, rfl, ?_⟩
          -- own
          refine ⟨_, rfl, a, _, rfl, SqL.of (s2 _ _ h1'), fun B nB => lc_it (walk_enum (xs := vs.map V.ref)) (fun j H' => Same H2 H' ∧ H' B = some (LI (addsN os i j))) ⟨same_upd nB, upd_same⟩ (fun j H' _ hp => SqL.of (hp.1 _ _ (s2 _ _ h1'))) (fun j x H3 H4 hj hp hy => ?_) (fun H3 hp => ?_)⟩
          · obtain ⟨s3, hB⟩ := hp
            obtain ⟨T2, x1, x2, rfl, nT2, rfl, e1, e2⟩ := hy
            cases Option.some.inj e1
            rw [List.length_map] at hj
            obtain ⟨u, ou, k1, k2, k3⟩ := ShopAt.get (H := H) (a := a) h2 (show j < os.length by omega)
            have e2' : (vs.map V.ref)[j]? = some x2 := e2
            rw [k3] at e2'
            cases Option.some.inj e2'
            have sT := same_upd (o := .tup [.int (j : Nat), .ref u]) nT2
            have hB2 := sT _ _ hB
            have hou := ((h3 j u ou k1 k2).same cut_le).same (s2.trans (s3.trans sT))
            have nlen := addsN_len os i j
            cases ou with
            | pack c pr =>
              obtain ⟨b, hb, _⟩ := hou
              have hn : isAdd os i j = false := by unfold isAdd; rw [k2]
              refine ⟨T2, _, rfl, SqT.of upd_same, rfl, _, _, rfl, _, _, rfl, rfl, rfl, _, rfl, u, _, _, _, rfl, rfl, SqT.of hb, atI_nat (j := 0) rfl, rfl, false, rfl, ?_⟩
              exact ⟨s3.trans sT, by rw [addsN_no hn]; exact hB2⟩
            | many c ts =>
              obtain ⟨b, t', hb, _⟩ := hou
              have hn : isAdd os i j = false := by unfold isAdd; rw [k2]
              refine ⟨T2, _, rfl, SqT.of upd_same, rfl, _, _, rfl, _, _, rfl, rfl, rfl, _, rfl, u, _, _, _, rfl, rfl, SqT.of hb, atI_nat (j := 0) rfl, rfl, false, rfl, ?_⟩
              exact ⟨s3.trans sT, by rw [addsN_no hn]; exact hB2⟩
            | add c pr kk =>
              obtain ⟨b, hb, _⟩ := hou
              refine ⟨T2, _, rfl, SqT.of upd_same, rfl, _, _, rfl, _, _, rfl, rfl, rfl, _, rfl, u, _, _, _, rfl, rfl, SqT.of hb, atI_nat (j := 0) rfl, rfl, true, rfl, ?_⟩
              refine ⟨_, rfl, u, _, _, _, rfl, rfl, SqT.of hb, atI_nat (j := 3) rfl, _, rfl, rfl, _, rfl, ite2 (fun c => ?_) (fun c => ?_)⟩
              · have ek : kk = (i : Int) := V.int.inj (of_decide_eq_true c)
                have hn : isAdd os i j = true := by unfold isAdd; rw [k2]; exact decide_eq_true ek
                refine ⟨_, rfl, _, hB2, szL' (by rw [List.length_map]; omega), sm_new (s3.trans sT) nB, ?_⟩
                rw [addsN_yes hn]
                exact at_app
              · have hn : isAdd os i j = false := by unfold isAdd; rw [k2]; exact decide_eq_false fun z => c (decide_eq_true (by rw [z]))
                exact ⟨s3.trans sT, by rw [addsN_no hn]; exact hB2⟩
          · obtain ⟨s3, hB⟩ := hp
            rw [List.length_map, h2] at hB
            have la : (addsM os i).length ≤ 8 := Nat.le_trans (addsN_len _ _ _) h8
            -- groups
            refine ⟨_, rfl, B, addsM os i, rfl, hB, la, fun H4 G gs s4 nG hG alG => ?_⟩
            have s24 := s3.trans s4
            have lg := alG.len
            have lch := choicesM_le la
            have nGF : G ≠ F := fun z => by rw [z, s3 _ _ hF2] at nG; cases nG
            have hF4 := s24 _ _ hF2
            have all4 : Al (PRowAt (cutH F (cutH d H4))) rs ((List.range i).flatMap (rowsAt os)) := all2.imp fun r x h => h.ke (.of (cut_mono (cut_mono s24)))
            have s04 := s2.trans s24
            refine ⟨G, rfl, ⟨_, SqL.of hG⟩, for_list (K := K) (a := G) (xs := gs.map V.ref) (fun j σ H' => ∃ y5 y7 y8 y9, σ = [some (.ref a), some (.ref F), some (.int (i : Nat)), some (.ref v), some (.ref B), y5, y6, y7, y8, y9, none, none, none] ∧ Same H H' ∧ SameBut F H4 H' ∧ ∃ rs : List Addr, H' F = some (.lst (rs.map V.ref)) ∧ Al (PRowAt (cutH F (cutH d H'))) rs ((List.range i).flatMap (rowsAt os) ++ ((choicesM (addsM os i)).take j).map fun c => prowM os ⟨i, 1, c⟩)) ⟨_, _, _, _, rfl, s04, .refl _ _, rs, hF4, by rw [List.take_zero, List.map_nil, List.append_nil]; exact all4⟩ (fun j σ H' _ hp => ?_) (fun j x σ H5 hx hp => ?_) (fun σ H5 hp => ?_)⟩
            · obtain ⟨_, _, _, _, _, _, sb, _⟩ := hp
              exact SqL.of (sb _ _ nGF hG)
            · obtain ⟨y5, y7, y8, y9, rfl, s5, sb5, rs5, hF5, all5⟩ := hp
              rw [List.getElem?_map] at hx
              cases hu : gs[j]? with
              | none => rw [hu] at hx; cases hx
              | some g =>
                rw [hu] at hx
                cases Option.some.inj hx
                obtain ⟨ch, hch, hg4, ng3⟩ := alG.get hu
                have ngF : g ≠ F := fun z => by rw [z, s3 _ _ hF2] at ng3; cases ng3
                have ngd : g ≠ d := fun z => by rw [z, s3 _ _ (s2 _ _ hd)] at ng3; cases ng3
                have hg5 := sb5 _ _ ngF hg4
                have chm := List.mem_of_getElem? hch
                obtain ⟨lch1, hsub⟩ := choices_mem chm
                have lr5 := all5.len
                rw [List.length_append, List.length_map, List.length_take] at lr5
                have lk : LineOk os ⟨i, 1, ch⟩ := linesAt_ok gd (p := i) (by unfold linesAtM; rw [g2]; exact List.mem_map.mpr ⟨ch, chm, rfl⟩)
                refine ⟨_, rfl, v, _, _, _, rfl, rfl, SqT.of (s5 _ _ hv'), atI_nat (j := 1) rfl, ?_⟩
                refine ⟨_, rfl, v, _, _, _, rfl, rfl, SqT.of (s5 _ _ hv'), atI_nat (j := 2) rfl, ?_⟩
                refine ⟨_, rfl, g, rfl, ⟨_, SqL.of hg5⟩, for_list (K := K) (a := g) (xs := ch.map V.int) (fun t σ H' => ∃ (cc : Addr) (cs : List Int) (y9 : Option V), σ = [some (.ref a), some (.ref F), some (.int (i : Nat)), some (.ref v), some (.ref B), some (.ref g), y6, some (.ref cc), some (.int (pr + ((ch.take t).map (addPr os)).sum)), y9, none, none, none] ∧ Same H5 H' ∧ H' cc = some (LI cs) ∧ cc ≠ F ∧ cc ≠ d ∧ cs.length = m ∧ cs = (ch.take t).foldl (fun acc x => togM acc (contAt os x)) c) ⟨b, c, y9, by rw [List.take_zero]; show _ = [_, _, _, _, _, _, _, _, some (V.int (pr + 0)), _, _, _, _]; rw [Int.add_zero]; rfl, fun _ _ e => e, s5 _ _ hb', nbF, nbd, fo.1, rfl⟩ (fun t σ H' _ hp => ?_) (fun t x σ H6 hx hp => ?_) (fun σ H6 hp => ?_)⟩
                · obtain ⟨_, _, _, _, s6, _⟩ := hp
                  exact SqL.of (s6 _ _ hg5)
                · obtain ⟨cc, cs, y9, rfl, s6, hcc, ncF, ncd, lcs, ecs⟩ := hp
                  obtain ⟨n, hn, rfl⟩ := of_get_ints hx
                  obtain ⟨jj, rfl, hjl, c', p', hadd⟩ := adds_mem (hsub n (List.mem_of_getElem? hn))
                  obtain ⟨u, ou, k1, k2, k3⟩ := ShopAt.get (H := H) (a := a) h2 hjl
                  cases Option.some.inj (k2.symm.trans hadd)
                  obtain ⟨bu, hu1, hu2⟩ := ((h3 jj u _ k1 k2).same cut_le).same (s5.trans s6)
                  have fu := ft _ (List.mem_of_getElem? hadd)
                  have ha6 := (s5.trans s6) _ _ h1'
                  refine ⟨_, rfl, _, rfl, _, rfl, a, _, _, _, rfl, rfl, SqL.of ha6, atI_nat k3, u, _, _, _, rfl, rfl, SqT.of hu1, atI_nat (j := 1) rfl, cc, bu, cs, c', rfl, hcc, hu2, by rw [lcs, fu.1], by omega, fun H7 q7 s7 nq7 hq7 => ?_⟩
                  have hu17 := s7 _ _ hu1
                  have ha7 := s7 _ _ ha6
                  have hF7 : H6 F ≠ none := by rw [s6 _ _ hF5]; exact fun z => nomatch z
                  obtain ⟨n1, n2⟩ := nH H6 q7 (s5.trans s6) hF7 nq7
                  refine ⟨_, rfl, _, rfl, _, rfl, a, _, _, _, rfl, rfl, SqL.of ha7, atI_nat k3, u, _, _, _, rfl, rfl, SqT.of hu17, atI_nat (j := 2) rfl, _, _, rfl, rfl, ?_⟩
                  refine ⟨q7, togM cs c', some (.int ((jj : Nat) : Int)), ?_, s6.trans s7, hq7, n1, n2, by rw [togM_len, lcs, fu.1]; exact Nat.min_self m, ?_⟩
                  · rw [take_succ_at hn, List.map_append, List.sum_append]
                    have ea : addPr os ((jj : Nat) : Int) = p' := by unfold addPr; rw [Int.toNat_natCast, hadd]
                    show _ = [_, _, _, _, _, _, _, _, some (V.int (pr + (((ch.take t).map (addPr os)).sum + (addPr os ((jj : Nat) : Int) + 0)))), _, _, _, _]
                    rw [ea, Int.add_zero, ← Int.add_assoc]
                    rfl
                  · rw [take_succ_at hn, List.foldl_append, ← ecs]
                    show togM cs c' = togM cs (contAt os ((jj : Nat) : Int))
                    rw [contAt_get hadd]
                    rfl
                · obtain ⟨cc, cs, y9, rfl, s6, hcc, ncF, ncd, lcs, ecs⟩ := hp
                  rw [List.length_map, List.take_length] at ecs
                  rw [List.length_map, List.take_length]
                  have hF6 := s6 _ _ hF5
                  have s06 := s5.trans s6
                  have hF6n : H6 F ≠ none := by rw [hF6]; exact fun z => nomatch z
                  refine ⟨_, rfl, .inl ⟨rfl, _, SqL.of hF6⟩, _, rfl, _, rfl, by show 3 ≤ sizeLine; decide, fun lt nlt => ⟨_, rfl, _, rfl, by show 3 ≤ sizeLine; decide, fun rt nrt => ?_⟩⟩
                  have sl := same_upd (o := .tup [.int (i : Nat), .int 1, .ref g]) nlt
                  have sr := same_upd (o := .tup [.ref lt, .ref cc, .int (pr + (ch.map (addPr os)).sum)]) nrt
                  obtain ⟨nl1, nl2⟩ := nH H6 lt s06 hF6n nlt
                  obtain ⟨nr1, nr2⟩ := nH _ rt (s06.trans sl) (by rw [sl _ _ hF6]; exact fun z => nomatch z) nrt
                  have hF8 := sr _ _ (sl _ _ hF6)
                  refine ⟨F, _, _, rfl, rfl, hF8, szL' (by rw [List.length_map]; omega), _, _, _, _, rfl, sm_new (s06.trans (sl.trans sr)) nF, ((sb5.trans (.of s6)).trans (.of (sl.trans sr))).trans .upd, rs5 ++ [rt], ?_, ?_⟩
                  · rw [upd_same, List.map_append]
                    rfl
                  · rw [take_succ_at hch, List.map_append, ← List.append_assoc]
                    have ep : priceM os ⟨i, 1, ch⟩ = pr + (ch.map (addPr os)).sum := by unfold priceM; rw [show ((⟨i, 1, ch⟩ : Ln).p).toNat = i from Int.toNat_natCast i, g2]
                    have ec : contM os ⟨i, 1, ch⟩ = cs := by
                      unfold contM
                      rw [show contAt os ((i : Nat) : Int) = c from contAt_get g2]
                      show ch.foldl _ (c.map (1 * ·)) = cs
                      rw [map_one, ecs]
                    refine push H5 _ rs5 _ rt _ _ all5 (s6.trans (sl.trans sr)) ⟨lt, cc, cut_put nr1 (cut_put nr2 ?_), ⟨g, cut_put nl1 (cut_put nl2 (sr _ _ upd_same)), cut_put ngF (cut_put ngd ((s6.trans (sl.trans sr)) _ _ hg5))⟩, ?_⟩
                    · show upd _ rt _ rt = some (.tup [.ref lt, .ref cc, .int (priceM os ⟨i, 1, ch⟩)])
                      rw [upd_same, ep]
                    · show cutH F (cutH d _) cc = some (LI (contM os ⟨i, 1, ch⟩))
                      rw [ec]
                      exact cut_put ncF (cut_put ncd ((sl.trans sr) _ _ hcc))
            · obtain ⟨y5, y7, y8, y9, rfl, s5, sb5, rs5, hF5, all5⟩ := hp
              rw [List.length_map, lg, List.take_length, ← em] at all5
              exact ⟨_, _, _, _, _, rfl, s5, rs5, hF5, all5⟩
      · obtain ⟨y4, y5, y7, y8, y9, rfl, s3, rs3, hF3, all3⟩ := hI
        have hend : ∀ {z : List PR}, rowsAt os i = z → (List.range (i + 1)).flatMap (rowsAt os) = (List.range i).flatMap (rowsAt os) ++ z := fun {z} e => by
          rw [List.range_succ, List.flatMap_append, List.flatMap_singleton, e]
        cases o with
        | pack c pr =>
          obtain ⟨b, hv, _⟩ := ho
          refine ⟨_, rfl, v, _, _, _, rfl, rfl, SqT.of (s3 _ _ (cut_some hv).2), atI_nat (j := 0) rfl, rfl, false, rfl, ?_⟩
          exact ⟨_, _, _, _, _, _, _, _, rfl, s3, rs3, hF3, by rw [hend rfl]; exact all3⟩
        | add c pr kk =>
          obtain ⟨b, hv, _⟩ := ho
          refine ⟨_, rfl, v, _, _, _, rfl, rfl, SqT.of (s3 _ _ (cut_some hv).2), atI_nat (j := 0) rfl, rfl, false, rfl, ?_⟩
          refine ⟨_, _, _, _, _, _, _, _, rfl, s3, rs3, hF3, ?_⟩
          rw [hend (z := []) (by unfold rowsAt linesAtM; rw [g2]; rfl)]
          exact all3
        | many c ts =>
          obtain ⟨b, t', hv, hb, us, u1, u2, u3⟩ := ho
          obtain ⟨nbd, hb'⟩ := cut_some hb
          have hv' := (cut_some hv).2
          have u1' := (cut_some u1).2
          have gts : GoodT ts := gd.2 i _ g2
          have few := gts.few
          have prt : PriceT ts := fo.2.2
          rw [List.append_nil] at all3
          have em : rowsAt os i = (List.range 12).map fun k => prowM os ⟨i, 1 + (k : Nat), []⟩ := by
            unfold rowsAt linesAtM
            rw [g2, List.map_map]
            rfl
          refine ⟨_, rfl, v, _, _, _, rfl, rfl, SqT.of (s3 _ _ hv'), atI_nat (j := 0) rfl, rfl, true, rfl, ?_⟩
          refine ⟨1, 13, rfl, ⟨by decide, by decide, by decide, by decide⟩, for_range (lo := 1) (n := 12) (fun j σ H' => ∃ y5 y6 y7 y8 y9, σ = [some (.ref a), some (.ref F), some (.int (i : Nat)), some (.ref v), y4, y5, y6, y7, y8, y9, none, none, none] ∧ Same H H' ∧ ∃ rs : List Addr, H' F = some (.lst (rs.map V.ref)) ∧ Al (PRowAt (cutH F (cutH d H'))) rs ((List.range i).flatMap (rowsAt os) ++ (List.range j).map fun k => prowM os ⟨i, 1 + (k : Nat), []⟩)) ⟨_, _, _, _, _, rfl, s3, rs3, hF3, by rw [show ((List.range 0).map fun k => prowM os ⟨i, 1 + (k : Nat), []⟩) = [] from rfl, List.append_nil]; exact all3⟩ (fun j σ H4 hj hp => ?_) (fun σ H4 hp => ?_)⟩
          · obtain ⟨y5, y6, y7, y8, y9, rfl, s4, rs4, hF4, all4⟩ := hp
            have lr4 := all4.len
            rw [List.length_append, List.length_map, List.length_range] at lr4
            -- price
            refine ⟨_, rfl, v, _, _, _, rfl, rfl, SqT.of (s4 _ _ hv'), atI_nat (j := 2) rfl, t', rfl, ⟨_, SqL.of (s4 _ _ u1')⟩, fun B nB => lc_list (K := K) (xs := us.map V.ref) (fun l H' => Same H4 H' ∧ H' B = some (LI (pieceL (ts.take l) (1 + (j : Int)))) ∧ (pieceL (ts.take l) (1 + (j : Int))).length ≤ l) ⟨same_upd nB, upd_same, Nat.le_refl _⟩ (fun l H' _ hp => SqL.of (hp.1 _ _ (s4 _ _ u1'))) (fun l x H5 hx hp => ?_) (fun H5 hp => ?_)⟩
            · obtain ⟨s5, hB, hlen⟩ := hp
              rw [List.getElem?_map] at hx
              cases hu : us[l]? with
              | none => rw [hu] at hx; cases hx
              | some u =>
                rw [hu] at hx
                cases Option.some.inj hx
                have hl : l < ts.length := by
                  have := (List.getElem?_eq_some_iff.mp hu).1
                  omega
                have gt := List.getElem?_eq_getElem hl
                have hut := s5 _ _ (s4 _ _ (cut_some (u3 l u _ hu gt)).2)
                refine ⟨rfl, _, rfl, u, _, _, _, rfl, rfl, SqT.of hut, atI_nat (j := 0) rfl, _, rfl, _, _, rfl, rfl, _, rfl, ite2 (fun z => ?_) (fun z => ?_)⟩
                · have z2 := of_decide_eq_true z
                  refine ⟨_, rfl, u, _, _, _, rfl, rfl, SqT.of hut, atI_nat (j := 1) rfl, _, hB, szL' (by rw [List.length_map]; omega), sm_new s5 nB, ?_, ?_⟩
                  · rw [pieceL_take gt, if_pos z2]
                    exact at_app
                  · rw [pieceL_take gt, if_pos z2, List.length_append, List.length_singleton]
                    omega
                · have z2 : ¬ (ts[l]).1 ≤ 1 + (j : Int) := fun y => z (decide_eq_true y)
                  refine ⟨s5, ?_, ?_⟩
                  · rw [pieceL_take gt, if_neg z2]
                    exact hB
                  · rw [pieceL_take gt, if_neg z2]
                    omega
            · obtain ⟨s5, hB, hlen⟩ := hp
              rw [List.length_map, u2, List.take_length] at hB hlen
              have ne : pieceL ts (1 + (j : Int)) ≠ [] := by
                have pos := gts.pos
                have g0 := List.getElem?_eq_getElem (show 0 < ts.length by omega)
                have e1 := gts.one _ g0
                have hm : (ts[0]'(by omega)) ∈ ts.filter fun t => decide (t.1 ≤ 1 + (j : Int)) := List.mem_filter.mpr ⟨List.getElem_mem _, decide_eq_true (by omega)⟩
                intro z
                unfold pieceL at z
                rw [List.map_eq_nil_iff] at z
                rw [z] at hm
                cases hm
              have hpos : 0 < (pieceL ts (1 + (j : Int))).length := List.length_pos_iff.mpr ne
              have glast : (pieceL ts (1 + (j : Int)))[(pieceL ts (1 + (j : Int))).length - 1]? = some (pieceM ts (1 + (j : Int))) := by
                unfold pieceM
                rw [List.getLastD_eq_getLast?, List.getLast?_eq_getElem?]
                rw [List.getElem?_eq_getElem (by omega)]
                rfl
              have pbnd : 0 ≤ pieceM ts (1 + (j : Int)) ∧ pieceM ts (1 + (j : Int)) < 1000000000000 := by
                obtain ⟨t, ht, e⟩ := List.mem_map.mp (List.mem_of_getElem? glast)
                rw [← e]
                exact prt t (List.mem_filter.mp ht).1
              have hneg : atI ((pieceL ts (1 + (j : Int))).map V.int) (-1) = some (.int (pieceM ts (1 + (j : Int)))) := by
                have e : pieceL ts (1 + (j : Int)) = (pieceL ts (1 + (j : Int))).dropLast ++ [pieceM ts (1 + (j : Int))] := by
                  unfold pieceM
                  rw [List.getLastD_eq_getLast?, List.getLast?_eq_getLast ne]
                  exact (List.dropLast_concat_getLast ne).symm
                rw [e, List.map_append]
                exact atI_last _ _
              refine ⟨1, rfl, B, _, -1, _, rfl, rfl, SqL.of hB, hneg, ?_⟩
              have s05 := s4.trans s5
              have hF5 := s5 _ _ hF4
              have hF5n : H5 F ≠ none := by rw [hF5]; exact fun z => nomatch z
              -- append
              refine ⟨_, rfl, .inl ⟨rfl, _, SqL.of hF5⟩, _, rfl, _, rfl, Nat.zero_le _, fun el nel => ⟨by show 3 ≤ sizeLine; decide, fun lt nlt => ?_⟩⟩
              have se := same_upd (o := .lst []) nel
              have sl := same_upd (o := .tup [.int (i : Nat), .int (1 + (j : Int)), .ref el]) nlt
              obtain ⟨ne1, ne2⟩ := nH H5 el s05 hF5n nel
              obtain ⟨nl1, nl2⟩ := nH _ lt (s05.trans se) (by rw [se _ _ hF5]; exact fun z => nomatch z) nlt
              have s07 := s05.trans (se.trans sl)
              have hF7 := (se.trans sl) _ _ hF5
              have hel : upd (upd H5 el (.lst [])) lt (.tup [.int (i : Nat), .int (1 + (j : Int)), .ref el]) el = some (LI []) := sl _ _ upd_same
              have hlt : upd (upd H5 el (.lst [])) lt (.tup [.int (i : Nat), .int (1 + (j : Int)), .ref el]) lt = some (.tup [.int (i : Nat), .int (1 + (j : Int)), .ref el]) := upd_same
              have s57 := se.trans sl
              generalize upd (upd H5 el (.lst [])) lt (.tup [.int (i : Nat), .int (1 + (j : Int)), .ref el]) = H7 at s07 hF7 hel hlt s57 ⊢
              refine ⟨_, rfl, v, _, _, _, rfl, rfl, SqT.of (s07 _ _ hv'), atI_nat (j := 1) rfl, b, rfl, ⟨_, SqL.of (s07 _ _ hb')⟩, fun C nC => lc_list (K := K) (xs := c.map V.int) (fun l H' => Same H7 H' ∧ H' C = some (LI ((c.take l).map ((1 + (j : Int)) * ·)))) ⟨same_upd nC, upd_same⟩ (fun l H' _ hp => SqL.of (hp.1 _ _ (s07 _ _ hb'))) (fun l x H8 hx hp => ?_) (fun H8 hp => ?_)⟩
              · obtain ⟨s8, hC⟩ := hp
                obtain ⟨n, hn, rfl⟩ := of_get_ints hx
                have hl := (List.getElem?_eq_some_iff.mp hn).1
                have lc := fo.1
                refine ⟨rfl, _, rfl, _, rfl, _, _, rfl, rfl, .inl ⟨by omega, by omega⟩, _, hC, szL' (by rw [List.length_map, List.length_map, List.length_take]; omega), sm_new s8 nC, ?_⟩
                rw [take_succ_at hn, List.map_append]
                exact at_app
              · obtain ⟨s8, hC⟩ := hp
                rw [List.length_map, List.take_length] at hC
                obtain ⟨nc1, nc2⟩ := nH H7 C s07 (by rw [hF7]; exact fun z => nomatch z) nC
                refine ⟨_, rfl, _, rfl, _, _, rfl, rfl, .inl ⟨by omega, by omega⟩, by show 3 ≤ sizeLine; decide, fun rt nrt => ?_⟩
                have sr := same_upd (o := .tup [.ref lt, .ref C, .int ((1 + (j : Int)) * pieceM ts (1 + (j : Int)))]) nrt
                obtain ⟨nr1, nr2⟩ := nH H8 rt (s07.trans s8) (by rw [s8 _ _ hF7]; exact fun z => nomatch z) nrt
                have hF9 := sr _ _ (s8 _ _ hF7)
                refine ⟨F, _, _, rfl, rfl, hF9, szL' (by rw [List.length_map]; omega), _, _, _, _, _, rfl, sm_new (s07.trans (s8.trans sr)) nF, rs4 ++ [rt], ?_, ?_⟩
                · rw [upd_same, List.map_append]
                  rfl
                · rw [List.range_succ, List.map_append, ← List.append_assoc]
                  have ep : priceM os ⟨i, 1 + (j : Int), []⟩ = (1 + (j : Int)) * pieceM ts (1 + (j : Int)) := by unfold priceM; rw [show ((⟨i, 1 + (j : Int), []⟩ : Ln).p).toNat = i from Int.toNat_natCast i, g2]
                  have ec : contM os ⟨i, 1 + (j : Int), []⟩ = c.map ((1 + (j : Int)) * ·) := by
                    unfold contM
                    rw [show contAt os ((i : Nat) : Int) = c from contAt_get g2]
                    rfl
                  refine push H4 _ rs4 _ rt _ _ all4 ((s5.trans s57).trans (s8.trans sr)) ⟨lt, C, cut_put nr1 (cut_put nr2 ?_), ⟨el, cut_put nl1 (cut_put nl2 ((s8.trans sr) _ _ hlt)), cut_put ne1 (cut_put ne2 ((s8.trans sr) _ _ hel))⟩, ?_⟩
                  · show upd _ rt _ rt = some (.tup [.ref lt, .ref C, .int (priceM os ⟨i, 1 + (j : Int), []⟩)])
                    rw [upd_same, ep]
                  · show cutH F (cutH d _) C = some (LI (contM os ⟨i, 1 + (j : Int), []⟩))
                    rw [ec]
                    exact cut_put nc1 (cut_put nc2 (sr _ _ hC))
          · obtain ⟨y5, y6, y7, y8, y9, rfl, s4, rs4, hF4, all4⟩ := hp
            refine ⟨_, _, _, _, _, _, _, _, rfl, s4, rs4, hF4, ?_⟩
            rw [hend em]
            exact all4
    · obtain ⟨y2, y3, y4, y5, y6, y7, y8, y9, rfl, s1, rs, hF1, all⟩ := hp
      rw [List.length_map, h2, ← prows_flat] at all
      exact ⟨_, rfl, q H1 F s1 nF ⟨nFd, rs, hF1, all.imp fun r x h => h.ke (.of cut_le)⟩⟩
end
/-! ### what stands of a heap while d and tables change -/
structure Fr (T : List Addr) (d : Addr) (Hb H : Hp) : Prop where
  ke : Ke Hb (cutH d H)
  dr : ∃ ds, H d = some (LI ds)
  tb : Tb T H
section
variable {T : List Addr} {d : Addr} {Hb H H' : Hp}
theorem Fr.ext (F : Fr T d Hb H) (e : Ext T H H') : Fr T d Hb H' := by
  obtain ⟨ds, hd⟩ := F.dr
  exact ⟨F.ke.trans e.ke.cut, ⟨ds, e.lst hd⟩, e.t1⟩
theorem Fr.same (F : Fr T d Hb H) (s : Same H H') : Fr T d Hb H' := F.ext (.same s F.tb)
theorem Fr.but (F : Fr T d Hb H) (s : SameBut d H H') (h : ∃ ds, H' d = some (LI ds)) : Fr T d Hb H' := by
  obtain ⟨ds, hd⟩ := F.dr
  exact ⟨F.ke.trans (.of (cut_same s)), h, tb_but s hd F.tb⟩
theorem Fr.all (F : Fr T d Hb H) : Ke Hb H := F.ke.trans (.of cut_le)
theorem Fr.lst (F : Fr T d Hb H) {p : Addr} {xs : List V} (h : Hb p = some (.lst xs)) : H p = some (.lst xs) := F.all.lst h
theorem Fr.tup (F : Fr T d Hb H) {p : Addr} {xs : List V} (h : Hb p = some (.tup xs)) : H p = some (.tup xs) := F.all.tup h
theorem Fr.ne (F : Fr T d Hb H) {p : Addr} {xs : List V} (h : Hb p = some (.lst xs)) : p ≠ d := (cut_some (F.ke.lst h)).1
theorem Fr.start {ds : List Int} (hd : H d = some (LI ds)) (hT : Tb T H) : Fr T d (cutH d H) H := ⟨.refl _, ⟨ds, hd⟩, hT⟩
/-- what is allotted later is apart from d -/
theorem Fr.apart (F : Fr T d Hb H) {p : Addr} (h : H p = none) : p ≠ d := fun z => by
  obtain ⟨ds, e⟩ := F.dr
  rw [z, e] at h
  cases h
end
/-! ### defs that are called while no list or tuple is being shown: str(..) of data -/
structure FnOkG (P : Program) (w : World) (K : PySem.W.Frag) (mg : Str → Option Value) (base : Heap) (k : Nat) (f : Addr) (fd : FuncData) (ps : List Str) (sp : Sp) : Prop where
  count : ∀ vs H Q E, sp vs H Q E → vs.length = ps.length
  go : ∀ (A : Around) (out : List Env) (s : Shared) (H : Hp) (args : Args) (us : List Value) (vs : List V) (Q : VK) (E : XK), A.guards = some [] → Room k A → Env0 P w K mg base A out s H → BindsTo s fd args (ps.zip us) → Vals vs us → sp vs H Q E →
    codeAny (model P w) A (.call (.ref f) args) (CR CX0 out P w H s Q E) s
section
variable {P : Program} {w : World} {K : PySem.W.Frag} {mg : Str → Option Value} {base : Heap}
theorem okG {x qual : Str} {st : Stmt} {f : Addr} {fd : FuncData} {N ps : List Str} {k : Nat} {sp : Sp} (F : Fun K x qual st f fd) (S : FnScope N ps (defScope st)) (cnt : ∀ vs H Q E, sp vs H Q E → vs.length = ps.length)
    (bd : ∀ (cdv : Value) (A : Around) (out : List Env) (s : Shared) (H : Hp) (vs : List V) (Q : VK) (E : XK), (A.deeper (envOfC qual (defScope st) s.heap.objs.size f cdv)).guards = some [] → Room k (A.deeper (envOfC qual (defScope st) s.heap.objs.size f cdv)) → sp vs H Q E →
      ∃ t, PSs (cxOf CX0 P w K mg base N qual (defScope st) f cdv A out s H E).nox (defBody st) t ∧ t { nx := fun _ H' => Q .non H', rt := Q } (start N vs) H) : FnOkG P w K mg base (k + 1) f fd ps sp := by
  obtain ⟨oc, od, kV, doc, pm, an, cdv, ct, osl, rfl, lk, hcd⟩ := F.ex
  refine ⟨cnt, fun A out s H args us vs Q E gd room env bnd rv pre => ?_⟩
  have kin : K.In s.heap := env.mod.kin.keeps fun b o z => (env.bs b o z).1
  have nol : s.heap.NoLimit := env.mod.nolimit.keeps fun b o z => (env.bs b o z).1
  refine codeAny_call_function room.depth (kin _ _ lk) rfl S.co S.gen rfl (PySem.W.codeRec_of kin hcd) (bnd _ _ _ _ ?_)
  refine wpAny_newFunctionEnv_cells S.kind (fun y hy => ?_) fun env' he s1 inside => ?_
  · have hp := S.par y.1 (List.of_mem_zip (show (y.1, y.2) ∈ ps.zip us from hy)).1
    exact hp.imp id fun z => ⟨z, PySem.W.cellsFrom_some _ _ _ (.inl z)⟩
  · subst he
    refine ⟨nol.keeps inside.toInCall.keep, codeAny_func ?_⟩
    obtain ⟨t, body, holds⟩ := bd cdv A out s H vs Q E gd (room.deeper _) pre
    have inv : Inv (cxOf CX0 P w K mg base N qual (defScope st) f cdv A out s H E) [] (start N vs) H s1 := inv_start S room.hd env (cnt _ _ _ _ pre) rv inside
    refine wpAny_mono (body.nox.run [] s1 (start N vs) H _ inv holds) (fun fl s' res => ?_) fun _ _ z => z
    cases fl with
    | brk => exact res.elim fun _ z => z.elim fun _ z => z.2.elim
    | cont => exact res.elim fun _ z => z.elim fun _ z => z.2.elim
    | next =>
      obtain ⟨_, Hn, J, z⟩ := res
      exact ⟨.non, Hn, J.os, J.bare, J.base, J.hok, rfl, z⟩
    | ret u =>
      obtain ⟨v, _, Hn, J, rel, z⟩ := res
      exact ⟨v, Hn, J.os, J.bare, J.base, J.hok, rel, z⟩
/-- f(e, ..), f such a def -/
theorem pe_callG {X : Cx} {x : Str} {f : Addr} {fd : FuncData} {ps : List Str} {sp : Sp} {k : Nat} {p pos : Pos} {e : Expr} {es : List Expr} {t : TA} (gd : X.A.guards = some []) (F : FnOkG X.prog X.w X.K X.mg X.base k f fd ps sp) (room : Room k X.A) (hg : Gl X x) (hm : X.mg x = some (.ref f)) (kp : PySem.W.keepIn X.K (.ref f) = true) (bnd : Binds X.K fd ps [])
    (args : PA X (e :: es) t) (hx : Passes CX0 X fun _ _ _ => False) (nodb : (x == ("__debug__" : Str)) = false := by decide) (plain : starEach (e :: es) X.env = (false, eval e X.env) :: starEach es X.env := by rfl) (rest : (backTo pos (starEach es X.env)).any (·.1) = false := by rfl) :
    PE X (.Call (.Name x p) (e :: es) [] pos) (tCall sp [] (fun _ _ _ => False) t) := by
  refine ⟨fun pins s σ H Q I pre => wpAny_Call_Name_kw (ld_glob I hg hm ?_ nodb)⟩
  refine PySem.W.callWith_K (h₀ := X.base) I.ok.mod.kin kp (thn (args.run pos pins s σ H _ I pre) fun us s1 got => ?_) plain rest
  obtain ⟨vs, H1, I1, rel, pre1⟩ := got
  have pre1' : sp vs H1 Q fun _ _ _ => False := by
    have z := pre1
    rw [List.append_nil] at z
    exact z
  have many : us.length = ps.length := by rw [← rel.length]; exact F.count _ _ _ _ pre1'
  have bt := bnd s1 us I1.kIn (by rw [List.append_nil]; exact many)
  rw [List.append_nil] at bt
  refine ⟨I1.kIn, wpAny_call (codeAny_mono (F.go X.A X.stack s1 H1 ⟨us, []⟩ us vs Q _ gd room I1.env0 bt rel pre1') fun r s' res => ?_)⟩
  match r, res with
  | .error er, z => exact hx pins σ H1 s1 er s' I1 z
  | .ok (.ret u), z => exact I1.after z
/-- str(x) of data -/
def rStrD (K : PySem.W.Frag) : List V → Hp → VK → Prop := fun xs H Q => ∃ (a : Addr) (d : PyData), xs = [.ref a] ∧ Dp K H (.ref a) d ∧ d.showable = true ∧ d.hasDict = false ∧ d.depth ≤ 60 ∧ d.shown.length ≤ sizeLine ∧ Q (.str d.shown) H
theorem cr_strD {X : Cx} (gd : X.A.guards = some []) (hu : X.A.units + 64 < cLine) : CallR X (.type "str") (rStrD X.K) := by
  intro pins s σ H vs us Q I rel pre
  obtain ⟨a, d, rfl, dp, sh, nd, dep, small, q⟩ := pre
  rw [Vals.ref1 rel]
  obtain ⟨as, rd⟩ := Dp.reads I _ _ _ dp rfl
  exact str_of_reads rd sh (fun z => by rw [nd] at z; cases z) gd (by omega) (fun _ _ z => z) (fun h' u tk keep => ⟨.str _, H, I.kept keep, ⟨u, rfl⟩, q⟩) small
theorem cr_strDK {X : Cx} {K : PySem.W.Frag} (h : X.K = K) (gd : X.A.guards = some []) (hu : X.A.units + 64 < cLine) : CallR X (.type "str") (rStrD K) := by subst h; exact cr_strD gd hu
end
/-! ### _law_lesser, _law_rest, _law_table -/
abbrev s_law_lesser : Stmt := topS 44
abbrev N_law_lesser : List Str := ["_law_want_here", "_law_found", "_law_number_here", "_law_wider", "_law_one", "_law_less"]
theorem sc_law_lesser : FnScope N_law_lesser ["_law_want_here"] (defScope s_law_lesser) := ⟨rfl, rfl, rfl, by decide +kernel, rfl, by decide +kernel, by decide +kernel⟩

abbrev s_law_rest : Stmt := topS 45
abbrev N_law_rest : List Str := ["_law_want_here", "_law_content_here", "_law_k"]
theorem sc_law_rest : FnScope N_law_rest ["_law_want_here", "_law_content_here"] (defScope s_law_rest) := ⟨rfl, rfl, rfl, by decide +kernel, rfl, by decide +kernel, by decide +kernel⟩

abbrev s_law_table : Stmt := topS 46
abbrev N_law_table : List Str := ["_law_shop", "_law_want_here", "_law_wares", "_law_found", "_law_less", "_law_prices", "_law_line", "_law_content_here", "_law_price", "_law_left"]
theorem sc_law_table : FnScope N_law_table ["_law_shop", "_law_want_here"] (defScope s_law_table) := ⟨rfl, rfl, rfl, by decide +kernel, rfl, by decide +kernel, by decide +kernel⟩

section
variable {P : Program} {w : World} {K : PySem.W.Frag} {mg : Str → Option Value} {base : Heap}
theorem ok_llesser {f : Addr} {fd : FuncData} {k : Nat} (M : Names mg) (D : Def K mg "_law_lesser" s_law_lesser ["_law_want_here"] f fd) : FnOk P w K mg base CX0 (k + 1) f fd ["_law_want_here"] (sp_lesser K) := by
  refine D.F.ok sc_law_lesser (fun vs H Q E h => ?_) (fun cdv A outer s H vs Q E hr h => ?_)
  · obtain ⟨a, ws, rfl, _⟩ := h
    rfl
  · obtain ⟨a, ws, rfl, ha, h4, sm, q⟩ := h
    refine ⟨_, (pss_cons (ps_set (i := 1) sc_law_lesser.nd rfl (Or.inl rfl) (pe_lst (pa_cons (pe_lst pa_nil) pa_nil)))
  (pss_cons (ps_for PassesOwn.never rfl (pi_list (pv 0)) (pg_name (i := 2) sc_law_lesser.nd rfl (Or.inl rfl))
   (pss_cons (ps_set (i := 3) sc_law_lesser.nd rfl (Or.inl rfl) (pe_lst pa_nil))
  (pss_cons (ps_for PassesOwn.never rfl (pi_list (pv 1)) (pg_name (i := 4) sc_law_lesser.nd rfl (Or.inl rfl))
   (pss_one (ps_for PassesOwn.never rfl (pi_range1 (by rfl) M.range (pa_cons (pe_op op_add (pv 2) pe_int) pa_nil)) (pg_name (i := 5) sc_law_lesser.nd rfl (Or.inl rfl))
   (pss_one (ps_expr (pe_bm PySem.F.plainAttrs_list PySem.F.slot_list_append PySem.F.type_list_append mt_append (pv 3) (pa_cons (pe_op op_cat (pv 4) (pe_lst (pa_cons (pv 5) pa_nil))) pa_nil)))))))
  (pss_one (ps_set (i := 1) sc_law_lesser.nd rfl (Or.inl rfl) (pv 3))))))
  (pss_one (ps_ret (pv 1))))), ?_⟩
    refine ⟨Nat.zero_le _, fun z nz => ⟨by show 1 ≤ sizeLine; decide, fun b nb => ?_⟩⟩
    have nzb : z ≠ b := ne_of_none upd_same nb
    have s1 : Same H (upd H z (.lst [])) := same_upd nz
    have s2 : Same H (upd (upd H z (.lst [])) b (.lst [.ref z])) := s1.trans (same_upd nb)
    refine ⟨_, rfl, a, rfl, ⟨_, s2.seq ha⟩, for_list (K := K) (a := a) (xs := ws.map V.int) (fun i σ H' => ∃ (p : Addr) (y2 y3 y4 y5 : Option V), σ = [some (.ref a), some (.ref p), y2, y3, y4, y5] ∧ Same H H' ∧ H p = none ∧ Made H p H' (lesserF (ws.take i))) ⟨b, none, none, none, none, rfl, s2, s1.free nb, [z], upd_same, rfl, by simp, fun i b' r hb hr => ?_⟩ (fun i σ H' _ hp => ?_) (fun i x σ H1 hx hp => ?_) (fun σ H' hp => ?_)⟩
    · cases i with
      | succ i => simp at hb
      | zero =>
        cases Option.some.inj hb
        cases Option.some.inj hr
        exact ⟨nz, nzb, by rw [upd_ne nzb]; exact upd_same⟩
    · obtain ⟨p, _, _, _, _, _, s3, _⟩ := hp
      exact s3.seq ha
    · obtain ⟨p, y2, y3, y4, y5, rfl, s3, np, as, hp, hal, nd, hrows⟩ := hp
      obtain ⟨n, hn, rfl⟩ := of_get_ints hx
      have bn := sm n (List.mem_of_getElem? hn)
      have etk := take_succ_at hn
      have smk : Small (ws.take (i + 1)) := fun x hx => sm x (List.mem_of_mem_take hx)
      have big : (lesserF (ws.take (i + 1))).length ≤ 10000 := lesserF_le4 smk (by rw [List.length_take]; omega)
      rw [etk, lesserF_snoc] at big
      generalize hrs : lesserF (ws.take i) = rs at hal hrows big
      have blen : ∀ j, ((rs.take j).flatMap fun s => (upto n).map fun l => s ++ [l]).length = min j rs.length * (n + 1).toNat := fun j => by
        rw [flatMap_const_length _ _ (n + 1).toNat (fun a _ => by rw [List.length_map, upto_length]), List.length_take]
      rw [flatMap_const_length _ _ (n + 1).toNat (fun a _ => by rw [List.length_map, upto_length])] at big
      refine ⟨Nat.zero_le _, fun L nL => ?_⟩
      have nLH : H L = none := s3.free nL
      have sL := same_upd (o := .lst []) nL
      refine ⟨_, rfl, p, rfl, ⟨_, SqL.of (sL _ _ hp)⟩, for_list (K := K) (a := p) (xs := as.map V.ref) (fun j σ H' => ∃ y4 y5 : Option V, σ = [some (.ref a), some (.ref p), some (.int n), some (.ref L), y4, y5] ∧ Same H1 H' ∧ Made H1 L H' ((rs.take j).flatMap fun s => (upto n).map fun l => s ++ [l])) ⟨_, _, rfl, sL, [], upd_same, rfl, by simp, fun j b' r hb => by simp at hb⟩ (fun j σ H' _ hp' => ?_) (fun j x σ H2 hx hp' => ?_) (fun σ H2 hp' => ?_)⟩
      · obtain ⟨_, _, _, s4, _⟩ := hp'
        exact SqL.of (s4 _ _ hp)
      · obtain ⟨y4, y5, rfl, s4, md⟩ := hp'
        rw [List.getElem?_map] at hx
        cases hc : as[j]? with
        | none => rw [hc] at hx; cases hx
        | some c =>
          rw [hc] at hx
          cases Option.some.inj hx
          have hjl := (List.getElem?_eq_some_iff.mp hc).1
          obtain ⟨r, hr⟩ : ∃ r, rs[j]? = some r := ⟨_, List.getElem?_eq_getElem (by omega)⟩
          obtain ⟨nc, ncp, hcr⟩ := hrows j c r hc hr
          have ncL : c ≠ L := ne_of_none hcr nL
          have hrl : r.length ≤ 4 := by
            have z := lesserF_len (w := ws.take i) (r := r) (by rw [hrs]; exact List.mem_of_getElem? hr)
            rw [z, List.length_take]
            omega
          refine ⟨_, rfl, _, _, rfl, rfl, _, rfl, by omega, by omega, for_range (n := (n + 1).toNat) (fun t σ H' => ∃ y5 : Option V, σ = [some (.ref a), some (.ref p), some (.int n), some (.ref L), some (.ref c), y5] ∧ Same H1 H' ∧ Made H1 L H' (((rs.take j).flatMap fun s => (upto n).map fun l => s ++ [l]) ++ ((upto n).take t).map fun l => r ++ [l])) ⟨_, rfl, s4, by rw [List.take_zero, List.map_nil, List.append_nil]; exact md⟩ (fun t σ H3 ht hp' => ?_) (fun σ H3 hp' => ?_)⟩
          · obtain ⟨y5, rfl, s5, md5⟩ := hp'
            have hc5 := s5 _ _ hcr
            obtain ⟨bs, hLb, _⟩ := id md5
            refine ⟨_, rfl, .inl ⟨rfl, _, SqL.of hLb⟩, _, rfl, _, rfl, by show 1 ≤ sizeLine; decide, fun u nu => ?_⟩
            have su := same_upd (o := .lst [.int (0 + (t : Int))]) nu
            refine ⟨c, u, _, _, rfl, rfl, su _ _ hc5, upd_same, szL (by rw [List.length_map]; show r.length + 1 ≤ _; omega), fun v nv => ?_⟩
            have s6 : Same H3 (upd (upd H3 u (.lst [.int (0 + (t : Int))])) v (.lst (r.map V.int ++ [.int (0 + (t : Int))]))) := su.trans (same_upd nv)
            obtain ⟨acc, ha1, ha2, ha3⟩ := md5.snoc (r := r ++ [(0 + (t : Int))]) s5 s6 (su.free nv) (by rw [upd_same, li_app])
            refine ⟨L, _, _, rfl, rfl, ha1, szL' ?_, _, rfl, sm_new (s5.trans s6) nL, ?_⟩
            · rw [ha2, List.length_append, blen, List.length_map, List.length_take, upto_length]
              have m1 : min j rs.length = j := by omega
              have m3 : j * (n + 1).toNat ≤ rs.length * (n + 1).toNat := Nat.mul_le_mul_right _ (by omega)
              rw [m1]
              omega
            · have e2 : (upto n).take (t + 1) = (upto n).take t ++ [(0 + (t : Int))] := take_succ_at (by rw [upto_get ht, Int.zero_add])
              rw [e2, List.map_append, ← List.append_assoc]
              exact ha3
          · obtain ⟨y5, rfl, s5, md5⟩ := hp'
            refine ⟨_, _, rfl, s5, ?_⟩
            have e2 : (upto n).take (n + 1).toNat = upto n := List.take_of_length_le (by rw [upto_length]; exact Nat.le_refl _)
            rw [e2] at md5
            rw [take_succ_at hr, List.flatMap_append]
            simpa using md5
      · obtain ⟨y4, y5, rfl, s4, md⟩ := hp'
        rw [List.length_map, hal, List.take_length] at md
        refine ⟨_, rfl, L, _, _, _, _, rfl, s3.trans s4, nLH, ?_⟩
        rw [etk, lesserF_snoc, hrs]
        obtain ⟨bs, m1, m2, m3, m4⟩ := md
        exact ⟨bs, m1, m2, m3, fun i b r hb hr => ⟨s3.free (m4 i b r hb hr).1, (m4 i b r hb hr).2⟩⟩
    · obtain ⟨p, _, _, _, _, rfl, s3, np, md⟩ := hp
      rw [List.length_map, List.take_length] at md
      exact ⟨_, rfl, q H' p s3 np md⟩
def sp_lrest : Sp := fun vs H Q _ => ∃ (a b : Addr) (ws cs : List Int), vs = [.ref a, .ref b] ∧ H a = some (LI ws) ∧ H b = some (LI cs) ∧ ws.length = cs.length ∧ ws.length ≤ 1000 ∧ ∀ H' p, Same H H' → H p = none → H' p = some (LI (restM ws cs)) → Q (.ref p) H'
theorem ok_lrest {f : Addr} {fd : FuncData} {k : Nat} (M : Names mg) (D : Def K mg "_law_rest" s_law_rest ["_law_want_here", "_law_content_here"] f fd) : FnOk P w K mg base CX0 (k + 1) f fd ["_law_want_here", "_law_content_here"] sp_lrest := by
  refine D.F.ok sc_law_rest (fun vs H Q E h => ?_) (fun cdv A outer s H vs Q E hr h => ?_)
  · obtain ⟨a, b, xs, ys, rfl, _⟩ := h
    rfl
  · obtain ⟨a, b, xs, ys, rfl, ha, hb, hl, h1000, q⟩ := h
    refine ⟨_, (pss_one (ps_ret (pe_lc (own := [("_law_k", 2)]) (by rfl) sc_law_rest.nd (pi_range1 (by rfl) M.range (pa_cons (pe_callB call_len_seq (by rfl) M.len (by decide +kernel) (pa_cons (pv 0) pa_nil)) pa_nil)) (blkOk_by (own := [("_law_k", 2)]) (N := N_law_rest) (sc := defScope s_law_rest) (by decide +kernel)) (fun _ _ _ _ _ => (pg_name (i := 2) sc_law_rest.nd rfl (Or.inl rfl))) (fun _ _ _ _ _ => pts_nil) (fun _ _ _ _ _ => (pe_callB (call_max2 rfl) (by rfl) M.max (by decide +kernel) (pa_cons pe_int (pa_cons (pe_op op_sub (pe_ix (ix_listK (K := K) rfl) (pv 0) (pv 2) (fun _ _ => rfl)) (pe_ix (ix_listK (K := K) rfl) (pv 1) (pv 2) (fun _ _ => rfl))) pa_nil))))))), ?_⟩
    refine ⟨_, rfl, a, _, rfl, .inl (SqL.of ha), _, rfl, by rw [List.length_map]; omega, by rw [List.length_map]; omega, fun B nB => lc_range (lo := 0) (n := ((xs.map V.int).length : Int).toNat) (fun i H' => Same H H' ∧ H' B = some (LI ((restM xs ys).take i))) ⟨same_upd nB, upd_same⟩ (fun i H1 hi hp => ?_) (fun H1 hp => ?_)⟩
    · obtain ⟨s1, hB⟩ := hp
      rw [Int.toNat_natCast, List.length_map] at hi
      have gx := List.getElem?_eq_getElem hi
      have gy := List.getElem?_eq_getElem (show i < ys.length by omega)
      refine ⟨rfl, _, rfl, _, rfl, a, _, _, _, rfl, rfl, SqL.of (s1 _ _ ha), at_of (Int.zero_add _) (get_ints gx), _, rfl, _, rfl, b, _, _, _, rfl, rfl, SqL.of (s1 _ _ hb), at_of (Int.zero_add _) (get_ints gy), _, _, rfl, rfl, _, _, rfl, _, hB, szL' (by rw [List.length_map, List.length_take]; omega), sm_new s1 nB, ?_⟩
      have ey : hadM ys i = ys[i] := Option.some.inj ((hadM_in (show i < ys.length by omega)).symm.trans gy)
      rw [take_succ_at (restM_get gx), ey]
      exact at_app
    · obtain ⟨s1, hB⟩ := hp
      rw [Int.toNat_natCast, List.length_map, List.take_of_length_le (by rw [restM_len]; exact Nat.le_refl _)] at hB
      exact q H1 B s1 nB hB
end
/-! the table of the law itself -/
def TabOk (ps : List Rw) (w : List Int) (v : V) : Prop := ∃ o, v = optV o ∧ LeastIs ps w o
def TabsAt (H : Hp) (q : Addr) (ps : List Rw) (W : List (List Int)) : Prop := ∃ vs : List V, H q = some (.dT ((W.map keyW).zip vs)) ∧ vs.length = W.length ∧ ∀ (i : Nat) w v, W[i]? = some w → vs[i]? = some v → TabOk ps w v
theorem TabsAt.val {H : Hp} {q : Addr} {ps : List Rw} {W : List (List Int)} (nd : W.Nodup) (h : TabsAt H q ps W) : ∃ kvs, H q = some (.dT kvs) ∧ kvs.length = W.length ∧ (∀ w, w ∉ W → valV kvs (keyW w) = none) ∧ ∀ w, w ∈ W → ∃ v, valV kvs (keyW w) = some v ∧ TabOk ps w v := by
  obtain ⟨vs, h1, h2, h3⟩ := h
  refine ⟨_, h1, by rw [List.length_zip, List.length_map, h2, Nat.min_self], fun w hw => valV_zip_none (mem_keyW hw), fun w hw => ?_⟩
  obtain ⟨i, hi, e⟩ := List.getElem_of_mem hw
  have g1 : W[i]? = some w := by rw [List.getElem?_eq_getElem hi, e]
  have g2 : vs[i]? = some (vs[i]'(by omega)) := List.getElem?_eq_getElem (by omega)
  exact ⟨_, valV_zip (nodup_keyW nd) (by rw [List.getElem?_map, g1]; rfl) g2, h3 i w _ g1 g2⟩
theorem putK_last {κ : Type} [DecidableEq κ] {kvs : List (κ × V)} {k : κ} {v v' : V} (h : valV kvs k = none) : putK (putK kvs k v) k v' = kvs ++ [(k, v')] := by
  rw [putK_new v h]
  unfold putK
  have h1 : ∀ p ∈ kvs, ¬ p.1 = k := fun p hp e => by
    have := valV_any k kvs
    rw [h] at this
    have h2 := List.any_eq_false.mp this p hp
    exact h2 (decide_eq_true e)
  rw [if_pos (by rw [List.any_append]; simp)]
  rw [List.map_append]
  have e1 : kvs.map (fun kv => if kv.1 = k then (kv.1, v') else kv) = kvs := by
    conv => rhs; rw [← List.map_id kvs]
    exact List.map_congr_left fun p hp => if_neg (h1 p hp)
  rw [e1]
  simp
theorem TabsAt.snoc {H H' : Hp} {q : Addr} {ps : List Rw} {W : List (List Int)} {w : List Int} {v : V} {kvs : List (List Key × V)} (h : TabsAt H q ps W) (hd : H q = some (.dT kvs)) (hd' : H' q = some (.dT (kvs ++ [(keyW w, v)]))) (hv : TabOk ps w v) : TabsAt H' q ps (W ++ [w]) := by
  obtain ⟨vs, h1, h2, h3⟩ := h
  rw [hd] at h1
  injection Option.some.inj h1 with h1
  subst h1
  refine ⟨vs ++ [v], ?_, by rw [List.length_append, List.length_append, h2]; rfl, fun i u y hu hy => ?_⟩
  · rw [hd', List.map_append, List.zip_append (by rw [List.length_map, h2])]
    rfl
  · by_cases z : i < W.length
    · rw [List.getElem?_append_left z] at hu
      rw [List.getElem?_append_left (by omega)] at hy
      exact h3 i u y hu hy
    · have hl := (List.getElem?_eq_some_iff.mp hu).1
      rw [List.length_append, List.length_singleton] at hl
      rw [List.getElem?_append_right (by omega)] at hu
      rw [List.getElem?_append_right (by omega)] at hy
      rw [h2] at hy
      rw [show i - W.length = 0 by omega] at hu hy
      cases Option.some.inj hu
      cases Option.some.inj hy
      exact hv
/-- what the found prices say -/
def MinOf (ps : List Rw) (w : List Int) (l : List Rw) (ns : List Int) : Prop := (∀ n ∈ ns, ∃ r ∈ l, restM w r.1 ≠ w ∧ LeastIs ps (restM w r.1) (some (n - r.2))) ∧ ∀ r ∈ l, restM w r.1 ≠ w → ∀ g, LeastIs ps (restM w r.1) (some g) → r.2 + g ∈ ns
theorem MinOf.best {ps : List Rw} {w : List Int} {l : List Rw} {ns : List Int} (h : MinOf ps w l ns) (hex : ∀ r ∈ l, restM w r.1 ≠ w → ∃ g, LeastIs ps (restM w r.1) g) : (ns = [] → BestOf ps w l none) ∧ ∀ m, m ∈ ns → (∀ y ∈ ns, m ≤ y) → BestOf ps w l (some m) := by
  refine ⟨fun e r hr ne => ?_, fun m hm hle => ⟨h.1 m hm, fun r hr ne g hg => hle _ (h.2 r hr ne g hg)⟩⟩
  obtain ⟨g, hg⟩ := hex r hr ne
  cases g with
  | none => exact hg
  | some g =>
    have := h.2 r hr ne g hg
    rw [e] at this
    cases this
theorem sumI_get : ∀ {ws : List Int} {j : Nat} {x : Int}, (∀ w ∈ ws, 0 ≤ w) → ws[j]? = some x → x ≤ ws.sum
  | [], _, _, _, h => by simp at h
  | a :: r, 0, x, h0, h => by
    cases Option.some.inj h
    have := sumI_nonneg (ws := r) fun w hw => h0 w (List.mem_cons_of_mem _ hw)
    rw [List.sum_cons]
    omega
  | a :: r, j + 1, x, h0, h => by
    have h1 := h0 a List.mem_cons_self
    have h2 := sumI_get (ws := r) (j := j) (x := x) (fun w hw => h0 w (List.mem_cons_of_mem _ hw)) h
    rw [List.sum_cons]
    omega
theorem sumI_zero : ∀ {w : List Int}, (∀ x ∈ w, x = 0) → w.sum = 0
  | [], _ => rfl
  | a :: r, h => by rw [List.sum_cons, h a List.mem_cons_self, sumI_zero fun x hx => h x (List.mem_cons_of_mem _ hx)]; rfl
def sp_table : Sp := fun vs H Q _ => ∃ (a wa d : Addr) (os : List Ofr) (ws : List Int) (ds : List V) (m : Nat), vs = [.ref a, .ref wa] ∧ H d = some (.lst ds) ∧ ShopAt (cutH d H) a os ∧ Good os ∧ FitS m os ∧ H wa = some (LI ws) ∧ ws.length = m ∧ m ≤ 4 ∧ Small ws ∧ ∀ H' q, Same H H' → H q = none → TabsAt H' q (shopRws os) (lesserF ws) → Q (.ref q) H'
section
variable {P : Program} {w : World} {K : PySem.W.Frag} {mg : Str → Option Value} {base : Heap}
theorem ok_table {f f1 f2 f3 f4 f5 : Addr} {fd fd1 fd2 fd3 fd4 fd5 : FuncData} {k : Nat} (M : Names mg) (D : Def K mg "_law_table" s_law_table ["_law_shop", "_law_want_here"] f fd) (D_law_lines : Def K mg "_law_lines" s_law_lines ["_law_shop"] f1 fd1) (D_law_groups : Def K mg "_law_groups" s_law_groups ["_law_places"] f2 fd2) (D_law_sum : Def K mg "_law_sum" s_law_sum ["_law_one", "_law_other"] f3 fd3) (D_law_lesser : Def K mg "_law_lesser" s_law_lesser ["_law_want_here"] f4 fd4) (D_law_rest : Def K mg "_law_rest" s_law_rest ["_law_want_here", "_law_content_here"] f5 fd5) : FnOk P w K mg base CX0 (k + 3) f fd ["_law_shop", "_law_want_here"] sp_table := by
  have G_law_lines : FnOk P w K mg base CX0 (k + 2) f1 fd1 ["_law_shop"] sp_wares := ok_wares M D_law_lines D_law_groups D_law_sum
  have G_law_lesser : FnOk P w K mg base CX0 (k + 2) f4 fd4 ["_law_want_here"] (sp_lesser K) := ok_llesser M D_law_lesser
  have G_law_rest : FnOk P w K mg base CX0 (k + 2) f5 fd5 ["_law_want_here", "_law_content_here"] sp_lrest := ok_lrest M D_law_rest
  refine D.F.ok sc_law_table (fun vs H Q E h => ?_) (fun cdv A outer s H vs Q E hr h => ?_)
  · obtain ⟨a, wa, d, os, ws, ds, m, rfl, _⟩ := h
    rfl
  · obtain ⟨a, wa, d, os, ws, ds, m, rfl, hd, hS, gd, ft, hwa, hlw, hm4, sm, q⟩ := h
    have nn := rws_nn gd ft
    have clen : ∀ x ∈ prowsM os, x.2.1.length = m := fun x hx => by
      obtain ⟨l, hl, rfl⟩ := List.mem_map.mp hx
      exact (cont_v0 ft (lines_ok gd hl)).1
    refine ⟨_, (pss_cons (ps_set (i := 2) sc_law_table.nd rfl (Or.inl rfl) (pe_call G_law_lines hr (by rfl) D_law_lines.g D_law_lines.F.kp D_law_lines.b .nil pass0 (pa_cons (pv 0) pa_nil)))
  (pss_cons (ps_set (i := 3) sc_law_table.nd rfl (Or.inl rfl) pe_dnewT)
  (pss_cons (ps_for PassesOwn.never rfl (pi_list (pe_call G_law_lesser hr (by rfl) D_law_lesser.g D_law_lesser.F.kp D_law_lesser.b .nil pass0 (pa_cons (pv 1) pa_nil))) (pg_name (i := 4) sc_law_table.nd rfl (Or.inl rfl))
   (pss_cons (ps_set (i := 5) sc_law_table.nd rfl (Or.inl rfl) (pe_slice sl_list (pe_lst (pa_cons pe_int pa_nil)) po_none (po_some (pe_callTy call_int1 (by rfl) M.int (by decide +kernel) (pa_cons (pe_cmpR op_eq (pe_callB (cr_sum rfl) (by rfl) M.sum (by decide +kernel) (pa_cons (pv 4) pa_nil)) pe_int (nomark _)) pa_nil)))))
  (pss_cons (ps_for PassesOwn.never rfl (pi_list (pv 2)) (pg_tup rfl (pgs_cons (pg_name (i := 6) sc_law_table.nd rfl (Or.inl rfl)) (pgs_cons (pg_name (i := 7) sc_law_table.nd rfl (Or.inl rfl)) (pgs_cons (pg_name (i := 8) sc_law_table.nd rfl (Or.inl rfl)) pgs_nil))))
   (pss_cons (ps_set (i := 9) sc_law_table.nd rfl (Or.inl rfl) (pe_call G_law_rest hr (by rfl) D_law_rest.g D_law_rest.F.kp D_law_rest.b .nil pass0 (pa_cons (pv 4) (pa_cons (pv 7) pa_nil))))
  (pss_one (ps_if (PW.pt (pw_and (pt_cmpR (op_neD hr.units) (pv 9) (pv 4) (nomark _)) (pw_and1 (pt_cmpR op_notN (pe_dget (hu_of hr) (pv 3) (pe_tupleOf (by rfl) M.tuple (pv 9)) (fun _ _ => rfl)) pe_non (nomark _)))))
   (pss_one (ps_expr (pe_bm PySem.F.plainAttrs_list PySem.F.slot_list_append PySem.F.type_list_append mt_append (pv 5) (pa_cons (pe_op op_add (pv 8) (pe_dget (hu_of hr) (pv 3) (pe_tupleOf (by rfl) M.tuple (pv 9)) (fun _ _ => rfl))) pa_nil))))
   pss_nil))))
  (pss_cons (ps_dput (hu_of hr) (pv 3) (pe_tupleOf (by rfl) M.tuple (pv 4)) pe_non rfl)
  (pss_one (ps_if (pt_cmpR (op_neD hr.units) (pv 5) (pe_lst pa_nil) (nomark _))
   (pss_one (ps_dput (hu_of hr) (pv 3) (pe_tupleOf (by rfl) M.tuple (pv 4)) (pe_callB (cr_min rfl) (by rfl) M.min (by decide +kernel) (pa_cons (pv 5) pa_nil)) rfl))
   pss_nil))))))
  (pss_one (ps_ret (pv 3)))))), ?_⟩
    refine ⟨_, rfl, a, d, os, ds, m, rfl, hd, hS, gd, ft, by omega, fun H1 W s1 nW hW => ?_⟩
    obtain ⟨nWd, as, hWl, al⟩ := hW
    have lal := al.len
    refine fun D0 nD0 => ?_
    have sD := same_upd (o := .dT []) nD0
    have hD0 : upd H1 D0 (.dT []) D0 = some (.dT []) := upd_same
    have s02 := s1.trans sD
    generalize upd H1 D0 (.dT []) = H2 at sD hD0 s02 ⊢
    refine ⟨_, rfl, wa, ws, rfl, SqL.of (s02 _ _ hwa), by omega, sm, fun H3 L s3 nL mk => ?_⟩
    obtain ⟨bs, hL, hbl, nbs, hb⟩ := mk
    have s13 := sD.trans s3
    have nLD : L ≠ D0 := fun z => by rw [z, hD0] at nL; cases nL
    have nDH : H D0 = none := s1.free nD0
    have big := lesserF_le4 sm (by omega)
    have al1 : Al (PRowAt H1) as (prowsM os) := al.imp fun r x h => h.ke (.of cut_le)
    refine ⟨L, rfl, ⟨_, SqL.of hL⟩, for_list (K := K) (a := L) (xs := bs.map V.ref) (fun i σ H' => ∃ y4 y5 y6 y7 y8 y9 : Option V, σ = [some (.ref a), some (.ref wa), some (.ref W), some (.ref D0), y4, y5, y6, y7, y8, y9] ∧ Same H1 H' ∧ SameBut D0 H3 H' ∧ TabsAt H' D0 (shopRws os) ((lesserF ws).take i)) ⟨none, none, none, none, none, none, rfl, s13, .refl _ _, [], s3 _ _ hD0, rfl, fun i w v hw => by simp at hw⟩ (fun i σ H' _ hp => ?_) (fun i x σ H4 hx hp => ?_) (fun σ H4 hp => ?_)⟩
    · obtain ⟨_, _, _, _, _, _, _, _, s4, _⟩ := hp
      exact SqL.of (s4 _ _ nLD hL)
    · obtain ⟨y4, y5, y6, y7, y8, y9, rfl, s4, sb4, tb⟩ := hp
      rw [List.getElem?_map] at hx
      cases hu : bs[i]? with
      | none => rw [hu] at hx; cases hx
      | some u =>
        rw [hu] at hx
        cases Option.some.inj hx
        have hi : i < bs.length := (List.getElem?_eq_some_iff.mp hu).1
        obtain ⟨w, hw⟩ : ∃ w, (lesserF ws)[i]? = some w := ⟨_, List.getElem?_eq_getElem (by omega)⟩
        obtain ⟨nu, nuL, hu2⟩ := hb i u w hu hw
        have nuD : u ≠ D0 := fun z => by rw [z, hD0] at nu; cases nu
        have hu4 := sb4 _ _ nuD hu2
        have lew : LeW w ws := lesserF_mem.mp (List.mem_of_getElem? hw)
        have w0 := lew.nonneg
        have wl := lew.len
        have ndp : ((lesserF ws).take i).Nodup := (lesserF_nodup ws).sublist (List.take_sublist _ _)
        obtain ⟨kvs, hkv, lkv, hno, hyes⟩ := tb.val ndp
        rw [List.length_take] at lkv
        have hin : ∀ x ∈ prowsM os, restM w x.2.1 ≠ w → restM w x.2.1 ∈ (lesserF ws).take i := fun x hx ne => by
          obtain ⟨r1, r2⟩ := rest_le (c := x.2.1) w0 (nn x.2 (List.mem_map.mpr ⟨x, hx, rfl⟩)).1
          exact lesser_before hw (r1.trans lew) (r2 ne)
        -- prices = [0][:int(sum(less) == 0)]
        refine ⟨by show 1 ≤ sizeLine; decide, fun z1 nz1 => ?_⟩
        have sz1 := same_upd (o := .lst [.int 0]) nz1
        refine ⟨_, rfl, u, w, rfl, SqL.of (sz1 _ _ hu4), rfl, .inr ⟨_, rfl, ?_⟩⟩
        refine ⟨_, rfl, z1, _, rfl, SqL.of upd_same, fun B nB => ?_⟩
        have sB := sz1.trans (same_upd (o := .lst (cutV [.int 0] none (some (if decide (V.int w.sum = V.int 0) then 1 else 0)))) nB)
        have nB4 : H4 B = none := sz1.free nB
        obtain ⟨ns0, ens0, hns0⟩ : ∃ ns0 : List Int, cutV [V.int 0] none (some (if decide (V.int w.sum = V.int 0) then 1 else 0)) = ns0.map V.int ∧ ((anyI w = false ∧ ns0 = [0]) ∨ (anyI w = true ∧ ns0 = [])) := by
          have su : w.sum = 0 ↔ anyI w = false := by
            constructor
            · intro e
              cases z : anyI w with
              | false => rfl
              | true =>
                obtain ⟨i, n, hn, hpos⟩ := anyI_pos w0 z
                have := sumI_get w0 hn
                omega
            · intro e
              exact sumI_zero (anyI_zero e)
          cases z : anyI w with
          | false =>
            rw [if_pos (decide_eq_true (by rw [su.mpr z]))]
            exact ⟨[0], rfl, .inl ⟨rfl, rfl⟩⟩
          | true =>
            rw [if_neg (fun y => by have := V.int.inj (of_decide_eq_true y); rw [su.mp this] at z; cases z)]
            exact ⟨[], rfl, .inr ⟨rfl, rfl⟩⟩
        have hB : upd (upd H4 z1 (.lst [.int 0])) B (.lst (cutV [.int 0] none (some (if decide (V.int w.sum = V.int 0) then 1 else 0)))) B = some (LI ns0) := by rw [upd_same, ens0]
        generalize (upd (upd H4 z1 (.lst [.int 0])) B (.lst (cutV [.int 0] none (some (if decide (V.int w.sum = V.int 0) then 1 else 0))))) = H5 at sB hB ⊢
        clear nB nz1
        have hex : ∀ r ∈ shopRws os, restM w r.1 ≠ w → ∃ g, LeastIs (shopRws os) (restM w r.1) g := fun r hr ne => by
          obtain ⟨x, hx, rfl⟩ := List.mem_map.mp hr
          obtain ⟨v, _, o, _, li⟩ := hyes _ (hin x hx ne)
          exact ⟨o, li⟩
        have zero : anyI w = false → ∀ x ∈ prowsM os, restM w x.2.1 = w := fun z x hx => Classical.byContradiction fun ne => by
          obtain ⟨r1, _⟩ := rest_le (c := x.2.1) w0 (nn x.2 (List.mem_map.mpr ⟨x, hx, rfl⟩)).1
          have h1 := r1.sum_lt.2 ne
          have h2 := sumI_nonneg r1.nonneg
          have h3 := sumI_zero (anyI_zero z)
          omega
        have hW4 := s4 _ _ hWl
        have al4 : Al (PRowAt H4) as (prowsM os) := al1.imp fun r x h => h.ke (.of s4)
        have nlp : (prowsM os).length ≤ 2048 := by
          have := linesN_len gd.1 os.length
          have h8 := gd.1
          unfold prowsM linesM
          rw [List.length_map]
          omega
        refine ⟨_, rfl, W, rfl, ⟨_, SqL.of (sB _ _ hW4)⟩, for_list (K := K) (a := W) (xs := as.map V.ref) (fun j σ H' => ∃ y6 y7 y8 y9 : Option V, σ = [some (.ref a), some (.ref wa), some (.ref W), some (.ref D0), some (.ref u), some (.ref B), y6, y7, y8, y9] ∧ Same H4 H' ∧ ∃ ns : List Int, H' B = some (LI ns) ∧ ns.length ≤ j + 1 ∧ ((anyI w = false ∧ ns = [0]) ∨ (anyI w = true ∧ MinOf (shopRws os) w ((shopRws os).take j) ns))) ⟨_, _, _, _, rfl, sB, ns0, hB, ?_, ?_⟩ (fun j σ H' _ hp => ?_) (fun j x σ H6 hx hp => ?_) (fun σ H6 hp => ?_)⟩
        · rcases hns0 with ⟨_, rfl⟩ | ⟨_, rfl⟩
          · exact Nat.le_refl _
          · exact Nat.zero_le _
        · rcases hns0 with ⟨z, rfl⟩ | ⟨z, rfl⟩
          · exact .inl ⟨z, rfl⟩
          · exact .inr ⟨z, (fun n hn => nomatch hn), fun r hr => by simp at hr⟩
        · obtain ⟨_, _, _, _, _, s6, _⟩ := hp
          exact SqL.of (s6 _ _ hW4)
        · obtain ⟨y6, y7, y8, y9, rfl, s6, ns, hB6, lns, hns⟩ := hp
          rw [List.getElem?_map] at hx
          cases hv : as[j]? with
          | none => rw [hv] at hx; cases hx
          | some ra =>
            rw [hv] at hx
            cases Option.some.inj hx
            have hjl := (List.getElem?_eq_some_iff.mp hv).1
            obtain ⟨x, hxx, lx, cx, hr1, hl1, hc1⟩ := al4.get hv
            have xm : x ∈ prowsM os := List.mem_of_getElem? hxx
            have etk : (shopRws os).take (j + 1) = (shopRws os).take j ++ [x.2] := take_succ_at (by rw [List.getElem?_map, hxx]; rfl)
            refine ⟨ra, _, rfl, SqT.of (s6 _ _ hr1), rfl, _, _, rfl, _, _, rfl, _, _, rfl, rfl, ?_⟩
            refine ⟨_, rfl, _, rfl, u, cx, w, x.2.1, rfl, s6 _ _ hu4, s6 _ _ hc1, by rw [clen x xm]; omega, by omega, fun H7 l7 s7 nl7 hl7 => ?_⟩
            have s47 := s6.trans s7
            refine ⟨_, rfl, _, rfl, _, _, dp_ints (SqL.of hl7), dp_ints (SqL.of (s47 _ _ hu4)), shaped_ints _, shaped_ints _, _, rfl, ite2 (fun c => ?_) (fun c => ?_)⟩
            · have hne : restM w x.2.1 ≠ w := fun z => by
                rw [eqv_ints, decide_eq_true z] at c
                cases c
              have ha : anyI w = true := by
                cases z : anyI w with
                | true => rfl
                | false => exact absurd (zero z x xm) hne
              have hmin : MinOf (shopRws os) w ((shopRws os).take j) ns := by
                rcases hns with ⟨z, _⟩ | ⟨_, z⟩
                · rw [ha] at z
                  cases z
                · exact z
              obtain ⟨vv, hvv, o, rfl, li⟩ := hyes _ (hin x xm hne)
              -- found[tuple(left)]
              refine ⟨_, rfl, _, rfl, .inl ⟨l7, _, rfl, SqL.of hl7, fun t8 nt8 => ?_⟩⟩
              have s8 := same_upd (o := .tup ((restM w x.2.1).map V.int)) nt8
              have ht8 : upd H7 t8 (.tup ((restM w x.2.1).map V.int)) t8 = some (.tup ((keyW (restM w x.2.1)).map kV)) := by rw [upd_same, keyW_kV]
              have s48 := s47.trans s8
              have hl8 := s8 _ _ hl7
              have hB8 := (s7.trans s8) _ _ hB6
              generalize upd H7 t8 (.tup ((restM w x.2.1).map V.int)) = H8 at s8 ht8 s48 hl8 hB8 ⊢
              have dg := DGet.t (s48 _ _ hkv) ht8
              rw [hvv] at dg
              refine ⟨D0, _, rfl, dg, ?_⟩
              cases o with
              | none =>
                refine ⟨rfl, false, rfl, _, _, _, _, rfl, s48, ns, hB8, by omega, .inr ⟨ha, fun n hn => ?_, fun r hr ne g hg => ?_⟩⟩
                · obtain ⟨r, hr, h⟩ := hmin.1 n hn
                  exact ⟨r, by rw [etk]; exact List.mem_append.mpr (.inl hr), h⟩
                · rw [etk] at hr
                  rcases List.mem_append.mp hr with z | z
                  · exact hmin.2 r z ne g hg
                  · rw [List.mem_singleton.mp z] at hg
                    exact absurd (leastIs_unique li hg) (fun z => nomatch z)
              | some g =>
                refine ⟨rfl, true, rfl, ?_⟩
                refine ⟨_, rfl, .inl ⟨rfl, _, SqL.of hB8⟩, _, rfl, _, rfl, _, rfl, .inl ⟨l7, _, rfl, SqL.of hl8, fun t9 nt9 => ?_⟩⟩
                have s9 := same_upd (o := .tup ((restM w x.2.1).map V.int)) nt9
                have ht9 : upd H8 t9 (.tup ((restM w x.2.1).map V.int)) t9 = some (.tup ((keyW (restM w x.2.1)).map kV)) := by rw [upd_same, keyW_kV]
                have dg9 := DGet.t ((s48.trans s9) _ _ hkv) ht9
                rw [hvv] at dg9
                refine ⟨D0, _, rfl, dg9, _, _, rfl, rfl, B, _, _, rfl, rfl, s9 _ _ hB8, szL' (by rw [List.length_map]; omega), _, _, _, _, rfl, sm_new (s48.trans s9) nB4, ns ++ [x.2.2 + g], at_app, by rw [List.length_append, List.length_singleton]; omega, .inr ⟨ha, fun n hn => ?_, fun r hr ne g' hg' => ?_⟩⟩
                · rcases List.mem_append.mp hn with z | z
                  · obtain ⟨r, hr, h⟩ := hmin.1 n z
                    exact ⟨r, by rw [etk]; exact List.mem_append.mpr (.inl hr), h⟩
                  · rw [List.mem_singleton.mp z]
                    exact ⟨x.2, by rw [etk]; exact List.mem_append.mpr (.inr List.mem_cons_self), hne, by rw [show x.2.2 + g - x.2.2 = g by omega]; exact li⟩
                · rw [etk] at hr
                  rcases List.mem_append.mp hr with z | z
                  · exact List.mem_append.mpr (.inl (hmin.2 r z ne g' hg'))
                  · rw [List.mem_singleton.mp z] at hg' ⊢
                    have := Option.some.inj (leastIs_unique li hg')
                    rw [this]
                    exact List.mem_append.mpr (.inr List.mem_cons_self)
            · have heq : restM w x.2.1 = w := Classical.byContradiction fun z => c (by rw [eqv_ints, decide_eq_false z]; rfl)
              refine ⟨_, _, _, _, rfl, s47, ns, s7 _ _ hB6, by omega, ?_⟩
              rcases hns with z | ⟨ha, hmin⟩
              · exact .inl z
              · refine .inr ⟨ha, fun n hn => ?_, fun r hr ne g hg => ?_⟩
                · obtain ⟨r, hr, h⟩ := hmin.1 n hn
                  exact ⟨r, by rw [etk]; exact List.mem_append.mpr (.inl hr), h⟩
                · rw [etk] at hr
                  rcases List.mem_append.mp hr with z | z
                  · exact hmin.2 r z ne g hg
                  · rw [List.mem_singleton.mp z] at ne
                    exact absurd heq ne
        · obtain ⟨y6, y7, y8, y9, rfl, s6, ns, hB6, lns, hns⟩ := hp
          rw [List.length_map, lal, List.take_of_length_le (by rw [List.length_map]; exact Nat.le_refl _)] at hns
          have res : (ns = [] → LeastIs (shopRws os) w none) ∧ ∀ mn, mn ∈ ns → (∀ y ∈ ns, mn ≤ y) → LeastIs (shopRws os) w (some mn) := by
            rcases hns with ⟨z, rfl⟩ | ⟨z, hmin⟩
            · refine ⟨(fun y => by cases y), fun mn hmn _ => ?_⟩
              rw [List.mem_singleton.mp hmn]
              exact leastIs_zero nn fun x hx => by rw [anyI_zero z x hx]; exact Int.le_refl _
            · obtain ⟨b1, b2⟩ := hmin.best hex
              obtain ⟨ip, np, hip, hpos⟩ := anyI_pos w0 z
              exact ⟨fun e => leastIs_step nn hip hpos hex (b1 e), fun mn hmn hle => leastIs_step nn hip hpos hex (b2 mn hmn hle)⟩
          have hno' := hno w (lesser_not_before hw)
          -- found[tuple(less)] = None
          refine ⟨_, rfl, _, rfl, .inl ⟨u, _, rfl, SqL.of (s6 _ _ hu4), fun t7 nt7 => ?_⟩⟩
          have s7 := same_upd (o := .tup (w.map V.int)) nt7
          have s47 := s6.trans s7
          refine ⟨D0, _, rfl, DPut.t (s47 _ _ hkv) (k := keyW w) (by rw [keyW_kV]; exact upd_same) (szL' (by omega)), ?_⟩
          have hD8 : upd (upd H6 t7 (.tup (w.map V.int))) D0 (.dT (putK kvs (keyW w) .non)) D0 = some (.dT (putK kvs (keyW w) .non)) := upd_same
          have nBD : B ≠ D0 := fun z => by rw [z, hkv] at nB4; cases nB4
          have hB8 : upd (upd H6 t7 (.tup (w.map V.int))) D0 (.dT (putK kvs (keyW w) .non)) B = some (LI ns) := by rw [upd_ne nBD]; exact s7 _ _ hB6
          have hu8 : upd (upd H6 t7 (.tup (w.map V.int))) D0 (.dT (putK kvs (keyW w) .non)) u = some (LI w) := by rw [upd_ne nuD]; exact s47 _ _ hu4
          have s18 : Same H1 (upd (upd H6 t7 (.tup (w.map V.int))) D0 (.dT (putK kvs (keyW w) .non))) := sm_new (s4.trans s47) nD0
          have sb8 : SameBut D0 H3 (upd (upd H6 t7 (.tup (w.map V.int))) D0 (.dT (putK kvs (keyW w) .non))) := (sb4.trans (.of s47)).trans .upd
          generalize (upd (upd H6 t7 (.tup (w.map V.int))) D0 (.dT (putK kvs (keyW w) .non))) = H8 at hD8 hB8 hu8 s18 sb8 ⊢
          refine ⟨_, rfl, Nat.zero_le _, fun e9 ne9 => ?_⟩
          have s9 := same_upd (o := .lst []) ne9
          refine ⟨_, _, dp_ints (SqL.of (s9 _ _ hB8)), dp_ints (ns := []) (SqL.of upd_same), shaped_ints _, shaped_ints _, _, rfl, ite2 (fun c => ?_) (fun c => ?_)⟩
          · have hne : ns ≠ [] := fun z => by
              rw [eqv_ints, decide_eq_true z] at c
              cases c
            refine ⟨_, rfl, B, ns, rfl, SqL.of (s9 _ _ hB8), List.length_pos_iff.mpr hne, fun mn hmn hle => ?_⟩
            refine ⟨_, rfl, _, rfl, .inl ⟨u, _, rfl, SqL.of (s9 _ _ hu8), fun t10 nt10 => ?_⟩⟩
            have s10 := s9.trans (same_upd (o := .tup (w.map V.int)) nt10)
            have lput : (putK kvs (keyW w) V.non).length ≤ kvs.length + 1 := length_putK _ _ _
            refine ⟨D0, _, rfl, DPut.t (s10 _ _ hD8) (k := keyW w) (by rw [keyW_kV]; exact upd_same) (szL' (by omega)), ?_⟩
            refine ⟨_, _, _, _, _, _, rfl, sm_new (s18.trans s10) nD0, (sb8.trans (.of s10)).trans .upd, ?_⟩
            rw [take_succ_at hw]
            exact tb.snoc hkv (by rw [upd_same, putK_last hno']; rfl) ⟨some mn, rfl, res.2 mn hmn hle⟩
          · have hne : ns = [] := Classical.byContradiction fun z => c (by rw [eqv_ints, decide_eq_false z]; rfl)
            refine ⟨_, _, _, _, _, _, rfl, s18.trans s9, sb8.trans (.of s9), ?_⟩
            rw [take_succ_at hw]
            exact tb.snoc hkv (by rw [s9 _ _ hD8, putK_new _ hno']; rfl) ⟨none, rfl, res.1 hne⟩
    · obtain ⟨y4, y5, y6, y7, y8, y9, rfl, s4, sb4, tb⟩ := hp
      rw [List.length_map, hbl, List.take_length] at tb
      exact ⟨_, rfl, q H4 D0 (s1.trans s4) nDH tb⟩
end
/-! ### _law_due -/
abbrev s_law_due : Stmt := topS 50
abbrev N_law_due : List Str := ["_law_shop", "_law_left", "_law_places", "_law_place", "_law_content_here", "_law_number_here"]
theorem sc_law_due : FnScope N_law_due ["_law_shop"] (defScope s_law_due) := ⟨rfl, rfl, rfl, by decide +kernel, rfl, by decide +kernel, by decide +kernel⟩

theorem cut_toN {l : List V} {j : Nat} (h : j ≤ l.length) : cutV l none (some (j : Int)) = l.take j := by
  unfold cutV
  have e : HT.sIx l.length l.length (some (j : Int)) = j := by
    show (if (j : Int) < 0 then ((j : Int) + (l.length : Int)).toNat else min (j : Int).toNat l.length) = _
    rw [if_neg (by omega)]
    omega
  rw [e, HT.sIx_none, List.drop_zero, Nat.sub_zero]
theorem cut_fromN {l : List V} {j : Nat} (h : j ≤ l.length) : cutV l (some (j : Int)) none = l.drop j := by
  unfold cutV
  have e : HT.sIx l.length 0 (some (j : Int)) = j := by
    show (if (j : Int) < 0 then ((j : Int) + (l.length : Int)).toNat else min (j : Int).toNat l.length) = _
    rw [if_neg (by omega)]
    omega
  rw [e, HT.sIx_none, List.take_of_length_le (by rw [List.length_drop]; omega)]
def sp_due25 : Sp := fun vs H Q _ => ∃ (S d : Addr) (os : List Ofr) (ds : List V) (m : Nat), vs = [.ref S] ∧ H d = some (.lst ds) ∧ ShopAt (cutH d H) S os ∧ Good os ∧ FitS m os ∧ m ≤ 4 ∧
  ∀ H' z q pl, Same H H' → H z = none → H pl = none → H' z = some (.tup [.ref q, .ref pl]) → ShopAt (cutH d H') q (thinM os os.length).2 → H' pl = some (LI (natI (thinM os os.length).1)) → Q (.ref z) H'
section
variable {P : Program} {w : World} {K : PySem.W.Frag} {mg : Str → Option Value} {base : Heap} {T : List Addr}
theorem ok_due25 {f f1 f2 f3 : Addr} {fd fd1 fd2 fd3 : FuncData} {k : Nat} (M : Names mg) (D : Def K mg "_law_due" s_law_due ["_law_shop"] f fd) (D_law_alone : Def K mg "_law_alone" s_law_alone ["_law_shop", "_law_place"] f1 fd1) (G_law_alone : FnOk P w K mg base CX0 k f1 fd1 ["_law_shop", "_law_place"] sp_alone)
    (D_law_without : Def K mg "_law_without" s_law_without ["_law_shop", "_law_place"] f2 fd2) (G_law_without : FnOk P w K mg base CX0 k f2 fd2 ["_law_shop", "_law_place"] sp_lwithout) (D_law_table : Def K mg "_law_table" s_law_table ["_law_shop", "_law_want_here"] f3 fd3) (G_law_table : FnOk P w K mg base CX0 k f3 fd3 ["_law_shop", "_law_want_here"] sp_table) :
    FnOk P w K mg base CX0 (k + 1) f fd ["_law_shop"] sp_due25 := by
  refine D.F.ok sc_law_due (fun vs H Q E h => ?_) (fun cdv A outer s H vs Q E hr h => ?_)
  · obtain ⟨S, d, os, ds, m, rfl, _⟩ := h
    rfl
  · obtain ⟨S, d, os, ds, m, rfl, hd, hS, gd, ft, hm, q⟩ := h
    have h8 := gd.1
    obtain ⟨us, hSl0, alu⟩ := hS.al
    have hSl := (cut_some hSl0).2
    have lu := alu.len
    refine ⟨_, (pss_cons (ps_set (i := 1) sc_law_due.nd rfl (Or.inl rfl) (pe_callTy call_list_of (by rfl) M.list (by decide +kernel) (pa_cons (pv 0) pa_nil)))
  (pss_cons (ps_set (i := 2) sc_law_due.nd rfl (Or.inl rfl) (pe_listRg rfl (by rfl) M.list (prg_1 (by rfl) M.range (pe_callB call_len_seq (by rfl) M.len (by decide +kernel) (pa_cons (pv 0) pa_nil)))))
  (pss_cons (ps_for PassesOwn.never rfl (pi_range3 (by rfl) M.range (pa_cons (pe_op op_sub (pe_callB call_len_seq (by rfl) M.len (by decide +kernel) (pa_cons (pv 0) pa_nil)) pe_int) (pa_cons (pe_un un_neg pe_int) (pa_cons (pe_un un_neg pe_int) pa_nil)))) (pg_name (i := 3) sc_law_due.nd rfl (Or.inl rfl))
   (pss_one (ps_if (pt_val (pe_call G_law_alone hr (by rfl) D_law_alone.g D_law_alone.F.kp D_law_alone.b .nil pass0 (pa_cons (pv 1) (pa_cons (pv 3) pa_nil))))
   (pss_cons (ps_set (i := 4) sc_law_due.nd rfl (Or.inl rfl) (pe_ix ix_tup (pe_ix ix_list (pv 1) (pv 3) (fun _ _ => rfl)) pe_int (fun _ _ => rfl)))
  (pss_cons (ps_set (i := 5) sc_law_due.nd rfl (Or.inl rfl) (pe_dget (hu_of hr) (pe_call G_law_table hr (by rfl) D_law_table.g D_law_table.F.kp D_law_table.b .nil pass0 (pa_cons (pe_call G_law_without hr (by rfl) D_law_without.g D_law_without.F.kp D_law_without.b .nil pass0 (pa_cons (pv 1) (pa_cons (pv 3) pa_nil))) (pa_cons (pv 4) pa_nil))) (pe_tupleOf (by rfl) M.tuple (pv 4)) (fun _ _ => rfl)))
  (pss_one (ps_if (PW.pt (pw_and (pt_cmpR op_notN (pv 5) pe_non (nomark _)) (pw_and1 (pt_cmpR op_le (pv 5) (pe_ix ix_tup (pe_ix ix_list (pv 1) (pv 3) (fun _ _ => rfl)) pe_int (fun _ _ => rfl)) (nomark _)))))
   (pss_cons (ps_set (i := 1) sc_law_due.nd rfl (Or.inl rfl) (pe_call G_law_without hr (by rfl) D_law_without.g D_law_without.F.kp D_law_without.b .nil pass0 (pa_cons (pv 1) (pa_cons (pv 3) pa_nil))))
  (pss_one (ps_set (i := 2) sc_law_due.nd rfl (Or.inl rfl) (pe_op op_cat (pe_slice sl_list (pv 2) po_none (po_some (pv 3))) (pe_slice sl_list (pv 2) (po_some (pe_op op_add (pv 3) pe_int)) po_none)))))
   pss_nil))))
   pss_nil)))
  (pss_one (ps_ret (pe_tup (pa_cons (pv 1) (pa_cons (pv 2) pa_nil)))))))), ?_⟩
    refine ⟨_, rfl, S, _, rfl, .inl (SqL.of hSl), fun B nB => ?_⟩
    have sB := same_upd (o := .lst (us.map V.ref)) nB
    have hB0 : upd H B (.lst (us.map V.ref)) B = some (.lst (us.map V.ref)) := upd_same
    have nBd : B ≠ d := (ne_of_none hd nB).symm
    generalize upd H B (.lst (us.map V.ref)) = H1 at sB hB0 ⊢
    have el : ((us.map V.ref).length : Int) = ((os.length : Nat) : Int) := by rw [List.length_map, lu]
    refine ⟨_, rfl, S, _, rfl, .inl (SqL.of (sB _ _ hSl)), _, rfl, ?_⟩
    rw [el]
    refine ⟨RgOk.of_le (by omega) (by omega) (by omega) (by omega), fun L0 nL0 => ?_⟩
    rw [rg_range]
    have nL0H := sB.free nL0
    have sL := sB.trans (same_upd (o := .lst ((natI (List.range os.length)).map V.int)) nL0)
    have hL0 : upd H1 L0 (.lst ((natI (List.range os.length)).map V.int)) L0 = some (LI (natI (List.range os.length))) := upd_same
    have hB1 := same_upd (o := .lst ((natI (List.range os.length)).map V.int)) nL0 _ _ hB0
    generalize upd H1 L0 (.lst ((natI (List.range os.length)).map V.int)) = H2 at sL hL0 hB1 ⊢
    refine ⟨_, rfl, S, _, rfl, .inl (SqL.of (sL _ _ hSl)), _, _, rfl, rfl, 1, rfl, 1, rfl, _, _, _, os.length, rfl, ?_, ?_⟩
    · have := RgC.neg (i := ((us.map V.ref).length : Int) - 1) (j := -1) (by omega) (by omega) (by omega) (by omega)
      rw [show (((us.map V.ref).length : Int) - 1 - -1).toNat = os.length by omega] at this
      exact this
    refine for_rangeC (fun t σ H' => ∃ (y3 y4 y5 : Option V) (q pl : Addr), σ = [some (.ref S), some (.ref q), some (.ref pl), y3, y4, y5] ∧ Same H H' ∧ ShopAt (cutH d H') q (thinM os t).2 ∧ H' pl = some (LI (natI (thinM os t).1)) ∧ H pl = none) ⟨none, none, none, B, L0, rfl, sL, ShopAt.of_al (cut_put nBd hB1) (alu.imp fun _ _ h => h.same (cut_mono sL)), hL0, nL0H⟩ (fun t σ H3 ht hp => ?_) (fun σ H3 hp => ?_)
    · obtain ⟨y3, y4, y5, q3, pl, rfl, s3, sh3, hpl3, npl⟩ := hp
      obtain ⟨xs, I⟩ := thin_ok gd ft t (by omega)
      have ev : ((us.map V.ref).length : Int) - 1 + (t : Nat) * (-1) = ((os.length - 1 - t : Nat) : Int) := by omega
      rw [ev]
      have erem : os.length - t = (os.length - 1 - t) + 1 := by omega
      rw [erem] at I
      generalize ej : os.length - 1 - t = j at I ⊢
      have lj := I.low j (by omega)
      have hjL := (List.getElem?_eq_some_iff.mp lj).1
      have hj : j < (thinM os t).2.length := by rw [← I.len]; exact hjL
      have stay : (∀ g, ¬ SpareM (thinM os t).2 j g) → thinM os (t + 1) = thinM os t := fun h => thin_stay (by rw [ej]; exact h)
      refine ⟨_, rfl, _, rfl, q3, (thinM os t).2, j, rfl, sh3.same cut_le, I.gd.1, hj, fun H4 s4 => ⟨aloneB (thinM os t).2 j, rfl, ?_⟩⟩
      have s04 := s3.trans s4
      cases ea : aloneB (thinM os t).2 j with
      | false =>
        have no : ∀ g, ¬ SpareM (thinM os t).2 j g := fun g hg => by
          obtain ⟨c, p, h1, h2, _⟩ := hg
          rw [alone_iff.mpr ⟨c, p, h1, h2⟩] at ea
          cases ea
        exact ⟨_, _, _, q3, pl, rfl, s04, by rw [stay no]; exact sh3.same (cut_mono s4), by rw [stay no]; exact s4 _ _ hpl3, npl⟩
      | true =>
        obtain ⟨c, p, ho, hz⟩ := alone_iff.mp ea
        have sh4 := sh3.same (cut_mono s4)
        obtain ⟨vs, hq0, alv⟩ := id sh4.al
        have hq4 := (cut_some hq0).2
        have lv := alv.len
        have gi : vs[j]? = some (vs[j]'(by omega)) := List.getElem?_eq_getElem (by omega)
        have gv : (vs.map V.ref)[j]? = some (.ref (vs[j]'(by omega))) := by rw [List.getElem?_map, gi]; rfl
        obtain ⟨o, ho', hov⟩ := alv.get gi
        cases Option.some.inj (ho.symm.trans ho')
        generalize vs[j] = u at gi gv hov
        obtain ⟨b, h1, h2⟩ := hov
        obtain ⟨lc, smc, p0, p1⟩ := I.ft _ (List.mem_of_getElem? ho)
        have c0 : ∀ x ∈ c, 0 ≤ x := fun x hx => (smc x hx).1
        have k1 := (cut_some h1).2
        have k2 := (cut_some h2).2
        refine ⟨_, rfl, _, rfl, q3, _, _, _, rfl, rfl, SqL.of hq4, atI_nat gv, u, _, _, _, rfl, rfl, SqT.of k1, atI_nat (j := 1) rfl, ?_⟩
        refine ⟨_, rfl, _, rfl, q3, d, j, (thinM os t).2, ds, rfl, s04 _ _ hd, sh4, I.gd.1, fun H5 q5 s5 nq5 hq5 => ?_⟩
        have s05 := s04.trans s5
        refine ⟨_, rfl, ?_⟩
        refine ⟨q5, b, d, outS (thinM os t).2 j, c, ds, m, rfl, s05 _ _ hd, hq5, good_out ho hz I.gd, fit_out I.ft, s5 _ _ k2, lc, hm, smc, fun H6 q6 s6 nq6 tb => ?_⟩
        have s46 := s5.trans s6
        obtain ⟨kvs, hkv, _, _, hyes⟩ := tb.val (lesserF_nodup c)
        obtain ⟨v, hv, od, rfl, li⟩ := hyes c (lesserF_mem.mpr (LeW.refl c0))
        refine ⟨_, rfl, .inl ⟨b, _, rfl, SqL.of (s46 _ _ k2), fun t7 nt7 => ?_⟩⟩
        have s7 := same_upd (o := .tup (c.map V.int)) nt7
        have ht7 : upd H6 t7 (.tup (c.map V.int)) t7 = some (.tup ((keyW c).map kV)) := by rw [upd_same, keyW_kV]
        have dg := DGet.t (s7 _ _ hkv) ht7
        rw [hv] at dg
        refine ⟨q6, _, rfl, dg, ?_⟩
        have s47 := s46.trans s7
        clear dg ht7
        generalize upd H6 t7 (.tup (c.map V.int)) = H7 at s7 s47 ⊢
        have s07 := s04.trans s47
        have li' := (least_out ho hz).mp li
        have none_ : (∀ g, od = some g → p < g) → ∀ g, ¬ SpareM (thinM os t).2 j g := fun h g hg => by
          obtain ⟨c', p', e1, _, e2, e3⟩ := hg
          cases Option.some.inj (ho.symm.trans e1)
          have := h g (leastIs_unique li' e2)
          omega
        have sh7 := sh4.same (cut_mono s47)
        have hpl7 := s47 _ _ (s4 _ _ hpl3)
        cases od with
        | none =>
          have no := none_ fun g z => nomatch z
          refine ⟨_, rfl, rfl, false, rfl, ?_⟩
          exact ⟨_, _, _, q3, pl, rfl, s07, by rw [stay no]; exact sh7, by rw [stay no]; exact hpl7, npl⟩
        | some g =>
          refine ⟨_, rfl, rfl, true, rfl, ?_⟩
          refine ⟨_, rfl, _, rfl, _, rfl, q3, _, _, _, rfl, rfl, SqL.of (s47 _ _ hq4), atI_nat gv, u, _, _, _, rfl, rfl, SqT.of (s47 _ _ k1), atI_nat (j := 2) rfl, _, _, rfl, rfl, _, rfl, ite2 (fun z => ?_) (fun z => ?_)⟩
          · have le : g ≤ p := of_decide_eq_true z
            have spM : SpareM (thinM os t).2 j g := ⟨c, p, ho, hz, li', le⟩
            have eo : thinM os (t + 1) = ((thinM os t).1.eraseIdx j, outS (thinM os t).2 j) := by
              have := thin_out (os := os) (t := t) (g := g) (by rw [ej]; exact spM)
              rw [ej] at this
              exact this
            refine ⟨_, rfl, _, rfl, q3, d, j, (thinM os t).2, ds, rfl, s07 _ _ hd, sh7, I.gd.1, fun H8 q8 s8 nq8 hq8 => ?_⟩
            have hpl8 := s8 _ _ hpl7
            have ll : j ≤ ((natI (thinM os t).1).map V.int).length := by rw [List.length_map, List.length_map]; omega
            have ll2 : j + 1 ≤ ((natI (thinM os t).1).map V.int).length := by rw [List.length_map, List.length_map]; omega
            have l8' : ((natI (thinM os t).1).map V.int).length ≤ 8 := by rw [List.length_map, List.length_map, I.len]; exact I.gd.1
            refine ⟨_, rfl, _, rfl, _, rfl, pl, _, rfl, SqL.of hpl8, fun C1 nC1 => ?_⟩
            rw [cut_toN ll]
            have sC1 := same_upd (o := .lst (((natI (thinM os t).1).map V.int).take j)) nC1
            have hC1 : upd H8 C1 (.lst (((natI (thinM os t).1).map V.int).take j)) C1 = some (.lst (((natI (thinM os t).1).map V.int).take j)) := upd_same
            generalize upd H8 C1 (.lst (((natI (thinM os t).1).map V.int).take j)) = H9 at sC1 hC1 ⊢
            refine ⟨_, rfl, _, rfl, _, _, rfl, rfl, _, rfl, pl, _, rfl, SqL.of (sC1 _ _ hpl8), fun C2 nC2 => ?_⟩
            rw [show ((j : Nat) : Int) + 1 = ((j + 1 : Nat) : Int) by omega, cut_fromN ll2]
            have sC2 := same_upd (o := .lst (((natI (thinM os t).1).map V.int).drop (j + 1))) nC2
            have hC2 : upd H9 C2 (.lst (((natI (thinM os t).1).map V.int).drop (j + 1))) C2 = some (.lst (((natI (thinM os t).1).map V.int).drop (j + 1))) := upd_same
            have hC1' := sC2 _ _ hC1
            generalize upd H9 C2 (.lst (((natI (thinM os t).1).map V.int).drop (j + 1))) = H10 at sC2 hC2 hC1' ⊢
            refine ⟨C1, C2, _, _, rfl, rfl, hC1', hC2, szL (by rw [List.length_take, List.length_drop]; omega), fun C3 nC3 => ?_⟩
            have s310 := (sC1.trans sC2).trans (same_upd (o := .lst (((natI (thinM os t).1).map V.int).take j ++ ((natI (thinM os t).1).map V.int).drop (j + 1))) nC3)
            refine ⟨_, _, _, q8, C3, rfl, (s07.trans s8).trans s310, by rw [eo]; exact hq8.same (cut_mono s310), ?_, (s07.trans s8).free ((sC1.trans sC2).free nC3)⟩
            rw [upd_same, eo]
            show some (HO.lst _) = some (HO.lst ((natI ((thinM os t).1.eraseIdx j)).map V.int))
            rw [← List.eraseIdx_eq_take_drop_succ, ← map_erase, ← map_erase]
          · have lt : p < g := by
              have : ¬ g ≤ p := fun h => z (decide_eq_true h)
              omega
            have no := none_ fun g' e => by cases e; exact lt
            exact ⟨_, _, _, q3, pl, rfl, s07, by rw [stay no]; exact sh7, by rw [stay no]; exact hpl7, npl⟩
    · obtain ⟨y3, y4, y5, q3, pl, rfl, s3, sh3, hpl3, npl⟩ := hp
      refine ⟨_, rfl, _, rfl, by show 2 ≤ sizeLine; decide, fun z nz => ?_⟩
      have sz := same_upd (o := .tup [.ref q3, .ref pl]) nz
      exact q _ z q3 pl (s3.trans sz) (s3.free nz) npl upd_same (sh3.same (cut_mono sz)) (sz _ _ hpl3)
end
/-! ### packs of a shop -/
def isPack (os : List Ofr) (i : Nat) : Bool := match os[i]? with
  | some (.pack _ _) => true
  | _ => false
def packsN (os : List Ofr) (n : Nat) : List Int := ((List.range n).filter (isPack os)).map fun (i : Nat) => (i : Int)
theorem packsN_len (os : List Ofr) (n : Nat) : (packsN os n).length ≤ n := by
  unfold packsN
  rw [List.length_map]
  exact Nat.le_trans (List.length_filter_le _ _) (by rw [List.length_range]; exact Nat.le_refl _)
theorem packsN_yes {os : List Ofr} {n : Nat} (h : isPack os n = true) : packsN os (n + 1) = packsN os n ++ [(n : Int)] := by
  unfold packsN
  rw [List.range_succ, List.filter_append, List.map_append]
  simp [h]
theorem packsN_no {os : List Ofr} {n : Nat} (h : isPack os n = false) : packsN os (n + 1) = packsN os n := by
  unfold packsN
  rw [List.range_succ, List.filter_append, List.map_append]
  simp [h]
theorem packsN_mem {os : List Ofr} {n : Nat} {x : Int} (h : x ∈ packsN os n) : ∃ j : Nat, x = (j : Int) ∧ j < n ∧ ∃ c p, os[j]? = some (.pack c p) := by
  obtain ⟨j, hj, rfl⟩ := List.mem_map.mp h
  obtain ⟨h1, h2⟩ := List.mem_filter.mp hj
  refine ⟨j, rfl, List.mem_range.mp h1, ?_⟩
  unfold isPack at h2
  split at h2
  · exact ⟨_, _, by assumption⟩
  · cases h2
/-! ### _law_packs -/
abbrev s_law_packs : Stmt := topS 47
abbrev N_law_packs : List Str := ["_law_draws_here", "_law_many", "_law_most", "_law_shop", "_law_k", "_law_number_here", "_law_packs_here", "_law_content_here", "_law_prices", "_law_price", "_law_twice", "_law_word", "_law_place", "_law_offer", "_law_one"]
theorem sc_law_packs : FnScope N_law_packs ["_law_draws_here", "_law_many", "_law_most"] (defScope s_law_packs) := ⟨rfl, rfl, rfl, by decide +kernel, rfl, by decide +kernel, by decide +kernel⟩

def sp_packs : Sp := fun vs H Q _ => ∃ (a : Addr) (ns : List Int) (m most : Nat), vs = [.ref a, .int m, .int most] ∧ H a = some (LI ns) ∧ 1 ≤ m ∧ m ≤ 4 ∧ 1 ≤ most ∧ most ≤ 8 ∧
  ∀ H' p os ns', SameBut a H H' → H p = none → ShopAt (cutH a H') p os → Good os → FitS m os → 1 ≤ os.length → os.length ≤ most → H' a = some (LI ns') → Q (.ref p) H'
structure PkI (a S : Addr) (H : Hp) (m i : Nat) (H' : Hp) : Prop where
  sb : SameBut a H H'
  dr : ∃ ds, H' a = some (LI ds)
  shop : ∃ (vs : List Addr) (os : List Ofr), H' S = some (.lst (vs.map V.ref)) ∧ Al (OfrAt (cutH S (cutH a H'))) vs os ∧ Good os ∧ FitS m os ∧ os.length = i ∧ ∀ c p, Ofr.pack c p ∈ os → p + 1 ≤ 1000 * 2 ^ i
theorem al_at {α : Type} {R : Addr → α → Prop} {as : List Addr} {xs : List α} {i : Nat} {x : α} (h : Al R as xs) (hx : xs[i]? = some x) : ∃ a, as[i]? = some a ∧ R a x := by
  have hi : i < as.length := by rw [h.len]; exact (List.getElem?_eq_some_iff.mp hx).1
  obtain ⟨y, hy, r⟩ := h.get (List.getElem?_eq_getElem hi)
  cases Option.some.inj (hy.symm.trans hx)
  exact ⟨_, List.getElem?_eq_getElem hi, r⟩
def dblI (x : Int) : Int := if 2 * x < 9 then 2 * x else 9
theorem dbl_small {c : List Int} (h : Small c) : Small (c.map dblI) := fun y hy => by
  obtain ⟨x, hx, rfl⟩ := List.mem_map.mp hy
  have := h x hx
  unfold dblI
  split <;> omega
theorem same_new {r : Addr} {H H1 H2 : Hp} (n : H r = none) (s : Same H H1) (b : SameBut r H1 H2) : Same H H2 := fun x o h => b x o (fun z => by rw [z, n] at h; cases h) (s x o h)
theorem menu4p {a b c e : Int} {j : Nat} (h : j < 4) (h1 : 0 ≤ a ∧ a ≤ 900) (h2 : 0 ≤ b ∧ b ≤ 900) (h3 : 0 ≤ c ∧ c ≤ 900) (h4 : 0 ≤ e ∧ e ≤ 900) : ∃ v : Int, ([V.int a, V.int b, V.int c, V.int e] : List V)[j]? = some (.int v) ∧ 0 ≤ v ∧ v ≤ 900 :=
  match j, h with
  | 0, _ => ⟨a, rfl, h1⟩
  | 1, _ => ⟨b, rfl, h2⟩
  | 2, _ => ⟨c, rfl, h3⟩
  | 3, _ => ⟨e, rfl, h4⟩
theorem pow_up {i : Nat} : (1000 : Int) ≤ 1000 * 2 ^ (i + 1) := by
  have : (1 : Int) ≤ 2 ^ (i + 1) := by
    have h := Nat.one_le_two_pow (n := i + 1)
    exact_mod_cast h
  omega
theorem two_tiers {p q x : Int} (x0 : 2 ≤ x) (x1 : x ≤ 5) : GoodT [(1, p), (x, q)] := by
  refine ⟨by show 1 ≤ 2; decide, by show 2 ≤ 4; decide, fun t h => by cases Option.some.inj h; rfl, fun t h => ?_, fun i a b h1 h2 => ?_⟩
  · simp only [List.mem_cons, List.not_mem_nil, or_false] at h
    rcases h with rfl | rfl
    · show (1 : Int) ≤ 12; decide
    · show x ≤ 12; omega
  · match i, h1, h2 with
    | 0, h1, h2 =>
      cases Option.some.inj h1
      cases Option.some.inj h2
      show (1 : Int) < x
      omega
    | i + 1, _, h2 => simp at h2
section
variable {P : Program} {w : World} {K : PySem.W.Frag} {mg : Str → Option Value} {base : Heap}
theorem ok_packs {f f1 f4 f5 : Addr} {fd fd1 fd4 fd5 : FuncData} {k : Nat} (M : Names mg) (D : Def K mg "_law_packs" s_law_packs ["_law_draws_here", "_law_many", "_law_most"] f fd) (D_law_content : Def K mg "_law_content" s_law_content ["_law_draws_here", "_law_many", "_law_most"] f1 fd1)
    (D_law_cut : Def K mg "_law_cut" s_law_cut ["_law_row"] f4 fd4) (D_law_pop : Def K mg "_law_pop" s_law_pop ["_law_draws_here"] f5 fd5) :
    FnOk P w K mg base CX0 (k + 3) f fd ["_law_draws_here", "_law_many", "_law_most"] sp_packs := by
  have G_law_content : FnOk P w K mg base CX0 (k + 2) f1 fd1 ["_law_draws_here", "_law_many", "_law_most"] sp_content := ok_content M D_law_content D_law_pop D_law_cut
  have G_law_cut : FnOk P w K mg base CX0 (k + 2) f4 fd4 ["_law_row"] sp_cut := ok_cut M D_law_cut
  have G_law_pop : FnOk P w K mg base CX0 (k + 2) f5 fd5 ["_law_draws_here"] sp_pop := ok_pop D_law_pop
  refine D.F.ok sc_law_packs (fun vs H Q E h => ?_) (fun cdv A outer s H vs Q E hr h => ?_)
  · obtain ⟨a, ns, m, most, rfl, _⟩ := h
    rfl
  · obtain ⟨a, ns, m, most, rfl, ha, hm1, hm4, hmo1, hmo8, q⟩ := h
    refine ⟨_, (pss_cons (ps_set (i := 3) sc_law_packs.nd rfl (Or.inl rfl) (pe_lst pa_nil))
  (pss_cons (ps_for PassesOwn.never rfl (pi_range1 (by rfl) M.range (pa_cons (pe_op op_add pe_int (pe_op op_mod (pe_call G_law_pop hr (by rfl) D_law_pop.g D_law_pop.F.kp D_law_pop.b .nil pass0 (pa_cons (pv 0) pa_nil)) (pv 2))) pa_nil)) (pg_name (i := 4) sc_law_packs.nd rfl (Or.inl rfl))
   (pss_cons (ps_set (i := 5) sc_law_packs.nd rfl (Or.inl rfl) (pe_call G_law_pop hr (by rfl) D_law_pop.g D_law_pop.F.kp D_law_pop.b .nil pass0 (pa_cons (pv 0) pa_nil)))
  (pss_cons (ps_setLc (i := 6) (own := [("_law_place", 12), ("_law_offer", 13)]) (by rfl) sc_law_packs.nd rfl rfl (sw_true rfl rfl rfl (by decide +kernel)) (pi_enum (by rfl) M.enumerate (pa_cons (pv 3) pa_nil)) (blkOk_by (own := [("_law_place", 12), ("_law_offer", 13)]) (N := N_law_packs) (sc := defScope s_law_packs) (by decide +kernel)) (fun _ _ _ _ _ => (pg_tupK (K := K) (n := 2) rfl rfl (pgs_cons (pg_name (i := 12) sc_law_packs.nd rfl (Or.inl rfl)) (pgs_cons (pg_name (i := 13) sc_law_packs.nd rfl (Or.inl rfl)) pgs_nil)))) (fun _ _ _ _ _ => (pts_one (pt_cmpR op_eq (pe_ix (ix_tupK (K := K) rfl) (pv 13) pe_int (fun _ _ => rfl)) pe_str (nomark _)))) (fun _ _ _ _ _ => (pv 12)))
  (pss_cons (ps_set (i := 7) sc_law_packs.nd rfl (Or.inl rfl) (pe_call G_law_content hr (by rfl) D_law_content.g D_law_content.F.kp D_law_content.b .nil pass0 (pa_cons (pv 0) (pa_cons (pv 1) (pa_cons (pe_ix ix_list (pe_lst (pa_cons pe_int (pa_cons pe_int (pa_cons pe_int (pa_cons pe_int pa_nil))))) (pe_op op_sub (pv 1) pe_int) (fun _ _ => rfl)) pa_nil)))))
  (pss_cons (ps_set (i := 8) sc_law_packs.nd rfl (Or.inl rfl) (pe_lst (pa_cons (pe_op op_add pe_int (pe_op op_mod (pe_op op_fdiv (pv 5) pe_int) pe_int)) (pa_cons (pe_op op_add pe_int (pe_op op_mod (pe_op op_fdiv (pv 5) pe_int) pe_int)) (pa_cons (pe_op op_mul (pe_callB (cr_sum rfl) (by rfl) M.sum (by decide +kernel) (pa_cons (pv 7) pa_nil)) (pe_op op_add pe_int (pe_op op_mod (pe_op op_fdiv (pv 5) pe_int) pe_int))) (pa_cons pe_int pa_nil))))))
  (pss_cons (ps_set (i := 9) sc_law_packs.nd rfl (Or.inl rfl) (pe_ix ix_list (pv 8) (pe_op op_mod (pe_op op_fdiv (pv 5) pe_int) pe_int) (fun _ _ => rfl)))
  (pss_one (ps_if (pt_cmpR op_eq (pe_op op_mod (pv 5) pe_int) pe_int (nomark _))
   (pss_one (ps_expr (pe_bm PySem.F.plainAttrs_list PySem.F.slot_list_append PySem.F.type_list_append mt_append (pv 3) (pa_cons (pe_tup (pa_cons pe_str (pa_cons (pv 7) (pa_cons (pe_lst (pa_cons (pe_tup (pa_cons pe_int (pa_cons (pv 9) pa_nil))) (pa_cons (pe_tup (pa_cons (pe_op op_add pe_int (pe_op op_mod (pe_op op_fdiv (pv 5) pe_int) pe_int)) (pa_cons (pe_op op_fdiv (pv 9) pe_int) pa_nil))) pa_nil))) pa_nil)))) pa_nil))))
   (pss_one (ps_if (PW.pt (pw_and (pt_cmpR op_eq (pe_op op_mod (pv 5) pe_int) pe_int (nomark _)) (pw_and1 (pt_cmpR (op_neD hr.units) (pv 6) (pe_lst pa_nil) (nomark _)))))
   (pss_one (ps_expr (pe_bm PySem.F.plainAttrs_list PySem.F.slot_list_append PySem.F.type_list_append mt_append (pv 3) (pa_cons (pe_tup (pa_cons pe_str (pa_cons (pv 7) (pa_cons (pv 9) (pa_cons (pe_ix ix_list (pv 6) (pe_op op_mod (pe_op op_fdiv (pv 5) pe_int) (pe_callB call_len_seq (by rfl) M.len (by decide +kernel) (pa_cons (pv 6) pa_nil))) (fun _ _ => rfl)) pa_nil))))) pa_nil))))
   (pss_one (ps_if (PW.pt (pw_and (pt_cmpR op_eq (pe_op op_mod (pv 5) pe_int) pe_int (nomark _)) (pw_and1 (pt_cmpR (op_neD hr.units) (pv 6) (pe_lst pa_nil) (nomark _)))))
   (pss_cons (ps_asg (pe_ix ix_list (pv 3) (pe_ix ix_list (pv 6) (pe_op op_mod (pe_op op_fdiv (pv 5) pe_int) (pe_callB call_len_seq (by rfl) M.len (by decide +kernel) (pa_cons (pv 6) pa_nil))) (fun _ _ => rfl)) (fun _ _ => rfl)) (pg_tup rfl (pgs_cons (pg_name (i := 11) sc_law_packs.nd rfl (Or.inl rfl)) (pgs_cons (pg_name (i := 7) sc_law_packs.nd rfl (Or.inl rfl)) (pgs_cons (pg_name (i := 9) sc_law_packs.nd rfl (Or.inl rfl)) pgs_nil)))))
  (pss_cons (ps_set (i := 10) sc_law_packs.nd rfl (Or.inl rfl) (pe_call G_law_cut hr (by rfl) D_law_cut.g D_law_cut.F.kp D_law_cut.b .nil pass0 (pa_cons (pe_lc (own := [("_law_one", 14)]) (by rfl) sc_law_packs.nd (pi_list (pv 7)) (blkOk_by (own := [("_law_one", 14)]) (N := N_law_packs) (sc := defScope s_law_packs) (by decide +kernel)) (fun _ _ _ _ _ => (pg_name (i := 14) sc_law_packs.nd rfl (Or.inl rfl))) (fun _ _ _ _ _ => pts_nil) (fun _ _ _ _ _ => (pe_callB (call_min2 rfl) (by rfl) M.min (by decide +kernel) (pa_cons pe_int (pa_cons (pe_op op_mul pe_int (pv 14)) pa_nil))))) pa_nil)))
  (pss_one (ps_expr (pe_bm PySem.F.plainAttrs_list PySem.F.slot_list_append PySem.F.type_list_append mt_append (pv 3) (pa_cons (pe_tup (pa_cons pe_str (pa_cons (pv 10) (pa_cons (pe_callB (call_max2 rfl) (by rfl) M.max (by decide +kernel) (pa_cons pe_int (pa_cons (pe_op op_sub (pe_op op_add (pe_op op_mul pe_int (pv 9)) (pe_op op_mod (pe_op op_fdiv (pv 5) pe_int) pe_int)) pe_int) pa_nil))) pa_nil)))) pa_nil))))))
   (pss_one (ps_expr (pe_bm PySem.F.plainAttrs_list PySem.F.slot_list_append PySem.F.type_list_append mt_append (pv 3) (pa_cons (pe_tup (pa_cons pe_str (pa_cons (pv 7) (pa_cons (pv 9) pa_nil)))) pa_nil))))))))))))))))
  (pss_one (ps_ret (pv 3))))), ?_⟩
    refine ⟨Nat.zero_le _, fun S nS => ?_⟩
    have nSa : S ≠ a := (ne_of_none ha nS).symm
    have ha0 : upd H S (.lst []) a = some (LI ns) := by rw [upd_ne nSa.symm]; exact ha
    refine ⟨_, rfl, a, ns, rfl, ha0, fun H1 s1 ha1 => ?_⟩
    have s1' : SameBut a H H1 := (SameBut.of (same_upd nS)).trans s1
    have hS1 : H1 S = some (.lst []) := s1 _ _ nSa upd_same
    obtain ⟨cnt, hcnt, ecnt⟩ := mod_at (i := ns.headD 0) (n := most) (by omega)
    refine ⟨_, rfl, _, _, rfl, rfl, (by show (0 : Int) < (most : Int); omega), _, _, rfl, rfl, ?_⟩
    refine ⟨((cnt + 1 : Nat) : Int), (by show [V.int (1 + ns.headD 0 % (most : Int))] = [V.int ((cnt + 1 : Nat) : Int)]; rw [show ns.headD 0 % (most : Int) = (cnt : Int) from ecnt, Int.add_comm]; rfl), by omega, by omega, for_range (n := ((cnt + 1 : Nat) : Int).toNat) (fun i σ H' => ∃ y4 y5 y6 y7 y8 y9 y10 y11, σ = [some (.ref a), some (.int m), some (.int most), some (.ref S), y4, y5, y6, y7, y8, y9, y10, y11, none, none, none] ∧ PkI a S H m i H') ⟨none, none, none, none, none, none, none, none, rfl, s1', ⟨_, ha1⟩, [], [], hS1, True.intro, ⟨by decide, fun i o ho => by simp at ho⟩, fun o ho => by simp at ho, rfl, fun c p hm => by cases hm⟩ (fun i σ H2 hi hp => ?_) (fun σ H2 hp => ?_)⟩
    · obtain ⟨y4, y5, y6, y7, y8, y9, y10, y11, rfl, s2, ⟨ds, ha2⟩, vs, os, hS2, al, gd, ft, hlen, prb⟩ := hp
      have hi2 : i < cnt + 1 := by omega
      have lal := al.len
      refine ⟨_, rfl, a, ds, rfl, ha2, fun H3 s3 ha3 => ?_⟩
      generalize ds.headD 0 = n
      have s23 := s2.trans s3
      have hS3 := s3 _ _ nSa hS2
      have al3 : Al (OfrAt (cutH S (cutH a H3))) vs os := al.imp fun v o h => h.same (cut_mono (cut_same s3))
      have sh3 : ShopAt H3 S os := ShopAt.of_al hS3 (al3.imp fun v o h => (h.same cut_le).same cut_le)
      obtain ⟨vs3, k1, k2, k3⟩ := id sh3
      -- packs
      refine ⟨_, rfl, S, _, rfl, SqL.of k1, fun B nB => lc_it (walk_enum (xs := vs3.map V.ref)) (fun j H' => Same H3 H' ∧ H' B = some (LI (packsN os j))) ⟨same_upd nB, upd_same⟩ (fun j H' _ hp => SqL.of (hp.1 _ _ k1)) (fun j x H3' H4 hj hI hy => ?_) (fun H4 hI => ?_)⟩
      · obtain ⟨s4, hB⟩ := hI
        obtain ⟨Tt, x1, x2, rfl, nT, rfl, e1, e2⟩ := hy
        cases Option.some.inj e1
        rw [List.length_map] at hj
        have hj2 : j < os.length := by omega
        obtain ⟨v, o, g1, g2, g3⟩ := ShopAt.get (H := H3) (a := S) k2 hj2
        have e2' : (vs3.map V.ref)[j]? = some x2 := e2
        rw [g3] at e2'
        cases Option.some.inj e2'
        have st := same_upd (o := .tup [.int (j : Nat), .ref v]) nT
        obtain ⟨b, r, hv, _⟩ := ((k3 j v o g1 g2).same (s4.trans st)).head
        have nlen := packsN_len os j
        have hB2 := st _ _ hB
        refine ⟨Tt, _, rfl, SqT.of upd_same, rfl, _, _, rfl, _, _, rfl, rfl, rfl, _, rfl, v, _, _, _, rfl, rfl, SqT.of hv, atI_nat (j := 0) rfl, rfl, ?_⟩
        cases o with
        | pack c pr =>
          have hn : isPack os j = true := by unfold isPack; rw [g2]
          refine ⟨true, rfl, _, rfl, _, hB2, szL' (by rw [List.length_map]; omega), sm_new (s4.trans st) nB, ?_⟩
          rw [packsN_yes hn]
          exact at_app
        | many c ts =>
          have hn : isPack os j = false := by unfold isPack; rw [g2]
          exact ⟨false, rfl, s4.trans st, by rw [packsN_no hn]; exact hB2⟩
        | add c pr kk =>
          have hn : isPack os j = false := by unfold isPack; rw [g2]
          exact ⟨false, rfl, s4.trans st, by rw [packsN_no hn]; exact hB2⟩
      · obtain ⟨s4, hB⟩ := hI
        rw [List.length_map, k2] at hB
        have ha4 := s4 _ _ ha3
        have hS4 := s4 _ _ hS3
        have nBa : B ≠ a := (ne_of_none ha3 nB).symm
        have s24 : SameBut a H H4 := s23.trans (.of s4)
        have al4 : Al (OfrAt (cutH S (cutH a H4))) vs os := al3.imp fun v o h => h.same (cut_mono (cut_mono s4))
        -- the most
        refine ⟨_, rfl, _, rfl, by show 4 ≤ sizeLine; decide, fun l4 nl4 => ?_⟩
        have sl := same_upd (o := .lst [.int 3, .int 9, .int 9, .int 9]) nl4
        have mm : ∃ mo : Nat, ([V.int 3, .int 9, .int 9, .int 9] : List V)[m - 1]? = some (.int (mo : Int)) ∧ 1 ≤ mo ∧ mo ≤ 9 := match m, hm1, hm4 with
          | 1, _, _ => ⟨3, rfl, by decide, by decide⟩
          | 2, _, _ => ⟨9, rfl, by decide, by decide⟩
          | 3, _, _ => ⟨9, rfl, by decide, by decide⟩
          | 4, _, _ => ⟨9, rfl, by decide, by decide⟩
        obtain ⟨mo, hmo, mo1, mo9⟩ := mm
        refine ⟨_, rfl, _, _, rfl, rfl, l4, _, _, _, rfl, rfl, SqL.of upd_same, at_of (by show (m : Int) - 1 = ((m - 1 : Nat) : Int); omega) hmo, ?_⟩
        have ha4' := sl _ _ ha4
        have hS4' := sl _ _ hS4
        have hB4' := sl _ _ hB
        have s24' := s24.trans (.of sl)
        have al4' : Al (OfrAt (cutH S (cutH a (upd H4 l4 (.lst [.int 3, .int 9, .int 9, .int 9]))))) vs os := al4.imp fun v o h => h.same (cut_mono (cut_mono sl))
        generalize upd H4 l4 (.lst [.int 3, .int 9, .int 9, .int 9]) = H4' at ha4' hS4' hB4' s24' al4' ⊢
        -- content
        refine ⟨a, _, m, mo, rfl, ha4', hm1, hm4, mo1, mo9, fun H5 c ws ns5 s5 nc nca hc ha5 hl sm => ?_⟩
        have s25 := s24'.trans s5
        have hS5 := s5 _ _ nSa hS4'
        have hB5 := s5 _ _ nBa hB4'
        have ncS : c ≠ S := fun z => by rw [z, hS4'] at nc; cases nc
        have al5 : Al (OfrAt (cutH S (cutH a H5))) vs os := al4'.imp fun v o h => h.same (cut_mono (cut_same s5))
        clear al4' al4 al3 al s24' s24 s23 hS4' hB4' ha4' hS4 ha4 hB s4 sl
        have fin : ∀ (H6 : Hp) (v : Addr) (o : Ofr) (tup : List V), Same H5 H6 → H6 v = none → (OfrAt (cutH S (cutH a (upd H6 v (.tup tup)))) v o) → GoodO os os.length o → FitO m o → (∀ c p, o = .pack c p → p + 1 ≤ 1000 * 2 ^ (i + 1)) → upd H6 v (.tup tup) S = some (.lst (vs.map V.ref)) ∧ (vs.map V.ref).length < sizeLine ∧ PkI a S H m (i + 1) (upd (upd H6 v (.tup tup)) S (.lst (vs.map V.ref ++ [.ref v]))) := by
          intro H6 v o tup s6 nv ho go fo po
          have ha6 := s6 _ _ ha5
          have nva : v ≠ a := (ne_of_none ha6 nv).symm
          have hS6 := s6 _ _ hS5
          have hS7 := (same_upd (o := .tup tup) nv) _ _ hS6
          refine ⟨hS7, szL' (by rw [List.length_map]; omega), ?_, ⟨ns5, ?_⟩, vs ++ [v], os ++ [o], ?_, ?_, gd.push (by omega) go, ft.push fo, by rw [List.length_append, List.length_singleton]; omega, fun c p hm => ?_⟩
          · exact ((s25.trans (.of s6)).trans (.of (same_upd nv))).new nS
          · rw [upd_ne nSa.symm, upd_ne nva.symm]
            exact ha6
          · rw [upd_same, List.map_append]
            rfl
          · rw [cut_upd nSa, cut_off]
            refine Al.app (al5.imp fun x y h => h.same (cut_mono (cut_mono (s6.trans (same_upd nv))))) (.one ho)
          · rcases List.mem_append.mp hm with z | z
            · have h1 := prb c p z
              have e : (1000 : Int) * 2 ^ (i + 1) = 2 * (1000 * 2 ^ i) := by rw [Int.pow_succ]; omega
              have h2 := (ft _ z).2.2.1
              omega
            · exact po c p (List.mem_singleton.mp z).symm
        -- prices
        have sm0 : 0 ≤ ws.sum := sum_nonneg fun x hx => (sm x hx).1
        have sm9 : ws.sum ≤ 36 := by have := small_sum sm; omega
        refine ⟨_, rfl, _, _, rfl, rfl, ⟨by decide, by decide⟩, _, _, rfl, rfl, (by show (0 : Int) < _; decide), _, _, rfl, rfl, _, rfl, _, _, rfl, rfl, ⟨by decide, by decide⟩, _, _, rfl, rfl, (by show (0 : Int) < _; decide), _, _, rfl, rfl, _, rfl, c, ws, rfl, SqL.of hc, _, rfl, _, _, rfl, rfl, ⟨by decide, by decide⟩, _, _, rfl, rfl, (by show (0 : Int) < _; decide), _, _, rfl, rfl, _, _, rfl, rfl, (by refine .inl ⟨?_, ?_⟩ <;> omega), by show 4 ≤ sizeLine; decide, fun l5 nl5 => ?_⟩
        have sl5 := same_upd (o := .lst [.int (1 + n / 10 % 6), .int (1 + n / 10 % 30), .int (ws.sum * (2 + n / 10 % 3)), .int 0]) nl5
        have mul3 : 0 ≤ ws.sum * (2 + n / 10 % 3) ∧ ws.sum * (2 + n / 10 % 3) ≤ 900 := by
          have ht : 2 + n / 10 % 3 = 2 ∨ 2 + n / 10 % 3 = 3 ∨ 2 + n / 10 % 3 = 4 := by omega
          rcases ht with h | h | h <;> rw [h] <;> omega
        obtain ⟨jp, hjp, ejp⟩ := mod_at (i := n / 1000) (n := 4) (by decide)
        obtain ⟨pr, hpr, pr0, pr9⟩ := menu4p (a := 1 + n / 10 % 6) (b := 1 + n / 10 % 30) (c := ws.sum * (2 + n / 10 % 3)) (e := 0) hjp (by omega) (by omega) mul3 (by decide)
        refine ⟨_, rfl, _, rfl, _, _, rfl, rfl, ⟨by decide, by decide⟩, _, _, rfl, rfl, (by show (0 : Int) < _; decide), l5, _, _, _, rfl, rfl, SqL.of upd_same, at_of ejp hpr, ?_⟩
        have up := pow_up (i := i)
        have pne : (!PyData.eqv (.list ((packsN os os.length).map PyData.int)) (.list (([] : List Int).map PyData.int))) = true → 0 < (packsN os os.length).length := fun z => by
          rcases Nat.eq_zero_or_pos (packsN os os.length).length with y | y
          · rw [eqv_ints, List.eq_nil_of_length_eq_zero y, decide_eq_true rfl] at z
            cases z
          · exact y
        generalize upd H5 l5 (.lst [.int (1 + n / 10 % 6), .int (1 + n / 10 % 30), .int (ws.sum * (2 + n / 10 % 3)), .int 0]) = H6 at sl5 ⊢
        have hS6 := sl5 _ _ hS5
        have hc6 := sl5 _ _ hc
        have hB6 := sl5 _ _ hB5
        have ha6 := sl5 _ _ ha5
        have plain : ∀ {H7 : Hp}, Same H5 H7 → ∀ (v : Addr), H7 v = none → upd H7 v (.tup [.str "pack", .ref c, .int pr]) S = some (.lst (vs.map V.ref)) ∧ (vs.map V.ref).length < sizeLine ∧ PkI a S H m (i + 1) (upd (upd H7 v (.tup [.str "pack", .ref c, .int pr])) S (.lst (vs.map V.ref ++ [.ref v]))) := fun {H7} s7 v nv => by
          have nva : v ≠ a := (ne_of_none (s7 _ _ ha5) nv).symm
          have nvS : v ≠ S := (ne_of_none (s7 _ _ hS5) nv).symm
          exact fin H7 v (.pack ws pr) _ s7 nv ⟨c, cut_put nvS (cut_put nva upd_same), cut_put ncS (cut_put nca ((same_upd nv) _ _ (s7 _ _ hc)))⟩ True.intro ⟨hl, sm, pr0, by omega⟩ (fun c' p' e => by cases e; omega)
        refine ⟨_, rfl, _, _, rfl, rfl, (by show (0 : Int) < _; decide), rfl, _, rfl, ite2 (fun _ => ?_) (fun _ => ?_)⟩
        · -- many
          refine ⟨_, rfl, .inl ⟨rfl, _, SqL.of hS6⟩, _, rfl, _, rfl, by show 2 ≤ sizeLine; decide, fun t1 n1 => ⟨_, rfl, _, _, rfl, rfl, ⟨by decide, by decide⟩, _, _, rfl, rfl, (by show (0 : Int) < _; decide), _, _, rfl, rfl, _, rfl, _, _, rfl, rfl, ⟨by decide, by decide⟩, by show 2 ≤ sizeLine; decide, fun t2 n2 => ⟨by show 2 ≤ sizeLine; decide, fun tt n3 => ⟨by show 3 ≤ sizeLine; decide, fun v nv => ?_⟩⟩⟩⟩
          have t1' := same_upd (o := .tup [.int 1, .int pr]) n1
          have t2' := same_upd (o := .tup [.int (2 + n / 10 % 4), .int (pr / 2)]) n2
          have t3' := same_upd (o := .lst [.ref t1, .ref t2]) n3
          have tv := same_upd (o := .tup [.str "many", .ref c, .ref tt]) nv
          have s7 := sl5.trans t1'
          have s8 := s7.trans t2'
          have s9 := s8.trans t3'
          have n1a : t1 ≠ a := (ne_of_none ha6 n1).symm
          have n1S : t1 ≠ S := (ne_of_none hS6 n1).symm
          have n2a : t2 ≠ a := (ne_of_none (s7 _ _ ha5) n2).symm
          have n2S : t2 ≠ S := (ne_of_none (s7 _ _ hS5) n2).symm
          have n3a : tt ≠ a := (ne_of_none (s8 _ _ ha5) n3).symm
          have n3S : tt ≠ S := (ne_of_none (s8 _ _ hS5) n3).symm
          have nva : v ≠ a := (ne_of_none (s9 _ _ ha5) nv).symm
          have nvS : v ≠ S := (ne_of_none (s9 _ _ hS5) nv).symm
          obtain ⟨f1, f2, f3⟩ := fin _ v (.many ws [(1, pr), (2 + n / 10 % 4, pr / 2)]) [.str "many", .ref c, .ref tt] s9 nv ⟨c, tt, cut_put nvS (cut_put nva upd_same), cut_put ncS (cut_put nca (tv _ _ (s9 _ _ hc))), TiersAt.of_al (us := [t1, t2]) (cut_put n3S (cut_put n3a (tv _ _ upd_same))) ⟨cut_put n1S (cut_put n1a (tv _ _ (t3' _ _ (t2' _ _ upd_same)))), cut_put n2S (cut_put n2a (tv _ _ (t3' _ _ upd_same))), True.intro⟩⟩ (two_tiers (by omega) (by omega)) ⟨hl, sm, fun t ht => by
            simp only [List.mem_cons, List.not_mem_nil, or_false] at ht
            rcases ht with rfl | rfl
            · exact ⟨pr0, by omega⟩
            · exact ⟨by show 0 ≤ pr / 2; omega, by show pr / 2 < _; omega⟩⟩ (fun c' p' e => by cases e)
          exact ⟨S, _, _, rfl, rfl, f1, f2, _, _, _, _, _, _, _, _, rfl, f3⟩
        · refine ⟨_, rfl, _, _, rfl, rfl, (by show (0 : Int) < _; decide), rfl, _, rfl, ite2 (fun _ => ?_) (fun _ => ?_)⟩
          · refine ⟨_, rfl, Nat.zero_le _, fun e ne => ?_⟩
            have se := same_upd (o := .lst []) ne
            have he : upd H6 e (.lst []) e = some (.lst []) := upd_same
            generalize upd H6 e (.lst []) = H7 at se he ⊢
            have s7 := sl5.trans se
            refine ⟨_, _, dp_ints (SqL.of (s7 _ _ hB5)), dp_ints (ns := []) (SqL.of he), shaped_ints _, shaped_ints _, _, rfl, ite2 (fun z => ?_) (fun z => ?_)⟩
            · obtain ⟨j, hj, ej⟩ := mod_at (i := n / 10) (n := ((packsN os os.length).map V.int).length) (by rw [List.length_map]; exact pne z)
              rw [List.length_map] at hj
              obtain ⟨jj, ejj, hjj, cc, pp, hpk⟩ := packsN_mem (List.getElem_mem hj)
              refine ⟨_, rfl, .inl ⟨rfl, _, SqL.of (s7 _ _ hS5)⟩, _, rfl, _, rfl, _, rfl, _, rfl, _, _, rfl, rfl, ⟨by decide, by decide⟩, _, rfl, B, _, rfl, .inl (SqL.of (s7 _ _ hB5)), _, _, rfl, rfl, (by rw [List.length_map]; omega), B, _, _, _, rfl, rfl, SqL.of (s7 _ _ hB5), at_of ej (getD_ints hj), by show 4 ≤ sizeLine; decide, fun v nv => ?_⟩
              have nva : v ≠ a := (ne_of_none (s7 _ _ ha5) nv).symm
              have nvS : v ≠ S := (ne_of_none (s7 _ _ hS5) nv).symm
              obtain ⟨f1, f2, f3⟩ := fin _ v (.add ws pr ((packsN os os.length)[j])) _ s7 nv ⟨c, cut_put nvS (cut_put nva upd_same), cut_put ncS (cut_put nca ((same_upd nv) _ _ (s7 _ _ hc)))⟩ ⟨jj, ejj, hjj, cc, pp, hpk⟩ ⟨hl, sm, pr0, by omega⟩ (fun c' p' e => by cases e)
              exact ⟨S, _, _, rfl, rfl, f1, f2, _, _, _, _, _, _, _, _, rfl, f3⟩
            · refine ⟨_, rfl, _, _, rfl, rfl, (by show (0 : Int) < _; decide), rfl, _, rfl, ite2 (fun _ => ?_) (fun _ => ?_)⟩
              · refine ⟨_, rfl, Nat.zero_le _, fun e8 ne8 => ?_⟩
                have se8 := same_upd (o := .lst []) ne8
                have he8 : upd H7 e8 (.lst []) e8 = some (.lst []) := upd_same
                generalize upd H7 e8 (.lst []) = H8 at se8 he8 ⊢
                have s8 := s7.trans se8
                refine ⟨_, _, dp_ints (SqL.of (s8 _ _ hB5)), dp_ints (ns := []) (SqL.of he8), shaped_ints _, shaped_ints _, _, rfl, ite2 (fun z => ?_) (fun z => ?_)⟩
                · obtain ⟨j, hj, ej⟩ := mod_at (i := n / 10) (n := ((packsN os os.length).map V.int).length) (by rw [List.length_map]; exact pne z)
                  rw [List.length_map] at hj
                  obtain ⟨jj, ejj, hjj, cc, pp, hpk⟩ := packsN_mem (List.getElem_mem hj)
                  obtain ⟨vv, hvv, hov⟩ := al_at al5 hpk
                  obtain ⟨bb, hb1, hb2⟩ := (hov.same cut_le).same cut_le
                  obtain ⟨lcc, smcc, pp0, pp1⟩ := ft _ (List.mem_of_getElem? hpk)
                  have ppb := prb cc pp (List.mem_of_getElem? hpk)
                  refine ⟨_, rfl, _, rfl, _, rfl, _, _, rfl, rfl, ⟨by decide, by decide⟩, _, rfl, B, _, rfl, .inl (SqL.of (s8 _ _ hB5)), _, _, rfl, rfl, (by rw [List.length_map]; omega), B, _, _, _, rfl, rfl, SqL.of (s8 _ _ hB5), at_of ej (getD_ints hj), S, _, _, _, rfl, rfl, SqL.of (s8 _ _ hS5), at_of ejj (show (vs.map V.ref)[jj]? = some (.ref vv) by rw [List.getElem?_map, hvv]; rfl), ?_⟩
                  refine ⟨vv, _, rfl, SqT.of (s8 _ _ hb1), rfl, _, _, rfl, _, _, rfl, _, _, rfl, rfl, ?_⟩
                  have kb2 := s8 _ _ hb2
                  refine ⟨_, rfl, bb, rfl, ⟨_, SqL.of kb2⟩, fun L nL => lc_list (xs := cc.map V.int) (fun r H' => Same H8 H' ∧ H' L = some (LI ((cc.take r).map dblI))) ⟨same_upd nL, upd_same⟩ (fun r H' _ hp => SqL.of (hp.1 _ _ kb2)) (fun r y H9 hy hp => ?_) (fun H9 hp => ?_)⟩
                  · obtain ⟨s9, hL⟩ := hp
                    have hr' := (List.getElem?_eq_some_iff.mp hy).1
                    rw [List.length_map] at hr'
                    have gr := List.getElem?_eq_getElem hr'
                    rw [List.getElem?_map, gr] at hy
                    cases Option.some.inj hy
                    have smr := smcc _ (List.getElem_mem hr')
                    refine ⟨rfl, _, rfl, _, _, rfl, rfl, (by refine .inl ⟨?_, ?_⟩ <;> decide), _, _, rfl, _, hL, szL' (by rw [List.length_map, List.length_map, List.length_take]; omega), sm_new s9 nL, ?_⟩
                    have et : cc.take (r + 1) = cc.take r ++ [cc[r]] := by rw [List.take_succ, gr]; rfl
                    rw [et, List.map_append]
                    exact at_app
                  · obtain ⟨s9, hL⟩ := hp
                    rw [List.length_map, List.take_length] at hL
                    have nL5 : H5 L = none := s8.free nL
                    refine ⟨L, cc.map dblI, rfl, hL, dbl_small smcc, by rw [List.length_map]; omega, by rw [List.length_map]; omega, fun H10 ws' s10 hL10 lw' sm' _ _ => ?_⟩
                    have s510 := same_new nL5 (s8.trans s9) s10
                    refine ⟨_, rfl, .inl ⟨rfl, _, SqL.of (s510 _ _ hS5)⟩, _, rfl, _, rfl, _, _, rfl, rfl, (by refine .inl ⟨?_, ?_⟩ <;> decide), _, rfl, _, _, rfl, rfl, ⟨by decide, by decide⟩, _, _, rfl, rfl, (by show (0 : Int) < _; decide), _, _, rfl, rfl, _, _, rfl, rfl, _, _, rfl, by show 3 ≤ sizeLine; decide, fun v nv => ?_⟩
                    have nva : v ≠ a := (ne_of_none (s510 _ _ ha5) nv).symm
                    have nvS : v ≠ S := (ne_of_none (s510 _ _ hS5) nv).symm
                    have nLa : L ≠ a := fun z => by rw [z, ha5] at nL5; cases nL5
                    have nLS : L ≠ S := fun z => by rw [z, hS5] at nL5; cases nL5
                    have p2 : ∃ x : Int, x = (if 2 * pp + n / 100 % 3 - 1 > 0 then 2 * pp + n / 100 % 3 - 1 else 0) ∧ 0 ≤ x ∧ x + 1 ≤ 1000 * 2 ^ (i + 1) := by
                      have e : (1000 : Int) * 2 ^ (i + 1) = 2 * (1000 * 2 ^ i) := by rw [Int.pow_succ]; omega
                      refine ⟨_, rfl, ?_, ?_⟩ <;> split <;> omega
                    obtain ⟨x, ex, x0, x1⟩ := p2
                    rw [← ex]
                    have xb : x < 1000000000000 := by
                      have h9 : (2 : Int) ^ (i + 1) ≤ 2 ^ 8 := by
                        have h := Nat.pow_le_pow_right (show 0 < 2 by decide) (show i + 1 ≤ 8 by omega)
                        exact_mod_cast h
                      have : (2 : Int) ^ 8 = 256 := by decide
                      omega
                    obtain ⟨f1, f2, f3⟩ := fin _ v (.pack ws' x) [.str "pack", .ref L, .int x] s510 nv ⟨L, cut_put nvS (cut_put nva upd_same), cut_put nLS (cut_put nLa ((same_upd nv) _ _ hL10))⟩ True.intro ⟨by rw [lw', List.length_map]; exact lcc, sm', x0, xb⟩ (fun c' p' e => by cases e; exact x1)
                    exact ⟨S, _, _, rfl, rfl, f1, f2, _, _, _, _, _, _, _, _, rfl, f3⟩
                · refine ⟨_, rfl, .inl ⟨rfl, _, SqL.of (s8 _ _ hS5)⟩, _, rfl, _, rfl, by show 3 ≤ sizeLine; decide, fun v nv => ?_⟩
                  obtain ⟨f1, f2, f3⟩ := plain s8 v nv
                  exact ⟨S, _, _, rfl, rfl, f1, f2, _, _, _, _, _, _, _, _, rfl, f3⟩
              · refine ⟨_, rfl, .inl ⟨rfl, _, SqL.of (s7 _ _ hS5)⟩, _, rfl, _, rfl, by show 3 ≤ sizeLine; decide, fun v nv => ?_⟩
                obtain ⟨f1, f2, f3⟩ := plain s7 v nv
                exact ⟨S, _, _, rfl, rfl, f1, f2, _, _, _, _, _, _, _, _, rfl, f3⟩
          · refine ⟨_, rfl, _, _, rfl, rfl, (by show (0 : Int) < _; decide), rfl, _, rfl, ite2 (fun _ => ?_) (fun _ => ?_)⟩
            · refine ⟨_, rfl, Nat.zero_le _, fun e8 ne8 => ?_⟩
              have se8 := same_upd (o := .lst []) ne8
              have he8 : upd H6 e8 (.lst []) e8 = some (.lst []) := upd_same
              generalize upd H6 e8 (.lst []) = H8 at se8 he8 ⊢
              have s8 := sl5.trans se8
              refine ⟨_, _, dp_ints (SqL.of (s8 _ _ hB5)), dp_ints (ns := []) (SqL.of he8), shaped_ints _, shaped_ints _, _, rfl, ite2 (fun z => ?_) (fun z => ?_)⟩
              · obtain ⟨j, hj, ej⟩ := mod_at (i := n / 10) (n := ((packsN os os.length).map V.int).length) (by rw [List.length_map]; exact pne z)
                rw [List.length_map] at hj
                obtain ⟨jj, ejj, hjj, cc, pp, hpk⟩ := packsN_mem (List.getElem_mem hj)
                obtain ⟨vv, hvv, hov⟩ := al_at al5 hpk
                obtain ⟨bb, hb1, hb2⟩ := (hov.same cut_le).same cut_le
                obtain ⟨lcc, smcc, pp0, pp1⟩ := ft _ (List.mem_of_getElem? hpk)
                have ppb := prb cc pp (List.mem_of_getElem? hpk)
                refine ⟨_, rfl, _, rfl, _, rfl, _, _, rfl, rfl, ⟨by decide, by decide⟩, _, rfl, B, _, rfl, .inl (SqL.of (s8 _ _ hB5)), _, _, rfl, rfl, (by rw [List.length_map]; omega), B, _, _, _, rfl, rfl, SqL.of (s8 _ _ hB5), at_of ej (getD_ints hj), S, _, _, _, rfl, rfl, SqL.of (s8 _ _ hS5), at_of ejj (show (vs.map V.ref)[jj]? = some (.ref vv) by rw [List.getElem?_map, hvv]; rfl), ?_⟩
                refine ⟨vv, _, rfl, SqT.of (s8 _ _ hb1), rfl, _, _, rfl, _, _, rfl, _, _, rfl, rfl, ?_⟩
                have kb2 := s8 _ _ hb2
                refine ⟨_, rfl, bb, rfl, ⟨_, SqL.of kb2⟩, fun L nL => lc_list (xs := cc.map V.int) (fun r H' => Same H8 H' ∧ H' L = some (LI ((cc.take r).map dblI))) ⟨same_upd nL, upd_same⟩ (fun r H' _ hp => SqL.of (hp.1 _ _ kb2)) (fun r y H9 hy hp => ?_) (fun H9 hp => ?_)⟩
                · obtain ⟨s9, hL⟩ := hp
                  have hr' := (List.getElem?_eq_some_iff.mp hy).1
                  rw [List.length_map] at hr'
                  have gr := List.getElem?_eq_getElem hr'
                  rw [List.getElem?_map, gr] at hy
                  cases Option.some.inj hy
                  have smr := smcc _ (List.getElem_mem hr')
                  refine ⟨rfl, _, rfl, _, _, rfl, rfl, (by refine .inl ⟨?_, ?_⟩ <;> decide), _, _, rfl, _, hL, szL' (by rw [List.length_map, List.length_map, List.length_take]; omega), sm_new s9 nL, ?_⟩
                  have et : cc.take (r + 1) = cc.take r ++ [cc[r]] := by rw [List.take_succ, gr]; rfl
                  rw [et, List.map_append]
                  exact at_app
                · obtain ⟨s9, hL⟩ := hp
                  rw [List.length_map, List.take_length] at hL
                  have nL5 : H5 L = none := s8.free nL
                  refine ⟨L, cc.map dblI, rfl, hL, dbl_small smcc, by rw [List.length_map]; omega, by rw [List.length_map]; omega, fun H10 ws' s10 hL10 lw' sm' _ _ => ?_⟩
                  have s510 := same_new nL5 (s8.trans s9) s10
                  refine ⟨_, rfl, .inl ⟨rfl, _, SqL.of (s510 _ _ hS5)⟩, _, rfl, _, rfl, _, _, rfl, rfl, (by refine .inl ⟨?_, ?_⟩ <;> decide), _, rfl, _, _, rfl, rfl, ⟨by decide, by decide⟩, _, _, rfl, rfl, (by show (0 : Int) < _; decide), _, _, rfl, rfl, _, _, rfl, rfl, _, _, rfl, by show 3 ≤ sizeLine; decide, fun v nv => ?_⟩
                  have nva : v ≠ a := (ne_of_none (s510 _ _ ha5) nv).symm
                  have nvS : v ≠ S := (ne_of_none (s510 _ _ hS5) nv).symm
                  have nLa : L ≠ a := fun z => by rw [z, ha5] at nL5; cases nL5
                  have nLS : L ≠ S := fun z => by rw [z, hS5] at nL5; cases nL5
                  have p2 : ∃ x : Int, x = (if 2 * pp + n / 100 % 3 - 1 > 0 then 2 * pp + n / 100 % 3 - 1 else 0) ∧ 0 ≤ x ∧ x + 1 ≤ 1000 * 2 ^ (i + 1) := by
                    have e : (1000 : Int) * 2 ^ (i + 1) = 2 * (1000 * 2 ^ i) := by rw [Int.pow_succ]; omega
                    refine ⟨_, rfl, ?_, ?_⟩ <;> split <;> omega
                  obtain ⟨x, ex, x0, x1⟩ := p2
                  rw [← ex]
                  have xb : x < 1000000000000 := by
                    have h9 : (2 : Int) ^ (i + 1) ≤ 2 ^ 8 := by
                      have h := Nat.pow_le_pow_right (show 0 < 2 by decide) (show i + 1 ≤ 8 by omega)
                      exact_mod_cast h
                    have : (2 : Int) ^ 8 = 256 := by decide
                    omega
                  obtain ⟨f1, f2, f3⟩ := fin _ v (.pack ws' x) [.str "pack", .ref L, .int x] s510 nv ⟨L, cut_put nvS (cut_put nva upd_same), cut_put nLS (cut_put nLa ((same_upd nv) _ _ hL10))⟩ True.intro ⟨by rw [lw', List.length_map]; exact lcc, sm', x0, xb⟩ (fun c' p' e => by cases e; exact x1)
                  exact ⟨S, _, _, rfl, rfl, f1, f2, _, _, _, _, _, _, _, _, rfl, f3⟩
              · refine ⟨_, rfl, .inl ⟨rfl, _, SqL.of (s8 _ _ hS5)⟩, _, rfl, _, rfl, by show 3 ≤ sizeLine; decide, fun v nv => ?_⟩
                obtain ⟨f1, f2, f3⟩ := plain s8 v nv
                exact ⟨S, _, _, rfl, rfl, f1, f2, _, _, _, _, _, _, _, _, rfl, f3⟩
            · refine ⟨_, rfl, .inl ⟨rfl, _, SqL.of (sl5 _ _ hS5)⟩, _, rfl, _, rfl, by show 3 ≤ sizeLine; decide, fun v nv => ?_⟩
              obtain ⟨f1, f2, f3⟩ := plain sl5 v nv
              exact ⟨S, _, _, rfl, rfl, f1, f2, _, _, _, _, _, _, _, _, rfl, f3⟩
    · obtain ⟨y4, y5, y6, y7, y8, y9, y10, y11, rfl, s2, ⟨ds, ha2⟩, vs, os, hS2, al, gd, ft, hlen, prb⟩ := hp
      refine ⟨_, rfl, q H2 S os ds s2 nS (ShopAt.of_al (cut_put nSa hS2) (al.imp fun v o h => h.same cut_le)) gd ft (by omega) (by omega) ha2⟩
end
/-! ### lines that are shown alike are alike -/
theorem minus_not (n : Nat) (t : String) (h : n.repr = "-" ++ t) : False := by
  have h2 := congrArg String.toList h
  rw [Nat.toList_repr, String.toList_append] at h2
  have h3 : '-' ∈ Nat.toDigits 10 n := by
    rw [h2]
    exact List.mem_append.mpr (.inl (by decide))
  have := Nat.isDigit_of_mem_toDigits (by decide) (by decide) h3
  exact absurd this (by decide)
theorem int_text_inj {a b : Int} (h : Int.repr a = Int.repr b) : a = b := by
  rw [Int.repr_eq_if, Int.repr_eq_if] at h
  split at h <;> split at h
  · have := Nat.repr_injective h
    omega
  · exact (minus_not _ _ h).elim
  · exact (minus_not _ _ h.symm).elim
  · have h2 := congrArg String.toList h
    rw [String.toList_append, String.toList_append] at h2
    have := Nat.repr_injective (String.toList_inj.mp (List.append_cancel_left h2))
    omega
def numT (n : Int) : List Nat := ((toString n : String) : Str).cps.toList
theorem numT_inj {a b : Int} (h : numT a = numT b) : a = b := by
  unfold numT at h
  rw [Str.ofString_eq_toList, Str.ofString_eq_toList] at h
  have h1 : (toString a).toList.map Char.toNat = (toString b).toList.map Char.toNat := h
  have h2 : (toString a).toList = (toString b).toList := by
    have inj : ∀ (x y : List Char), x.map Char.toNat = y.map Char.toNat → x = y := by
      intro x
      induction x with
      | nil =>
        intro y e
        cases y with
        | nil => rfl
        | cons _ _ => cases e
      | cons c r ih =>
        intro y e
        cases y with
        | nil => cases e
        | cons d q =>
          injection e with e1 e2
          rw [ih q e2, Char.toNat_inj.mp e1]
    exact inj _ _ h1
  have h3 : toString a = toString b := String.toList_inj.mp h2
  exact int_text_inj h3
theorem numT_free {k : Nat} (hk : k ≠ 45 ∧ (k < 48 ∨ 57 < k)) (n : Int) : k ∉ numT n := PyProof.Rows.int_text_free' k hk n
theorem numT_ne (n : Int) : numT n ≠ [] := fun h => by
  have h2 : ((toString n).toList.map Char.toNat) = [] := by
    unfold numT at h
    rw [Str.ofString_eq_toList] at h
    exact h
  have h3 : (toString n).toList = [] := List.map_eq_nil_iff.mp h2
  have h4 : toString n = "" := String.toList_inj.mp h3
  rw [Int.toString_eq_repr, Int.repr_eq_if] at h4
  split at h4
  · have := congrArg String.toList h4
    rw [Nat.toList_repr] at this
    exact Nat.toDigits_ne_nil this
  · have := congrArg String.toList h4
    simp at this
/-- two texts that have k once, at their parts' ends -/
theorem cutAt {k : Nat} : ∀ {u u' r r' : List Nat}, k ∉ u → k ∉ u' → u ++ k :: r = u' ++ k :: r' → u = u' ∧ r = r'
  | [], [], _, _, _, _, e => ⟨rfl, by injection e⟩
  | [], c :: u', _, _, _, h, e => by
    injection e with e1 _
    exact absurd (e1 ▸ List.mem_cons_self) h
  | c :: u, [], _, _, h, _, e => by
    injection e with e1 _
    exact absurd (e1 ▸ List.mem_cons_self) h
  | c :: u, c' :: u', _, _, h, h', e => by
    injection e with e1 e2
    obtain ⟨h1, h2⟩ := cutAt (fun z => h (List.mem_cons_of_mem _ z)) (fun z => h' (List.mem_cons_of_mem _ z)) e2
    exact ⟨by rw [e1, h1], h2⟩
def joinT : List Int → List Nat
  | [] => []
  | [n] => numT n
  | n :: m :: r => numT n ++ 44 :: 32 :: joinT (m :: r)
theorem joinT_free : ∀ ns : List Int, 93 ∉ joinT ns
  | [] => fun h => nomatch h
  | [n] => numT_free ⟨by decide, by decide⟩ n
  | n :: m :: r => fun h => by
    rcases List.mem_append.mp h with h | h
    · exact numT_free ⟨by decide, by decide⟩ n h
    · rcases List.mem_cons.mp h with h | h
      · cases h
      · rcases List.mem_cons.mp h with h | h
        · cases h
        · exact joinT_free (m :: r) h
theorem joinT_inj : ∀ {a b : List Int}, joinT a = joinT b → a = b
  | [], [], _ => rfl
  | [], [m], h => absurd h.symm (numT_ne m)
  | [], m :: m' :: r, h => by simp [joinT] at h
  | [n], [], h => absurd h (numT_ne n)
  | n :: n' :: r, [], h => by simp [joinT] at h
  | [n], [m], h => by rw [numT_inj h]
  | [n], m :: m' :: r, h => by
    have : (44 : Nat) ∈ numT n := by
      rw [show numT n = numT m ++ 44 :: 32 :: joinT (m' :: r) from h]
      exact List.mem_append.mpr (.inr List.mem_cons_self)
    exact absurd this (numT_free ⟨by decide, by decide⟩ n)
  | n :: n' :: r, [m], h => by
    have : (44 : Nat) ∈ numT m := by
      rw [← show numT n ++ 44 :: 32 :: joinT (n' :: r) = numT m from h]
      exact List.mem_append.mpr (.inr List.mem_cons_self)
    exact absurd this (numT_free ⟨by decide, by decide⟩ m)
  | n :: n' :: r, m :: m' :: q, h => by
    obtain ⟨h1, h2⟩ := cutAt (numT_free ⟨by decide, by decide⟩ n) (numT_free ⟨by decide, by decide⟩ m) (show numT n ++ 44 :: (32 :: joinT (n' :: r)) = numT m ++ 44 :: (32 :: joinT (m' :: q)) from h)
    injection h2 with _ h2
    rw [numT_inj h1, joinT_inj h2]
theorem join_signs : ∀ ns : List Int, (Str.join ", " (ns.map fun n => ((toString n : String) : Str))).cps.toList = joinT ns
  | [] => rfl
  | [n] => rfl
  | n :: m :: r => by
    have ih := join_signs (m :: r)
    show (((toString n : String) : Str) ++ ", " ++ Str.join ", " ((m :: r).map fun n => ((toString n : String) : Str))).cps.toList = numT n ++ 44 :: 32 :: joinT (m :: r)
    rw [Str.cps_append, Str.cps_append, Array.toList_append, Array.toList_append, ih, List.append_assoc]
    rfl
def lineT (l : Ln) : List Nat := 40 :: (numT l.p ++ 44 :: 32 :: (numT l.c ++ 44 :: 32 :: 91 :: (joinT l.as ++ [93, 41])))
theorem shown_line (l : Ln) : (dLine l).shown.cps.toList = lineT l := by
  unfold dLine
  rw [PyData.shown_tuple, PyData.shownAll_cons, PyData.shownAll_cons, PyData.shownAll_cons, PyData.shownAll_nil, PyData.shown_int, PyData.shown_int, PyData.shown_list, PyData.shownAll_ints]
  show ((("(" : Str) ++ (((toString l.p : String) : Str) ++ ", " ++ (((toString l.c : String) : Str) ++ ", " ++ (("[" : Str) ++ Str.join ", " (l.as.map fun n => ((toString n : String) : Str)) ++ "]"))) ++ ")" : Str)).cps.toList = lineT l
  simp only [Str.cps_append, Array.toList_append, join_signs]
  show [40] ++ (numT l.p ++ [44, 32] ++ (numT l.c ++ [44, 32] ++ ([91] ++ joinT l.as ++ [93]))) ++ [41] = lineT l
  unfold lineT
  simp [List.append_assoc]
theorem shown_inj {a b : Ln} (h : (dLine a).shown = (dLine b).shown) : a = b := by
  have e : lineT a = lineT b := by rw [← shown_line, ← shown_line, h]
  injection e with _ e
  obtain ⟨e1, e⟩ := cutAt (numT_free ⟨by decide, by decide⟩ a.p) (numT_free ⟨by decide, by decide⟩ b.p) e
  injection e with _ e
  obtain ⟨e2, e⟩ := cutAt (numT_free ⟨by decide, by decide⟩ a.c) (numT_free ⟨by decide, by decide⟩ b.c) e
  injection e with _ e
  injection e with _ e
  obtain ⟨e3, _⟩ := cutAt (joinT_free a.as) (joinT_free b.as) (show joinT a.as ++ 93 :: [41] = joinT b.as ++ 93 :: [41] from e)
  obtain ⟨p, c, as⟩ := a
  obtain ⟨p', c', as'⟩ := b
  have h1 : p = p' := numT_inj e1
  have h2 : c = c' := numT_inj e2
  have h3 : as = as' := joinT_inj e3
  rw [h1, h2, h3]
/-! ### data that can be shown -/
structure Sh (n : Nat) (d : PyData) : Prop where
  ok : d.showable = true
  nd : d.hasDict = false
  len : d.shown.length ≤ n
theorem Sh.mono {n m : Nat} {d : PyData} (h : Sh n d) (k : n ≤ m) : Sh m d := ⟨h.ok, h.nd, Nat.le_trans h.len k⟩
theorem Sh.int {i : Int} (h : i.natAbs < 10 ^ 12) : Sh 13 (.int i) := by
  refine ⟨?_, by simp [PyData.hasDict], PyData.shown_int_le h⟩
  simp only [PyData.showable, decide_eq_true_eq]
  refine log2_small (Nat.lt_trans h ?_)
  exact Nat.lt_trans (by decide : 10 ^ 12 < 2 ^ 64) (Nat.pow_lt_pow_right (by decide) (by decide))
theorem shw_all {n : Nat} : ∀ {xs : List PyData}, (∀ x ∈ xs, Sh n x) → PyData.showableAll xs = true ∧ PyData.hasDictAll xs = false ∧ ((PyData.shownAll xs).map (·.length)).sum ≤ n * xs.length
  | [], _ => ⟨by simp [PyData.showableAll], by simp [PyData.hasDictAll], by simp [PyData.shownAll]⟩
  | x :: r, h => by
    obtain ⟨h1, h2, h3⟩ := shw_all (xs := r) fun y hy => h y (List.mem_cons_of_mem _ hy)
    have hx := h x List.mem_cons_self
    refine ⟨by simp [PyData.showableAll, hx.ok, h1], by simp [PyData.hasDictAll, hx.nd, h2], ?_⟩
    rw [PyData.shownAll_cons, List.map_cons, List.sum_cons, List.length_cons, Nat.mul_add, Nat.mul_one]
    have := hx.len
    omega
theorem Sh.list {n : Nat} {xs : List PyData} (h : ∀ x ∈ xs, Sh n x) : Sh (n * xs.length + 2 * xs.length + 3) (.list xs) := by
  obtain ⟨h1, h2, h3⟩ := shw_all h
  refine ⟨by simp [PyData.showable, h1], by simp [PyData.hasDict, h2], ?_⟩
  have := listText_len_le (PyData.shownAll xs)
  rw [PyData.shownAll_length] at this
  show (PyData.list xs).shown.length ≤ _
  rw [PyData.shown_list, ← listText_eq_join]
  omega
theorem Sh.tuple {n : Nat} {xs : List PyData} (h : ∀ x ∈ xs, Sh n x) : Sh (n * xs.length + 2 * xs.length + 3) (.tuple xs) := by
  obtain ⟨h1, h2, h3⟩ := shw_all h
  refine ⟨by simp [PyData.showable, h1], by simp [PyData.hasDict, h2], ?_⟩
  have := tupleText_len_le (PyData.shownAll xs)
  rw [PyData.shownAll_length] at this
  have e : (PyData.tuple xs).shown = tupleText (PyData.shownAll xs) := by simp only [PyData.shown]
  rw [e]
  omega
theorem Sh.ints {m : Nat} {ns : List Int} (h : ∀ n ∈ ns, n.natAbs < 10 ^ 12) (hl : ns.length ≤ m) : Sh (15 * m + 3) (.list (ns.map PyData.int)) := by
  refine (Sh.list (n := 13) fun x hx => ?_).mono ?_
  · obtain ⟨n, hn, rfl⟩ := List.mem_map.mp hx
    exact Sh.int (h n hn)
  · rw [List.length_map]
    omega
theorem Sh.word {x : Str} (h : x = "pack" ∨ x = "many" ∨ x = "add") : Sh 13 (.str x) := by
  refine ⟨by simp [PyData.showable], by simp [PyData.hasDict], ?_⟩
  rw [PyData.shown_str]
  rcases h with rfl | rfl | rfl <;> decide +kernel
theorem Small.abs {ws : List Int} (h : Small ws) : ∀ n ∈ ws, n.natAbs < 10 ^ 12 := fun n hn => by
  have := h n hn
  omega
theorem sh_ofr {m : Nat} {os : List Ofr} {i : Nat} {o : Ofr} (h8 : os.length ≤ 8) (hm : m ≤ 4) (g : GoodO os i o) (f : FitO m o) (hi : i < 8) : Sh 1000 (dOfr o) := by
  have cts : ∀ {c : List Int}, c.length = m → Small c → Sh 200 (dInts c) := fun {c} hl sm => (Sh.ints (m := 4) sm.abs (by omega)).mono (by decide)
  have pr : ∀ {p : Int}, 0 ≤ p → p < 1000000000000 → Sh 200 (.int p) := fun {p} h0 h1 => (Sh.int (by omega)).mono (by decide)
  cases o with
  | pack c p =>
    obtain ⟨h1, h2, h3, h4⟩ := f
    refine (Sh.tuple (n := 200) fun x hx => ?_).mono (by show 200 * 3 + 2 * 3 + 3 ≤ 1000; decide)
    simp only [List.mem_cons, List.not_mem_nil, or_false] at hx
    rcases hx with rfl | rfl | rfl
    · exact (Sh.word (.inl rfl)).mono (by decide)
    · exact cts h1 h2
    · exact pr h3 h4
  | add c p k =>
    obtain ⟨h1, h2, h3, h4⟩ := f
    obtain ⟨j, ej, hj, _⟩ := g
    refine (Sh.tuple (n := 200) fun x hx => ?_).mono (by show 200 * 4 + 2 * 4 + 3 ≤ 1000; decide)
    simp only [List.mem_cons, List.not_mem_nil, or_false] at hx
    rcases hx with rfl | rfl | rfl | rfl
    · exact (Sh.word (.inr (.inr rfl))).mono (by decide)
    · exact cts h1 h2
    · exact pr h3 h4
    · exact pr (by omega) (by omega)
  | many c ts =>
    obtain ⟨h1, h2, h3⟩ := f
    have g' : GoodT ts := g
    have few := g'.few
    refine (Sh.tuple (n := 200) fun x hx => ?_).mono (by show 200 * 3 + 2 * 3 + 3 ≤ 1000; decide)
    simp only [List.mem_cons, List.not_mem_nil, or_false] at hx
    rcases hx with rfl | rfl | rfl
    · exact (Sh.word (.inr (.inl rfl))).mono (by decide)
    · exact cts h1 h2
    · refine (Sh.list (n := 40) fun x hx => ?_).mono ?_
      · obtain ⟨t, ht, rfl⟩ := List.mem_map.mp hx
        have p := h3 t ht
        have q := g'.most t ht
        have q1 := g'.ge1 t ht
        refine (Sh.tuple (n := 13) fun x hx => ?_).mono (by show 13 * 2 + 2 * 2 + 3 ≤ 40; decide)
        simp only [List.mem_cons, List.not_mem_nil, or_false] at hx
        rcases hx with rfl | rfl
        · exact Sh.int (by omega)
        · exact Sh.int (by omega)
      · rw [List.length_map]
        omega
theorem sh_shop {m : Nat} {os : List Ofr} (gd : Good os) (ft : FitS m os) (hm : m ≤ 4) : Sh 10000 (dShop os) := by
  have h8 := gd.1
  refine (Sh.list (n := 1000) fun x hx => ?_).mono ?_
  · obtain ⟨o, ho, rfl⟩ := List.mem_map.mp hx
    obtain ⟨i, hi, e⟩ := List.getElem_of_mem ho
    exact sh_ofr h8 hm (gd.2 i o (by rw [List.getElem?_eq_getElem hi, e])) (ft o ho) (by omega)
  · rw [List.length_map]
    omega
theorem LineOk.places8 {os : List Ofr} {l : Ln} (h8 : os.length ≤ 8) (h : LineOk os l) : (0 ≤ l.p ∧ l.p < 8 ∧ 1 ≤ l.c ∧ l.c ≤ 12) ∧ l.as.length ≤ 8 ∧ ∀ x ∈ l.as, 0 ≤ x ∧ x < 8 := by
  obtain ⟨p, ep, ways⟩ := h
  rcases ways with ⟨c, ts, w1, _, w2, w3, w4⟩ | ⟨c, pr, w1, w2, w3, w4⟩
  · have := (List.getElem?_eq_some_iff.mp w1).1
    exact ⟨⟨by omega, by omega, w2, w3⟩, by rw [w4]; decide, fun x hx => by rw [w4] at hx; cases hx⟩
  · have := (List.getElem?_eq_some_iff.mp w1).1
    refine ⟨⟨by omega, by omega, by omega, by omega⟩, w3, fun x hx => ?_⟩
    obtain ⟨j, rfl, _, _, _, hj⟩ := w4 x hx
    have := (List.getElem?_eq_some_iff.mp hj).1
    omega
theorem sh_line {os : List Ofr} {l : Ln} (h8 : os.length ≤ 8) (lk : LineOk os l) : Sh 1000 (dLine l) := by
  obtain ⟨h1, h2⟩ := lk.places8 h8
  refine (Sh.tuple (n := 200) fun x hx => ?_).mono (by show 200 * 3 + 2 * 3 + 3 ≤ 1000; decide)
  simp only [List.mem_cons, List.not_mem_nil, or_false] at hx
  rcases hx with rfl | rfl | rfl
  · exact (Sh.int (by omega)).mono (by decide)
  · exact (Sh.int (by omega)).mono (by decide)
  · exact (Sh.ints (m := 8) (fun n hn => by have := h2.2 n hn; omega) h2.1).mono (by decide)
/-! ### lines are in one order -/
theorem lt_line {a b : Ln} (h : lineLt a b) : PySem.W.dataLt (dLine a) (dLine b) = true := by
  unfold dLine
  rw [PySem.W.dataLt_tuple, PySem.W.dataLt_cons (by simp [PySem.W.alike]), PySem.W.dataLt_cons (by simp [PySem.W.alike]), PySem.W.dataLt_cons (by simp only [PySem.W.alike]; exact PySem.W.alike_ints _ _), PySem.W.dataLt_int, PySem.W.dataLt_int, PySem.W.dataLt_list]
  have e1 : ∀ x y : Int, PyData.eqv (.int x) (.int y) = decide (x = y) := fun x y => by
    rw [Bool.eq_iff_iff]
    simp [PyData.eqv]
  have e4 : PyProof.Rows.lexLt PyProof.Rows.itemOrd (PySem.W.keyToksAll (a.as.map PyData.int)) (PySem.W.keyToksAll (b.as.map PyData.int)) = decide (a.as < b.as) := PySem.W.dataLt_ints a.as b.as
  rw [e1, e1, eqv_ints, e4]
  rcases h with h | ⟨h1, h | ⟨h2, h3⟩⟩
  · rw [if_neg (by rw [decide_eq_true_eq]; omega), decide_eq_true h]
  · rw [if_pos (decide_eq_true h1), if_neg (by rw [decide_eq_true_eq]; omega), decide_eq_true h]
  · have ne : ¬ a.as = b.as := fun z => by rw [z] at h3; exact List.lt_irrefl _ h3
    rw [if_pos (decide_eq_true h1), if_pos (decide_eq_true h2), if_neg (by rw [decide_eq_true_eq]; exact ne), decide_eq_true h3]
theorem lineLt_tri (a b : Ln) : lineLt a b ∨ a = b ∨ lineLt b a := by
  unfold lineLt
  rcases Int.lt_trichotomy a.p b.p with h | h | h
  · exact .inl (.inl h)
  · rcases Int.lt_trichotomy a.c b.c with k | k | k
    · exact .inl (.inr ⟨h, .inl k⟩)
    · by_cases e : a.as = b.as
      · refine .inr (.inl ?_)
        obtain ⟨p, c, s⟩ := a
        obtain ⟨p', c', s'⟩ := b
        have h' : p = p' := h
        have k' : c = c' := k
        have e' : s = s' := e
        rw [h', k', e']
      · by_cases l : a.as < b.as
        · exact .inl (.inr ⟨h, .inr ⟨k, l⟩⟩)
        · refine .inr (.inr (.inr ⟨h.symm, .inr ⟨k.symm, ?_⟩⟩))
          have l' : b.as ≤ a.as := List.not_lt.mp l
          exact Classical.byContradiction fun z => e (List.le_antisymm (List.not_lt.mp z) l')
    · exact .inr (.inr (.inr ⟨h.symm, .inl k⟩))
  · exact .inr (.inr (.inl h))
theorem lineLt_trans {a b c : Ln} (h : lineLt a b) (k : lineLt b c) : lineLt a c := by
  unfold lineLt at *
  rcases h with h | ⟨h1, h⟩
  · rcases k with k | ⟨k1, _⟩
    · exact .inl (by omega)
    · exact .inl (by omega)
  · rcases k with k | ⟨k1, k⟩
    · exact .inl (by omega)
    · refine .inr ⟨by omega, ?_⟩
      rcases h with h | ⟨h2, h⟩
      · rcases k with k | ⟨k2, _⟩
        · exact .inl (by omega)
        · exact .inl (by omega)
      · rcases k with k | ⟨k2, k⟩
        · exact .inl (by omega)
        · exact .inr ⟨by omega, List.lt_trans h k⟩
theorem dataLe_line (a b : Ln) : PySem.W.dataLe false dLine a b = true ↔ ¬ lineLt b a := by
  show (!PySem.W.dataLt (dLine b) (dLine a)) = true ↔ _
  cases z : PySem.W.dataLt (dLine b) (dLine a) with
  | true => exact ⟨(fun h => by cases h), fun h => absurd (dataLt_line b a z) h⟩
  | false => exact ⟨(fun _ h => by rw [lt_line h] at z; cases z), fun _ => rfl⟩
theorem sorted_lines (ls : List Ln) : (ls.mergeSort (PySem.W.dataLe false dLine)).Pairwise fun a b => ¬ lineLt b a := by
  have h := List.pairwise_mergeSort (le := PySem.W.dataLe false dLine) (fun a b c h1 h2 => ?_) (fun a b => ?_) ls
  · exact h.imp fun {a b} z => (dataLe_line a b).mp z
  · rw [dataLe_line] at h1 h2 ⊢
    intro k
    rcases lineLt_tri a b with z | z | z
    · exact h2 (lineLt_trans k z)
    · rw [z] at k
      exact h2 k
    · exact h1 z
  · rw [Bool.or_eq_true, dataLe_line, dataLe_line]
    rcases lineLt_tri a b with z | z | z
    · exact .inl fun k => lineLt_asymm z k
    · exact .inl fun k => by rw [z] at k; exact lineLt_asymm k k
    · exact .inr fun k => lineLt_asymm z k
theorem perm_sumC {a b : List Rw} (h : a.Perm b) (i : Nat) : sumC a i = sumC b i := by
  induction h with
  | nil => rfl
  | cons x _ ih => rw [sumC_cons, sumC_cons, ih]
  | swap x y l => rw [sumC_cons, sumC_cons, sumC_cons, sumC_cons]; omega
  | trans _ _ h1 h2 => rw [h1, h2]
theorem perm_cost {a b : List Rw} (h : a.Perm b) : costM a = costM b := by
  induction h with
  | nil => rfl
  | cons x _ ih => rw [costM_cons, costM_cons, ih]
  | swap x y l => rw [costM_cons, costM_cons, costM_cons, costM_cons]; omega
  | trans _ _ h1 h2 => rw [h1, h2]
/-- places in a strict row -/
theorem strict_at {L : List Ln} (h : L.Pairwise lineLt) {i j : Nat} {a b : Ln} (ha : L[i]? = some a) (hb : L[j]? = some b) (n : ¬ lineLt b a) : i ≤ j := by
  rcases Nat.lt_or_ge j i with z | z
  · obtain ⟨h1, e1⟩ := List.getElem?_eq_some_iff.mp ha
    obtain ⟨h2, e2⟩ := List.getElem?_eq_some_iff.mp hb
    have := List.pairwise_iff_getElem.mp h j i h2 h1 z
    rw [e1, e2] at this
    exact absurd this n
  · exact z
/-! ### more rules at a written K -/
section
variable {X : Cx} {K : PySem.W.Frag}
theorem op_in_seqK (h : X.K = K) : OpR X (compareOp .In) (rIn K false) := by subst h; exact op_in_seq
theorem op_notIn_seqK (h : X.K = K) : OpR X (compareOp .NotIn) (rIn K true) := by subst h; exact op_notIn_seq
theorem mt_indexK (h : X.K = K) : MtR X "list.index" (rIndex K) := by subst h; exact mt_index
theorem pe_bmK {o e : Expr} {es : List Expr} {to : TE} {t : TA} {name : Str} {apos cpos : Pos} {T id : String} {r : V → List V → Hp → VK → Prop} (hK : X.K = K) (pa : PlainAttrs T) (slot : Slot T name id) (ty : typeOf (.builtin id) = pure (.type "method_descriptor")) (rule : MtR X id r) (ho : PE X o to) (ha : PA X (e :: es) t)
    (hbase : attributeBase o name X.env (eval o X.env) = eval o X.env := by rfl) (hfew : ((backTo cpos (starEach (e :: es) X.env)).all (fun x => !x.1) && (backToKw cpos (keywordEach [] X.env)).all (fun x => x.1.isSome) && decide ((e :: es).length + ([] : List Keyword).length + (if ([] : List Keyword).isEmpty then 0 else 1) < 30)) = true := by rfl)
    (hline : (apos.endLine == cpos.line) = true := by rfl) (hst : starEach (e :: es) X.env = (false, eval e X.env) :: starEach es X.env := by rfl) (hpl : (backTo cpos (starEach es X.env)).any (·.1) = false := by rfl) : PE X (.Call (.Attribute o name apos) (e :: es) [] cpos) (tBM K T r to t) := by
  subst hK
  exact pe_bm pa slot ty rule ho ha hbase hfew hline hst hpl
end
/-! ### contents reversed, offers popped -/
theorem Al.take {α : Type} {R : Addr → α → Prop} : ∀ {as : List Addr} {xs : List α} (n : Nat), Al R as xs → Al R (as.take n) (xs.take n)
  | _, _, 0, _ => True.intro
  | [], [], _ + 1, _ => True.intro
  | [], _ :: _, _, h => h.elim
  | _ :: _, [], _, h => h.elim
  | _ :: _, _ :: _, n + 1, h => ⟨h.1, Al.take n h.2⟩
/-- all but the last -/
theorem cut_but (l : List V) : cutV l none (some (-1)) = l.dropLast := by
  unfold cutV
  have e : HT.sIx l.length l.length (some (-1)) = l.length - 1 := by
    show (if (-1 : Int) < 0 then ((-1 : Int) + (l.length : Int)).toNat else min (-1 : Int).toNat l.length) = _
    rw [if_pos (by decide)]
    omega
  rw [e, HT.sIx_none, List.drop_zero, Nat.sub_zero, List.dropLast_eq_take]
/-- the last one, if there is one -/
theorem cut_last (l : List V) : (cutV l (some (-1)) none).length = min 1 l.length := by
  unfold cutV
  have e : HT.sIx l.length 0 (some (-1)) = l.length - 1 := by
    show (if (-1 : Int) < 0 then ((-1 : Int) + (l.length : Int)).toNat else min (-1 : Int).toNat l.length) = _
    rw [if_pos (by decide)]
    omega
  rw [e, HT.sIx_none, List.length_take, List.length_drop]
  omega
/-- the offer with another content -/
def Ofr.put : Ofr → List Int → Ofr
  | .pack _ p, c => .pack c p
  | .many _ ts, c => .many c ts
  | .add _ p k, c => .add c p k
theorem Ofr.put_self : ∀ o : Ofr, o.put o.cont = o
  | .pack _ _ => rfl
  | .many _ _ => rfl
  | .add _ _ _ => rfl
def Lk : List Ofr → List Ofr → Prop
  | [], [] => True
  | o :: r, o' :: r' => (∃ c, o' = o.put c) ∧ Lk r r'
  | _, _ => False
theorem Lk.len : ∀ {os os' : List Ofr}, Lk os os' → os'.length = os.length
  | [], [], _ => rfl
  | [], _ :: _, h => h.elim
  | _ :: _, [], h => h.elim
  | _ :: _, _ :: _, h => by rw [List.length_cons, List.length_cons, Lk.len h.2]
theorem Lk.get : ∀ {os os' : List Ofr} {i : Nat} {o : Ofr}, Lk os os' → os[i]? = some o → ∃ c, os'[i]? = some (o.put c)
  | [], [], _, _, _, h => by cases h
  | [], _ :: _, _, _, h, _ => h.elim
  | _ :: _, [], _, _, h, _ => h.elim
  | o :: _, _ :: _, 0, _, ⟨⟨c, e⟩, _⟩, h => by
    cases Option.some.inj h
    exact ⟨c, by rw [e]; rfl⟩
  | _ :: _, _ :: _, i + 1, _, h, g => Lk.get (i := i) h.2 g
theorem Lk.good {os os' : List Ofr} (l : Lk os os') (g : Good os) : Good os' := by
  refine ⟨by rw [l.len]; exact g.1, fun i o' ho' => ?_⟩
  have hi : i < os.length := by rw [← l.len]; exact (List.getElem?_eq_some_iff.mp ho').1
  obtain ⟨c, hc⟩ := l.get (List.getElem?_eq_getElem hi)
  cases Option.some.inj (hc.symm.trans ho')
  have h := g.2 i _ (List.getElem?_eq_getElem hi)
  generalize os[i] = o at h
  match o, h with
  | .pack _ _, _ => exact True.intro
  | .many _ _, h => exact h
  | .add _ _ _, ⟨j, e, hj, c', p', h'⟩ =>
    obtain ⟨c2, h2⟩ := l.get h'
    exact ⟨j, e, hj, c2, p', h2⟩
theorem good_take {os : List Ofr} (g : Good os) (n : Nat) : Good (os.take n) := by
  refine ⟨by rw [List.length_take]; have := g.1; omega, fun i o ho => ?_⟩
  rw [List.getElem?_take] at ho
  by_cases z : i < n
  · rw [if_pos z] at ho
    have h := g.2 i o ho
    match o, h with
    | .pack _ _, _ => exact True.intro
    | .many _ _, h => exact h
    | .add _ _ _, ⟨j, e, hj, c', p', h'⟩ => exact ⟨j, e, hj, c', p', by rw [List.getElem?_take, if_pos (by omega)]; exact h'⟩
  · rw [if_neg z] at ho
    cases ho
theorem fit_take {m : Nat} {os : List Ofr} (f : FitS m os) (n : Nat) : FitS m (os.take n) := fun o ho => f o (List.mem_of_mem_take ho)
theorem small_rev {c : List Int} (h : Small c) : Small c.reverse := fun x hx => h x (List.mem_reverse.mp hx)
section
variable {H H1 : Hp} {b : Addr} {c : List Int} {m : Nat}
theorem rev_ofr (hb : H b = some (LI c)) (h1 : H1 b = some (LI c.reverse)) (ne : ∀ a, a ≠ b → H1 a = H a) {v : Addr} : ∀ {o : Ofr}, OfrAt H v o → FitO m o → (∀ c ts, o = .many c ts → 1 ≤ ts.length) → ∃ o', OfrAt H1 v o' ∧ FitO m o' ∧ ∃ c, o' = o.put c := by
  have nt : ∀ {a : Addr} {xs : List V}, H a = some (.tup xs) → H1 a = some (.tup xs) := fun {a xs} h => by
    rw [ne a fun z => by rw [z, hb] at h; cases h]
    exact h
  have key : ∀ {x : Addr} {c0 : List Int}, H x = some (LI c0) → c0.length = m → Small c0 → ∃ c', H1 x = some (LI c') ∧ c'.length = m ∧ Small c' := fun {x c0} h hl hs => by
    by_cases z : x = b
    · rw [z] at h ⊢
      have e : c0 = c := by
        have h2 := h.symm.trans hb
        injection h2 with h3
        injection h3 with h4
        exact (List.map_inj_right fun a b e => V.int.inj e).mp h4
      subst e
      exact ⟨_, h1, by rw [List.length_reverse]; exact hl, small_rev hs⟩
    · exact ⟨c0, by rw [ne x z]; exact h, hl, hs⟩
  intro o h f g
  match o, h, f with
  | .pack c0 p, ⟨x, g1, g2⟩, ⟨f1, f2, f3, f4⟩ =>
    obtain ⟨c', k1, k2, k3⟩ := key g2 f1 f2
    exact ⟨.pack c' p, ⟨x, nt g1, k1⟩, ⟨k2, k3, f3, f4⟩, c', rfl⟩
  | .add c0 p k, ⟨x, g1, g2⟩, ⟨f1, f2, f3, f4⟩ =>
    obtain ⟨c', k1, k2, k3⟩ := key g2 f1 f2
    exact ⟨.add c' p k, ⟨x, nt g1, k1⟩, ⟨k2, k3, f3, f4⟩, c', rfl⟩
  | .many c0 ts, ⟨x, t, g1, g2, us, t1, t2, t3⟩, ⟨f1, f2, f3⟩ =>
    obtain ⟨c', k1, k2, k3⟩ := key g2 f1 f2
    have n1 := g _ _ rfl
    have tb : t ≠ b := fun z => by
      rw [z, hb] at t1
      injection t1 with t1
      injection t1 with t1
      cases us with
      | nil => rw [List.length_nil] at t2; omega
      | cons u r => cases c with
        | nil => cases t1
        | cons y q => injection t1 with e _; cases e
    exact ⟨.many c' ts, ⟨x, t, nt g1, k1, us, by rw [ne t tb]; exact t1, t2, fun i u t' a b' => nt (t3 i u t' a b')⟩, ⟨k2, k3, f3⟩, c', rfl⟩
theorem rev_ofrs (hb : H b = some (LI c)) (h1 : H1 b = some (LI c.reverse)) (ne : ∀ a, a ≠ b → H1 a = H a) : ∀ {vs : List Addr} {os : List Ofr}, Al (OfrAt H) vs os → FitS m os → (∀ o ∈ os, ∀ c ts, o = .many c ts → 1 ≤ ts.length) → ∃ os', Al (OfrAt H1) vs os' ∧ FitS m os' ∧ Lk os os'
  | [], [], _, _, _ => ⟨[], True.intro, (fun o h => nomatch h), True.intro⟩
  | [], _ :: _, h, _, _ => h.elim
  | _ :: _, [], h, _, _ => h.elim
  | v :: vs, o :: os, h, f, g => by
    obtain ⟨o', a1, a2, a3⟩ := rev_ofr hb h1 ne h.1 (f o List.mem_cons_self) (g o List.mem_cons_self)
    obtain ⟨os', b1, b2, b3⟩ := rev_ofrs hb h1 ne h.2 (fun x hx => f x (List.mem_cons_of_mem _ hx)) (fun x hx => g x (List.mem_cons_of_mem _ hx))
    refine ⟨o' :: os', ⟨a1, b1⟩, fun x hx => ?_, a3, b3⟩
    rcases List.mem_cons.mp hx with rfl | hx
    · exact a2
    · exact b2 x hx
end
theorem good_tiers_pos {os : List Ofr} (g : Good os) : ∀ o ∈ os, ∀ c ts, o = .many c ts → 1 ≤ ts.length := fun o ho c ts e => by
  subst e
  obtain ⟨i, hi, e⟩ := List.getElem_of_mem ho
  have h : GoodO os i (.many c ts) := g.2 i _ (by rw [List.getElem?_eq_getElem hi, e])
  exact GoodT.pos h
theorem refs_ints {us : List Addr} {c : List Int} (h : us.map V.ref = c.map V.int) : us = [] ∧ c = [] := by
  cases us with
  | nil => cases c with
    | nil => exact ⟨rfl, rfl⟩
    | cons _ _ => cases h
  | cons _ _ => cases c with
    | nil => cases h
    | cons _ _ => injection h with e _; cases e
theorem tb_lst {T : List Addr} {H : Hp} {b : Addr} {xs ys : List V} (h : Tb T H) (hb : H b = some (.lst xs)) : Tb T (upd H b (.lst ys)) := tb_but (SameBut.upd (a := b)) hb h
theorem Al.impM' {R R' : Addr → Ofr → Prop} {m : Nat} (f : ∀ v o, R v o → FitO m o → (∀ c ts, o = .many c ts → 1 ≤ ts.length) → R' v o) : ∀ {vs : List Addr} {os : List Ofr}, FitS m os → (∀ o ∈ os, ∀ c ts, o = .many c ts → 1 ≤ ts.length) → Al R vs os → Al R' vs os
  | [], [], _, _, _ => True.intro
  | [], _ :: _, _, _, h => h.elim
  | _ :: _, [], _, _, h => h.elim
  | v :: vs, o :: os, ft, g, h => ⟨f v o h.1 (ft o List.mem_cons_self) (g o List.mem_cons_self), Al.impM' f (fun x hx => ft x (List.mem_cons_of_mem _ hx)) (fun x hx => g x (List.mem_cons_of_mem _ hx)) h.2⟩
theorem ofr_but {H H1 : Hp} {S : Addr} {us : List Addr} {os : List Ofr} (hS : H S = some (.lst (us.map V.ref))) (al : Al (OfrAt H) us os) (sb : SameBut S H H1) {v : Addr} : ∀ {o : Ofr}, OfrAt H v o → 1 ≤ o.cont.length → (∀ c ts, o = .many c ts → 1 ≤ ts.length) → OfrAt H1 v o := by
  have nt : ∀ {a : Addr} {xs : List V}, H a = some (.tup xs) → H1 a = some (.tup xs) := fun {a xs} h => sb _ _ (fun z => by rw [z, hS] at h; cases h) h
  have nc : ∀ {x : Addr} {c0 : List Int}, H x = some (LI c0) → 1 ≤ c0.length → H1 x = some (LI c0) := fun {x c0} h hl => sb _ _ (fun z => by
    rw [z, hS] at h
    injection h with h
    injection h with h
    rw [(refs_ints h).2, List.length_nil] at hl
    omega) h
  intro o h f g
  match o, h, f with
  | .pack c0 p, ⟨x, g1, g2⟩, f => exact ⟨x, nt g1, nc g2 f⟩
  | .add c0 p k, ⟨x, g1, g2⟩, f => exact ⟨x, nt g1, nc g2 f⟩
  | .many c0 ts, ⟨x, t, g1, g2, ws, t1, t2, t3⟩, f =>
    have n1 := g _ _ rfl
    refine ⟨x, t, nt g1, nc g2 f, ws, sb _ _ (fun z => ?_) t1, t2, fun i u t' a b' => nt (t3 i u t' a b')⟩
    rw [z, hS] at t1
    injection t1 with t1
    injection t1 with t1
    have e : us = ws := (List.map_inj_right fun a b e => V.ref.inj e).mp t1
    subst e
    have h0 : 0 < us.length := by omega
    obtain ⟨o0, _, ho0⟩ := al.get (List.getElem?_eq_getElem h0)
    obtain ⟨b, r, k1, _⟩ := ho0.head
    have k2 := t3 0 _ _ (List.getElem?_eq_getElem h0) (List.getElem?_eq_getElem (by omega))
    rw [k1] at k2
    injection k2 with k2
    injection k2 with k2
    injection k2 with k2 _
    cases k2
/-! ### what stands while contents are turned about -/
structure Bh2 (T : List Addr) (S d : Addr) (m : Nat) (vs : List Addr) (ds : List V) (H : Hp) : Prop where
  sh : ∃ os, Al (OfrAt (cutH d H)) vs os ∧ Good os ∧ FitS m os
  s : cutH d H S = some (.lst (vs.map V.ref))
  t : Tb T H
  d : H d = some (.lst ds)
section
variable {P : Program} {w : World} {K : PySem.W.Frag} {mg : Str → Option Value} {base : Heap} {T : List Addr}
theorem Bh2.step {S d b : Addr} {m : Nat} {vs : List Addr} {ds : List V} {H : Hp} {c : List Int} (h : Bh2 T S d m vs ds H) (hb : cutH d H b = some (LI c)) (hl : c.length = m) (hm : 1 ≤ m) : Bh2 T S d m vs ds (upd H b (LI c.reverse)) := by
  obtain ⟨⟨os, al, gd, ft⟩, hs, ht, hd⟩ := h
  obtain ⟨nb, hb'⟩ := cut_some hb
  have cu : ∀ a, a ≠ b → cutH d (upd H b (LI c.reverse)) a = cutH d H a := fun a n => by
    by_cases z : a = d
    · unfold cutH
      rw [if_pos z, if_pos z]
    · rw [cut_at z, cut_at z, upd_ne n]
  obtain ⟨os', al', ft', lk⟩ := rev_ofrs (H1 := cutH d (upd H b (LI c.reverse))) hb (by rw [cut_at nb, upd_same]) cu al ft (good_tiers_pos gd)
  refine ⟨⟨os', al', lk.good gd, ft'⟩, ?_, tb_lst ht hb', by rw [upd_ne nb.symm]; exact hd⟩
  rw [cu S fun z => ?_]
  · exact hs
  · rw [z, hb] at hs
    injection hs with hs
    injection hs with hs
    have := (refs_ints hs.symm).2
    rw [this, List.length_nil] at hl
    omega
end
/-! ### xs.count(y) of data -/
def rCntD (K : PySem.W.Frag) : V → List V → Hp → VK → Prop := fun x xs H Q => ∃ (a : Addr) (y : V) (d : PyData) (ds : List PyData), x = .ref a ∧ xs = [y] ∧ Dp K H (.ref a) (.list ds) ∧ Dp K H y d ∧ SeqAt.shaped (.list ds) = true ∧ SeqAt.shaped d = true ∧ Q (.int (ds.countP fun z => PyData.eqv z d : Nat)) H
theorem mt_countD {X : Cx} (room : X.A.units + 65 < cLine) : MtR X "list.count" (rCntD X.K) := by
  intro pins s σ H x xs v us Q I rx rxs h
  obtain ⟨a, y, d, ds, rfl, rfl, dl, dy, okl, oky, q⟩ := h
  cases rx
  obtain ⟨uy, rfl, ry⟩ := rxs.one
  obtain ⟨bs, ry'⟩ := Dp.reads I d y uy dy ry
  have lay : PyData.canLayAll0 ds = true := SeqAt.canLay_of_shaped okl
  cases dl with
  | lst hs ha =>
    obtain ⟨its, rv, ⟨⟨cls, dd, data, sl⟩, n, ho, hc, hdn, hdt⟩, _⟩ := I.list hs
    simp only at hc hdt
    subst hc hdt
    obtain ⟨as, rall⟩ := Dp.readsAll I ds _ its ha rv
    have em : its.map (SeqAt.readOf s.heap) = ds := SeqAt.readsAll_map ds its as lay rall
    have ec : its.toArray.toList.countP (fun u => PyData.eqv (SeqAt.readOf s.heap u) d) = ds.countP fun z => PyData.eqv z d := by
      rw [← em, List.countP_map]
      rfl
    refine call_meets PySem.F.slot_list_count ⟨_, ho, rfl⟩ PySem.F.entry_list_count (PySem.F.args_list_count_2 _ _) (SeqAt.list_countAt a its.toArray n dd sl uy fun u => PyData.eqv (SeqAt.readOf s.heap u) d) ⟨ho, SeqAt.items_eqAt (vs := its.toArray) rall ry' lay (SeqAt.canLay_of_shaped oky) (room_in_shaped oky room), ?_⟩
    refine ⟨.int (ds.countP fun z => PyData.eqv z d : Nat), H, I.tok _, ⟨s.toks, ?_⟩, q⟩
    rw [ec]
theorem mt_countDK {X : Cx} {K : PySem.W.Frag} (h : X.K = K) (room : X.A.units + 65 < cLine) : MtR X "list.count" (rCntD K) := by subst h; exact mt_countD room
/-! ### what thinned and _law_due tell, as data -/
theorem mt_lcountK {X : Cx} {K : PySem.W.Frag} (h : X.K = K) : MtR X "list.count" (rCntI K) := by subst h; exact mt_lcount
theorem room65 {A : Around} {k : Nat} (hr : Room k A) : A.units + 65 < cLine := by have := hr.un; omega
theorem depth_shop (os : List Ofr) : (dShop os).depth ≤ 59 := by
  have h1 := depth_ofrs os
  simp only [PyData.depth]
  omega
theorem shop_ke {H H' : Hp} {S : Addr} {os : List Ofr} (k : Ke H H') (h : ShopAt H S os) : ShopAt H' S os := by
  obtain ⟨vs, h1, al⟩ := h.al
  exact ShopAt.of_al (k.lst h1) (al.imp fun _ _ h => h.ke k)
theorem al_map {α β : Type} {R : Addr → β → Prop} {f : α → β} : ∀ {as : List Addr} {xs : List α}, Al (fun a x => R a (f x)) as xs → Al R as (xs.map f)
  | [], [], _ => True.intro
  | [], _ :: _, h => h.elim
  | _ :: _, [], h => h.elim
  | _ :: _, _ :: _, h => ⟨h.1, al_map h.2⟩
noncomputable abbrev dDue (os : List Ofr) : PyData := .tuple [dShop (thinM os os.length).2, dInts (natI (thinM os os.length).1)]
structure DueAt (os : List Ofr) (H : Hp) (z q pl : Addr) : Prop where
  hz : H z = some (.tup [.ref q, .ref pl])
  hq : ShopAt H q (thinM os os.length).2
  hp : H pl = some (LI (natI (thinM os os.length).1))
theorem DueAt.ke {os : List Ofr} {H H' : Hp} {z q pl : Addr} (k : Ke H H') (h : DueAt os H z q pl) : DueAt os H' z q pl := ⟨k.tup h.hz, shop_ke k h.hq, k.lst h.hp⟩
theorem DueAt.dp {K : PySem.W.Frag} {os : List Ofr} {H : Hp} {z q pl : Addr} (h : DueAt os H z q pl) : Dp K H (.ref z) (dDue os) := .tup (SqT.of h.hz) (.cons h.hq.dp (.cons (dp_ints (SqL.of h.hp)) .nil))
theorem ThinAt.due {os : List Ofr} {H0 H : Hp} {z q pl : Addr} {rs : List Addr} {es : List Tof} (h : ThinAt os H0 H z q pl rs es) : DueAt os H z q pl := by
  refine ⟨h.hz, ShopAt.of_al h.hq ?_, h.hp⟩
  rw [← h.eo]
  exact al_map (h.al.imp fun _ _ h => h.ofr)
theorem ThinAt.ke {os : List Ofr} {H0 H H' : Hp} {z q pl : Addr} {rs : List Addr} {es : List Tof} (k : Ke H H') (h : ThinAt os H0 H z q pl rs es) : ThinAt os H0 H' z q pl rs es :=
  ⟨k.tup h.hz, k.lst h.hq, k.lst h.hp, h.al.imp fun _ _ x => x.ke k, h.eo, h.nd, h.nq, h.np, h.nz⟩
theorem ThinAt.cut {os : List Ofr} {H0 H : Hp} {d z q pl : Addr} {ys : List V} {rs : List Addr} {es : List Tof} (hd : H0 d ≠ none) (hl : H d = some (.lst ys)) (h : ThinAt os H0 H z q pl rs es) : ThinAt os H0 (cutH d H) z q pl rs es := by
  have ne : ∀ {x}, H0 x = none → x ≠ d := fun {x} h z => hd (by rw [← z]; exact h)
  exact ⟨cut_put (ne h.nz) h.hz, cut_put (ne h.nq) h.hq, cut_put (ne h.np) h.hp, h.al.imp fun _ _ x => x.cut hd hl, h.eo, h.nd, h.nq, h.np, h.nz⟩
section
variable {os : List Ofr} {m : Nat}
theorem due_few (gd : Good os) (ft : FitS m os) : (thinM os os.length).1.length ≤ 8 ∧ ∀ a ∈ (thinM os os.length).1, a < 8 := by
  obtain ⟨xs, I⟩ := thin_ok gd ft os.length (Nat.le_refl _)
  refine ⟨by rw [I.len]; exact I.gd.1, fun a ha => ?_⟩
  obtain ⟨k, hk⟩ := List.getElem?_of_mem ha
  obtain ⟨o, _, h, _⟩ := I.sub k a hk
  have := (List.getElem?_eq_some_iff.mp h).1
  have := gd.1
  omega
theorem sh_due (gd : Good os) (ft : FitS m os) (hm : m ≤ 4) : Sh 30000 (dDue os) := by
  obtain ⟨xs, I⟩ := thin_ok gd ft os.length (Nat.le_refl _)
  obtain ⟨l8, a8⟩ := due_few gd ft
  refine (Sh.tuple (n := 10000) fun y hy => ?_).mono (by show 10000 * 2 + 2 * 2 + 3 ≤ 30000; decide)
  simp only [List.mem_cons, List.not_mem_nil, or_false] at hy
  rcases hy with rfl | rfl
  · exact sh_shop I.gd I.ft hm
  · refine (Sh.ints (m := 8) (fun x hx => ?_) (by rw [List.length_map]; exact l8)).mono (by decide)
    obtain ⟨i, hi, rfl⟩ := List.mem_map.mp hx
    have := a8 i hi
    omega
theorem depth_due (os : List Ofr) : (dDue os).depth ≤ 60 := by
  have h1 := depth_ofrs (thinM os os.length).2
  have h2 := depth_ints (natI (thinM os os.length).1)
  simp only [PyData.depth, PyData.depthAll, h2]
  omega
theorem due_len (gd : Good os) (ft : FitS m os) (hm : m ≤ 4) : (dDue os).shown.length ≤ sizeLine := Nat.le_trans (sh_due gd ft hm).len (by decide)
theorem no_spares (gd : Good os) (ft : FitS m os) (n : Nat) : sparesM (thinM os os.length).2 n = [] := by
  obtain ⟨xs, I⟩ := thin_ok gd ft os.length (Nat.le_refl _)
  have h := I.ns
  rw [Nat.sub_self] at h
  induction n with
  | zero => rfl
  | succ n ih => rw [spares_no (h n (Nat.zero_le _)), ih]
end
/-! ### lists lengthened by the asker -/
def PlainT (H : Hp) (e : Tof) : Prop := H e.b = some (LI e.o.cont) ∧ ∀ c ts, e.o = .many c ts → H e.t = some (.lst (e.us.map V.ref))
def MarkT (H : Hp) (e : Tof) : Prop := H e.b = some (LI (e.o.cont ++ [99])) ∧ ∀ c ts, e.o = .many c ts → H e.t = some (.lst (e.us.map V.ref ++ [.int 0]))
theorem own_b (e : Tof) : e.b ∈ e.own := by
  unfold Tof.own
  split <;> exact List.mem_cons_self
theorem own_t {e : Tof} {c : List Int} {ts : List (Int × Int)} (h : e.o = .many c ts) : e.t ∈ e.own := by
  unfold Tof.own
  rw [h]
  exact List.mem_cons_of_mem _ List.mem_cons_self
theorem TofAt.head {H0 H : Hp} {r : Addr} {e : Tof} (h : TofAt H0 H r e) : ∃ rr, H r = some (.tup (.str e.o.word :: .ref e.b :: rr)) := by
  obtain ⟨h1, h2, h3, h4⟩ := h
  obtain ⟨b, t, us, o⟩ := e
  cases o with
  | pack c p => exact ⟨_, h4⟩
  | add c p x => exact ⟨_, h4⟩
  | many c ts => exact ⟨_, h4.1⟩
theorem TofAt.plain {H0 H : Hp} {r : Addr} {e : Tof} (h : TofAt H0 H r e) : PlainT H e := by
  obtain ⟨h1, h2, h3, h4⟩ := h
  refine ⟨h3, fun c ts he => ?_⟩
  rw [he] at h4
  exact h4.2.2.1
theorem PlainT.of {H H' : Hp} {e : Tof} (h : PlainT H e) (f : ∀ b ∈ e.own, H' b = H b) : PlainT H' e := ⟨by rw [f _ (own_b e)]; exact h.1, fun c ts he => by rw [f _ (own_t he)]; exact h.2 c ts he⟩
theorem MarkT.of {H H' : Hp} {e : Tof} (h : MarkT H e) (f : ∀ b ∈ e.own, H' b = H b) : MarkT H' e := ⟨by rw [f _ (own_b e)]; exact h.1, fun c ts he => by rw [f _ (own_t he)]; exact h.2 c ts he⟩
theorem own_apart {es : List Tof} (nd : (es.flatMap Tof.own).Nodup) {i j : Nat} {e e' : Tof} (hij : i ≠ j) (h1 : es[i]? = some e) (h2 : es[j]? = some e') : ∀ b ∈ e'.own, b ∉ e.own := by
  have pw := List.pairwise_flatMap.mp nd
  have key : ∀ {i j : Nat} {e e' : Tof}, i < j → es[i]? = some e → es[j]? = some e' → ∀ b ∈ e'.own, b ∉ e.own := fun {i j e e'} hij h1 h2 b hb hb' => by
    obtain ⟨hi, e1⟩ := List.getElem?_eq_some_iff.mp h1
    obtain ⟨hj, e2⟩ := List.getElem?_eq_some_iff.mp h2
    exact List.pairwise_iff_getElem.mp pw.2 i j hi hj hij b (by rw [e1]; exact hb') b (by rw [e2]; exact hb) rfl
  rcases Nat.lt_or_gt_of_ne hij with z | z
  · exact key z h1 h2
  · exact fun b hb hb' => key z h2 h1 b hb' hb
theorem count_mark {c : List Int} (h : Small c) : (c ++ [99]).count 99 = 1 := by
  rw [List.count_append, List.count_eq_zero.mpr fun z => by have := h _ z; omega]
  rfl
theorem count_tier {ts : List (Int × Int)} : (ts.map dTier ++ [PyData.int 0]).countP (fun z => PyData.eqv z (.int 0)) = 1 := by
  rw [List.countP_append, List.countP_eq_zero.mpr fun z hz => by
    obtain ⟨t, _, rfl⟩ := List.mem_map.mp hz
    exact fun h => by cases h]
  rfl
theorem dpAll_app {K : PySem.W.Frag} {H : Hp} : ∀ {xs ys : List V} {as bs : List PyData}, DpAll K H xs as → DpAll K H ys bs → DpAll K H (xs ++ ys) (as ++ bs)
  | [], _, _, _, .nil, h => h
  | _ :: _, _, _, _, .cons a r, h => .cons a (dpAll_app r h)
theorem shaped_tier0 (ts : List (Int × Int)) : SeqAt.shaped (.list (ts.map dTier ++ [PyData.int 0])) = true := by
  have lay : ∀ ts : List (Int × Int), PyData.canLayAll0 (ts.map dTier ++ [PyData.int 0]) = true := fun ts => by
    induction ts with
    | nil => simp [PyData.canLayAll0, PyData.canLay0]
    | cons t r ih => simp [PyData.canLayAll0, dTier, PyData.canLay0]; simpa using ih
  have dep : ∀ ts : List (Int × Int), PyData.depthAll (ts.map dTier ++ [PyData.int 0]) ≤ 2 := fun ts => by
    induction ts with
    | nil => simp [PyData.depthAll, PyData.depth]
    | cons t r ih =>
      simp only [List.map_cons, List.cons_append, PyData.depthAll, dTier, PyData.depth]
      omega
  unfold SeqAt.shaped
  have h1 : PyData.canLay0 (.list (ts.map dTier ++ [PyData.int 0])) = true := by
    simp only [PyData.canLay0]
    exact lay ts
  have h2 : PyData.depth (.list (ts.map dTier ++ [PyData.int 0])) ≤ 64 := by
    have := dep ts
    simp only [PyData.depth]
    omega
  rw [h1, decide_eq_true h2]
  rfl
-- used defs only
/-! ### the law -/
abbrev s_law : Stmt := topS 52
abbrev N_law : List Str := ["_law_script", "_law_draws_here", "_law_many", "_law_shop", "_law_kept", "_law_due_here", "_law_found", "_law_turn", "_law_offer", "_law_early", "_law_want_here"]
theorem sc_law : FnScope N_law ["_law_script"] (defScope s_law) := ⟨rfl, rfl, rfl, by decide +kernel, rfl, by decide +kernel, by decide +kernel⟩

def sp_law (K : PySem.W.Frag) (t1 t2 : Addr) : Sp := fun vs H Q _ => ∃ (a : Addr) (ns : List Int), vs = [.ref a] ∧ SqL K H a (ns.map V.int) ∧ ns.length ≤ 63 ∧ GxR.TabG H t1 ∧ GxR.TabG H t2 ∧ ∀ H', Q (.bl true) H'
/-- what stands between the calls -/
structure Ls (T : List Addr) (d : Addr) (H6 H : Hp) : Prop where
  ke : Ke (cutH d H6) (cutH d H)
  tb : Tb T H
  hd : ∃ ds, H d = some (LI ds)
theorem Ls.ext {T : List Addr} {d : Addr} {H6 H H' : Hp} (h : Ls T d H6 H) (e : Ext T H H') : Ls T d H6 H' := ⟨h.ke.trans e.ke.cut, e.t1, by obtain ⟨ds, h⟩ := h.hd; exact ⟨ds, e.lst h⟩⟩
theorem Ls.same {T : List Addr} {d : Addr} {H6 H H' : Hp} (h : Ls T d H6 H) (s : Same H H') : Ls T d H6 H' := h.ext (.same s h.tb)
section
variable {P : Program} {w : World} {K : PySem.W.Frag} {mg : Str → Option Value} {base : Heap}
theorem ok_law {f f_names_pack f_good_tiers f_can_stand f_look f_adds_to f_choices f_lines_at f_lines f_together f_content_of f_piece_price f_price_of f_priced_lines f_had f_rest f_lesser f_best_step f_all_steps f_cheapest f_least f_without f_instead f_spared f_offer_left f_thinned f_law_mix f_law_draws f_law_pop f_law_cut f_law_content f_law_want f_law_groups f_law_sum f_law_lines f_law_lesser f_law_rest f_law_table f_law_packs f_law_alone f_law_without f_law_due f_law_number c1 t1 c2 t2 : Addr} {fd fd_names_pack fd_good_tiers fd_can_stand fd_look fd_adds_to fd_choices fd_lines_at fd_lines fd_together fd_content_of fd_piece_price fd_price_of fd_priced_lines fd_had fd_rest fd_lesser fd_best_step fd_all_steps fd_cheapest fd_least fd_without fd_instead fd_spared fd_offer_left fd_thinned fd_law_mix fd_law_draws fd_law_pop fd_law_cut fd_law_content fd_law_want fd_law_groups fd_law_sum fd_law_lines fd_law_lesser fd_law_rest fd_law_table fd_law_packs fd_law_alone fd_law_without fd_law_due fd_law_number : FuncData} (M : Names mg) (D : Def K mg "law" s_law ["_law_script"] f fd)
    (D_names_pack : Def K mg "names_pack" s_names_pack ["shop", "at"] f_names_pack fd_names_pack)
    (D_good_tiers : Def K mg "good_tiers" s_good_tiers ["tiers"] f_good_tiers fd_good_tiers)
    (D_can_stand : Def K mg "can_stand" s_can_stand ["shop", "at"] f_can_stand fd_can_stand)
    (D_look : Def K mg "look" s_look ["shop"] f_look fd_look)
    (D_adds_to : Def K mg "adds_to" s_adds_to ["shop", "place"] f_adds_to fd_adds_to)
    (D_choices : Def K mg "choices" s_choices ["places"] f_choices fd_choices)
    (D_lines_at : Def K mg "lines_at" s_lines_at ["shop", "place"] f_lines_at fd_lines_at)
    (D_lines : Def K mg "lines" s_lines ["shop"] f_lines fd_lines)
    (D_together : Def K mg "together" s_together ["content", "other"] f_together fd_together)
    (D_content_of : Def K mg "content_of" s_content_of ["shop", "line"] f_content_of fd_content_of)
    (D_piece_price : Def K mg "piece_price" s_piece_price ["tiers", "count"] f_piece_price fd_piece_price)
    (D_price_of : Def K mg "price_of" s_price_of ["shop", "line"] f_price_of fd_price_of)
    (D_priced_lines : Def K mg "priced_lines" s_priced_lines ["shop"] f_priced_lines fd_priced_lines)
    (D_had : Def K mg "had" s_had ["content", "thing"] f_had fd_had)
    (D_rest : Def K mg "rest" s_rest ["want", "content"] f_rest fd_rest)
    (D_lesser : Def K mg "lesser" s_lesser ["want"] f_lesser fd_lesser)
    (D_best_step : Def K mg "best_step" s_best_step ["less", "priced", "steps"] f_best_step fd_best_step)
    (D_all_steps : Def K mg "all_steps" s_all_steps ["priced", "want"] f_all_steps fd_all_steps)
    (D_cheapest : Def K mg "cheapest" s_cheapest ["priced", "want"] f_cheapest fd_cheapest)
    (D_least : Def K mg "least" s_least ["shop", "want"] f_least fd_least)
    (D_without : Def K mg "without" s_without ["priced", "place"] f_without fd_without)
    (D_instead : Def K mg "instead" s_instead ["shop", "priced", "place"] f_instead fd_instead)
    (D_spared : Def K mg "spared" s_spared ["shop"] f_spared fd_spared)
    (D_offer_left : Def K mg "offer_left" s_offer_left ["offer", "places"] f_offer_left fd_offer_left)
    (D_thinned : Def K mg "thinned" s_thinned ["shop"] f_thinned fd_thinned)
    (D_law_mix : Def K mg "_law_mix" s_law_mix ["_law_cell", "_law_turn"] f_law_mix fd_law_mix)
    (D_law_draws : Def K mg "_law_draws" s_law_draws ["_law_script", "_law_turn", "_law_many"] f_law_draws fd_law_draws)
    (D_law_pop : Def K mg "_law_pop" s_law_pop ["_law_draws_here"] f_law_pop fd_law_pop)
    (D_law_cut : Def K mg "_law_cut" s_law_cut ["_law_row"] f_law_cut fd_law_cut)
    (D_law_content : Def K mg "_law_content" s_law_content ["_law_draws_here", "_law_many", "_law_most"] f_law_content fd_law_content)
    (D_law_want : Def K mg "_law_want" s_law_want ["_law_draws_here", "_law_many"] f_law_want fd_law_want)
    (D_law_groups : Def K mg "_law_groups" s_law_groups ["_law_places"] f_law_groups fd_law_groups)
    (D_law_sum : Def K mg "_law_sum" s_law_sum ["_law_one", "_law_other"] f_law_sum fd_law_sum)
    (D_law_lines : Def K mg "_law_lines" s_law_lines ["_law_shop"] f_law_lines fd_law_lines)
    (D_law_lesser : Def K mg "_law_lesser" s_law_lesser ["_law_want_here"] f_law_lesser fd_law_lesser)
    (D_law_rest : Def K mg "_law_rest" s_law_rest ["_law_want_here", "_law_content_here"] f_law_rest fd_law_rest)
    (D_law_table : Def K mg "_law_table" s_law_table ["_law_shop", "_law_want_here"] f_law_table fd_law_table)
    (D_law_packs : Def K mg "_law_packs" s_law_packs ["_law_draws_here", "_law_many", "_law_most"] f_law_packs fd_law_packs)
    (D_law_alone : Def K mg "_law_alone" s_law_alone ["_law_shop", "_law_place"] f_law_alone fd_law_alone)
    (D_law_without : Def K mg "_law_without" s_law_without ["_law_shop", "_law_place"] f_law_without fd_law_without)
    (D_law_due : Def K mg "_law_due" s_law_due ["_law_shop"] f_law_due fd_law_due)
    (D_law_number : Def K mg "_law_number" s_law_number ["_law_found"] f_law_number fd_law_number)
    (hc1 : fd_good_tiers.code = .ref c1) (TB1 : GxR.TabB base mg c1 t1) (hc2 : fd_price_of.code = .ref c2) (TB2 : GxR.TabB base mg c2 t2) :
    FnOkG P w K mg base 10 f fd ["_law_script"] (sp_law K t1 t2) := by
  have m1 : t1 ∈ [t1, t2] := List.mem_cons_self
  have m2 : t2 ∈ [t1, t2] := List.mem_cons_of_mem _ List.mem_cons_self
  have G_priced : ∀ k, FnOk P w K mg base CX0 (k + 5) f_priced_lines fd_priced_lines ["shop"] (sp_priced_lines [t1, t2]) := fun k => ok_priced_lines M D_priced_lines D_lines D_look D_can_stand D_names_pack D_good_tiers hc1 TB1 m1 D_lines_at D_adds_to D_choices D_content_of D_together D_price_of hc2 TB2 m2 D_piece_price
  have G_cheapest : ∀ k, FnOk P w K mg base CX0 (k + 5) f_cheapest fd_cheapest ["priced", "want"] sp_cheapest := fun k => ok_cheapest M D_cheapest D_all_steps D_best_step D_rest D_had D_lesser
  have G_least : FnOk P w K mg base CX0 9 f_least fd_least ["shop", "want"] (sp_least [t1, t2]) := ok_least M D_least D_priced_lines D_cheapest (G_priced 3) (G_cheapest 3)
  have G_spared : FnOk P w K mg base CX0 9 f_spared fd_spared ["shop"] (sp_spared [t1, t2]) := ok_spared M D_spared D_priced_lines D_instead (G_priced 3) (ok_instead M D_instead D_adds_to D_cheapest D_without (G_cheapest 2))
  have G_thinned : FnOk P w K mg base CX0 9 f_thinned fd_thinned ["shop"] (sp_thinned [t1, t2]) := ok_thinned M D_thinned D_priced_lines D_instead D_without D_offer_left (G_priced 3) (ok_insteadX M D_instead D_adds_to D_cheapest D_without (G_cheapest 2))
  have TA : FnOk P w K mg base CX0 8 f_law_table fd_law_table ["_law_shop", "_law_want_here"] sp_table := ok_table (k := 5) M D_law_table D_law_lines D_law_groups D_law_sum D_law_lesser D_law_rest
  have AL' : FnOk P w K mg base CX0 8 f_law_alone fd_law_alone ["_law_shop", "_law_place"] sp_alone := ok_alone M D_law_alone
  have WO : FnOk P w K mg base CX0 8 f_law_without fd_law_without ["_law_shop", "_law_place"] sp_lwithout := ok_lwithout M D_law_without
  have G_law_due : FnOk P w K mg base CX0 9 f_law_due fd_law_due ["_law_shop"] sp_due25 := ok_due25 M D_law_due D_law_alone AL' D_law_without WO D_law_table TA
  have G_law_number : FnOk P w K mg base CX0 9 f_law_number fd_law_number ["_law_found"] sp_numb := ok_numb M D_law_number
  have G_law_draws : FnOk P w K mg base CX0 9 f_law_draws fd_law_draws ["_law_script", "_law_turn", "_law_many"] (sp_draws K) := ok_draws M D_law_draws D_law_mix
  have G_law_pop : FnOk P w K mg base CX0 9 f_law_pop fd_law_pop ["_law_draws_here"] sp_pop := ok_pop D_law_pop
  have G_law_want : FnOk P w K mg base CX0 9 f_law_want fd_law_want ["_law_draws_here", "_law_many"] sp_want := ok_want M D_law_want D_law_pop D_law_cut
  have G_law_packs : FnOk P w K mg base CX0 9 f_law_packs fd_law_packs ["_law_draws_here", "_law_many", "_law_most"] sp_packs := ok_packs M D_law_packs D_law_content D_law_cut D_law_pop
  refine okG D.F sc_law (fun vs H Q E h => ?_) (fun cdv A outer s H vs Q E gd hr h => ?_)
  · obtain ⟨a, ns, rfl, _⟩ := h
    rfl
  · obtain ⟨a, ns, rfl, hS0, hlen, hT1, hT2, q⟩ := h
    have hT : Tb [t1, t2] H := fun t ht => by
      rcases List.mem_cons.mp ht with rfl | ht
      · exact hT1
      · rw [List.mem_singleton.mp ht]
        exact hT2
    refine ⟨_, (pss_cons (ps_set (i := 1) sc_law.nd rfl (Or.inl rfl) (pe_call G_law_draws hr (by rfl) D_law_draws.g D_law_draws.F.kp D_law_draws.b .nil pass0 (pa_cons (pv 0) (pa_cons pe_int (pa_cons pe_int pa_nil)))))
  (pss_cons (ps_set (i := 2) sc_law.nd rfl (Or.inl rfl) (pe_ix ix_list (pe_lst (pa_cons pe_int (pa_cons pe_int (pa_cons pe_int (pa_cons pe_int (pa_cons pe_int (pa_cons pe_int (pa_cons pe_int (pa_cons pe_int pa_nil))))))))) (pe_op op_mod (pe_call G_law_pop hr (by rfl) D_law_pop.g D_law_pop.F.kp D_law_pop.b .nil pass0 (pa_cons (pv 1) pa_nil)) pe_int) (fun _ _ => rfl)))
  (pss_cons (ps_set (i := 3) sc_law.nd rfl (Or.inl rfl) (pe_call G_law_packs hr (by rfl) D_law_packs.g D_law_packs.F.kp D_law_packs.b .nil pass0 (pa_cons (pv 1) (pa_cons (pv 2) (pa_cons pe_int pa_nil)))))
  (pss_cons (ps_set (i := 4) sc_law.nd rfl (Or.inl rfl) (pe_callTy (cr_strD gd hr.units) (by rfl) M.str (by decide +kernel) (pa_cons (pv 3) pa_nil)))
  (pss_cons (ps_set (i := 5) sc_law.nd rfl (Or.inl rfl) (pe_call G_law_due hr (by rfl) D_law_due.g D_law_due.F.kp D_law_due.b .nil pass0 (pa_cons (pv 3) pa_nil)))
  (pss_cons (ps_set (i := 6) sc_law.nd rfl (Or.inl rfl) (pe_call G_thinned hr (by rfl) D_thinned.g D_thinned.F.kp D_thinned.b .nil pass0 (pa_cons (pv 3) pa_nil)))
  (pss_cutI (ps_if (PW.pt (pw_or (pt_cmpR op_ne (pe_callTy (cr_strD gd hr.units) (by rfl) M.str (by decide +kernel) (pa_cons (pv 6) pa_nil)) (pe_callTy (cr_strD gd hr.units) (by rfl) M.str (by decide +kernel) (pa_cons (pv 5) pa_nil)) (nomark _)) (pw_or (pt_cmpR op_ne (pe_callTy (cr_strD gd hr.units) (by rfl) M.str (by decide +kernel) (pa_cons (pv 3) pa_nil)) (pv 4) (nomark _)) (pw_or1 (pt_cmpR (op_neD hr.units) (pe_call G_spared hr (by rfl) D_spared.g D_spared.F.kp D_spared.b .nil pass0 (pa_cons (pe_ix ix_tup (pv 6) pe_int (fun _ _ => rfl)) pa_nil)) (pe_lst pa_nil) (nomark _))))))
   (pss_one (ps_ret pe_bl))
   pss_nil)
  (pss_cons (ps_for PassesOwn.never rfl (pi_range1 (by rfl) M.range (pa_cons pe_int pa_nil)) (pg_name (i := 7) sc_law.nd rfl (Or.inl rfl))
   (pss_cons (ps_set (i := 10) sc_law.nd rfl (Or.inl rfl) (pe_call G_law_want hr (by rfl) D_law_want.g D_law_want.F.kp D_law_want.b .nil pass0 (pa_cons (pv 1) (pa_cons (pv 2) pa_nil))))
  (pss_one (ps_if (pt_cmpR op_ne (pe_call G_law_number hr (by rfl) D_law_number.g D_law_number.F.kp D_law_number.b .nil pass0 (pa_cons (pe_call G_least hr (by rfl) D_least.g D_least.F.kp D_least.b .nil pass0 (pa_cons (pe_ix ix_tup (pv 6) pe_int (fun _ _ => rfl)) (pa_cons (pv 10) pa_nil))) pa_nil)) (pe_call G_law_number hr (by rfl) D_law_number.g D_law_number.F.kp D_law_number.b .nil pass0 (pa_cons (pe_call G_least hr (by rfl) D_least.g D_least.F.kp D_least.b .nil pass0 (pa_cons (pv 3) (pa_cons (pv 10) pa_nil))) pa_nil)) (nomark _))
   (pss_one (ps_ret pe_bl))
   pss_nil))))
  (pss_cutI (ps_if (pt_cmpR (op_neD hr.units) (pe_call G_thinned hr (by rfl) D_thinned.g D_thinned.F.kp D_thinned.b .nil pass0 (pa_cons (pe_lst pa_nil) pa_nil)) (pe_tup (pa_cons (pe_lst pa_nil) (pa_cons (pe_lst pa_nil) pa_nil))) (nomark _))
   (pss_one (ps_ret pe_bl))
   pss_nil)
  (pss_cons (ps_for PassesOwn.never rfl (pi_list (pe_ix ix_tup (pv 6) pe_int (fun _ _ => rfl))) (pg_name (i := 8) sc_law.nd rfl (Or.inl rfl))
   (pss_cons (ps_expr (pe_bm PySem.F.plainAttrs_list PySem.F.slot_list_append PySem.F.type_list_append mt_append (pe_ix ix_tup (pv 8) pe_int (fun _ _ => rfl)) (pa_cons pe_int pa_nil)))
  (pss_one (ps_if (pt_cmpR op_eq (pe_ix ix_tup (pv 8) pe_int (fun _ _ => rfl)) pe_str (nomark _))
   (pss_one (ps_expr (pe_bm PySem.F.plainAttrs_list PySem.F.slot_list_append PySem.F.type_list_append mt_append (pe_ix ix_tup (pv 8) pe_int (fun _ _ => rfl)) (pa_cons pe_int pa_nil))))
   pss_nil))))
  (pss_cutI (ps_if (pt_cmpR (op_neD hr.units) (pe_lc (own := [("_law_offer", 8)]) (by rfl) sc_law.nd (pi_list (pe_ix ix_tup (pv 6) pe_int (fun _ _ => rfl))) (blkOk_by (own := [("_law_offer", 8)]) (N := N_law) (sc := defScope s_law) (by decide +kernel)) (fun _ _ _ _ _ => (pg_name (i := 8) sc_law.nd rfl (Or.inl rfl))) (fun _ _ _ _ _ => (pts_one (pt_cmpR op_ne (pe_bmK (K := K) rfl PySem.F.plainAttrs_list PySem.F.slot_list_count PySem.F.type_list_count (mt_lcountK (K := K) rfl) (pe_ix (ix_tupK (K := K) rfl) (pv 8) pe_int (fun _ _ => rfl)) (pa_cons pe_int pa_nil)) pe_int (nomark _)))) (fun _ _ _ _ _ => (pv 8))) (pe_lst pa_nil) (nomark _))
   (pss_one (ps_ret pe_bl))
   pss_nil)
  (pss_cutI (ps_if (pt_cmpR (op_neD hr.units) (pe_lc (own := [("_law_offer", 8)]) (by rfl) sc_law.nd (pi_list (pe_ix ix_tup (pv 6) pe_int (fun _ _ => rfl))) (blkOk_by (own := [("_law_offer", 8)]) (N := N_law) (sc := defScope s_law) (by decide +kernel)) (fun _ _ _ _ _ => (pg_name (i := 8) sc_law.nd rfl (Or.inl rfl))) (fun _ _ _ _ _ => (pts_one (PW.pt (pw_and (pt_cmpR op_eq (pe_ix (ix_tupK (K := K) rfl) (pv 8) pe_int (fun _ _ => rfl)) pe_str (nomark _)) (pw_and1 (pt_cmpR op_ne (pe_bmK (K := K) rfl PySem.F.plainAttrs_list PySem.F.slot_list_count PySem.F.type_list_count (mt_countDK (K := K) rfl (room65 hr)) (pe_ix (ix_tupK (K := K) rfl) (pv 8) pe_int (fun _ _ => rfl)) (pa_cons pe_int pa_nil)) pe_int (nomark _))))))) (fun _ _ _ _ _ => (pv 8))) (pe_lst pa_nil) (nomark _))
   (pss_one (ps_ret pe_bl))
   pss_nil)
  (pss_cons (ps_expr (pe_bm PySem.F.plainAttrs_list PySem.F.slot_list_append PySem.F.type_list_append mt_append (pe_ix ix_tup (pv 6) pe_int (fun _ _ => rfl)) (pa_cons pe_int pa_nil)))
  (pss_cons (ps_set (i := 9) sc_law.nd rfl (Or.inl rfl) (pe_call G_thinned hr (by rfl) D_thinned.g D_thinned.F.kp D_thinned.b .nil pass0 (pa_cons (pv 3) pa_nil)))
  (pss_cutI (ps_if (PW.pt (pw_or (pt_cmpR (op_neD hr.units) (pe_call G_thinned hr (by rfl) D_thinned.g D_thinned.F.kp D_thinned.b .nil pass0 (pa_cons (pe_lst pa_nil) pa_nil)) (pe_tup (pa_cons (pe_lst pa_nil) (pa_cons (pe_lst pa_nil) pa_nil))) (nomark _)) (pw_or (pt_cmpR op_ne (pe_callTy (cr_strD gd hr.units) (by rfl) M.str (by decide +kernel) (pa_cons (pv 3) pa_nil)) (pv 4) (nomark _)) (pw_or1 (pt_cmpR op_ne (pe_callTy (cr_strD gd hr.units) (by rfl) M.str (by decide +kernel) (pa_cons (pv 9) pa_nil)) (pe_callTy (cr_strD gd hr.units) (by rfl) M.str (by decide +kernel) (pa_cons (pv 5) pa_nil)) (nomark _))))))
   (pss_one (ps_ret pe_bl))
   pss_nil)
  (pss_cons (ps_for PassesOwn.never rfl (pi_list (pv 3)) (pg_name (i := 8) sc_law.nd rfl (Or.inl rfl))
   (pss_one (ps_expr (pe_bm0 PySem.F.plainAttrs_list PySem.F.slot_list_reverse PySem.F.type_list_reverse mt_reverse (pe_ix ix_tup (pv 8) pe_int (fun _ _ => rfl))))))
  (pss_cons (ps_for PassesOwn.never rfl (pi_list (pe_slice sl_list (pv 3) (po_some (pe_un un_neg pe_int)) po_none)) (pg_name (i := 8) sc_law.nd rfl (Or.inl rfl))
   (pss_one (ps_expr (pe_bm0 PySem.F.plainAttrs_list PySem.F.slot_list_pop PySem.F.type_list_pop mt_pop (pv 3)))))
  (pss_one (ps_ret (pe_cmpR op_eq (pe_callTy (cr_strD gd hr.units) (by rfl) M.str (by decide +kernel) (pa_cons (pe_call G_thinned hr (by rfl) D_thinned.g D_thinned.F.kp D_thinned.b .nil pass0 (pa_cons (pv 3) pa_nil)) pa_nil)) (pe_callTy (cr_strD gd hr.units) (by rfl) M.str (by decide +kernel) (pa_cons (pe_call G_law_due hr (by rfl) D_law_due.g D_law_due.F.kp D_law_due.b .nil pass0 (pa_cons (pv 3) pa_nil)) pa_nil)) (nomark _))))))))))))))))))))), ?_⟩
    refine ⟨_, rfl, a, ns, 1, 130, rfl, hS0, by omega, by omega, by omega, fun H1 d ds s1 nd hd => ?_⟩
    refine ⟨by show 8 ≤ sizeLine; decide, fun e ne => ?_⟩
    have se := same_upd (o := .lst [.int 1, .int 2, .int 2, .int 3, .int 2, .int 3, .int 1, .int 4]) ne
    have he : upd H1 e (.lst [.int 1, .int 2, .int 2, .int 3, .int 2, .int 3, .int 1, .int 4]) e = some (.lst [.int 1, .int 2, .int 2, .int 3, .int 2, .int 3, .int 1, .int 4]) := upd_same
    have hd2 := se _ _ hd
    have ned : e ≠ d := (ne_of_none hd ne).symm
    generalize upd H1 e (.lst [.int 1, .int 2, .int 2, .int 3, .int 2, .int 3, .int 1, .int 4]) = H2 at se he hd2 ⊢
    have hT2' := tb_same (s1.trans se) hT
    refine ⟨_, rfl, d, ds, rfl, hd2, fun H3 s3 hd3 => ?_⟩
    obtain ⟨j, hj, ej⟩ := mod_at (i := ds.headD 0) (n := 8) (by decide)
    obtain ⟨m, hm, hm1, hm4⟩ := menuM hj
    refine ⟨_, _, rfl, rfl, (by show (0 : Int) < _; decide), e, _, _, _, rfl, rfl, SqL.of (s3 _ _ ned he), at_of ej hm, ?_⟩
    have hT3 := tb_but s3 hd2 hT2'
    refine ⟨_, rfl, _, rfl, d, _, m, 8, rfl, hd3, hm1, hm4, by decide, by decide, fun H4 S os ns4 s4 nS hsh gd1 ft l1 l8 hd4 => ?_⟩
    have hT4 := tb_but s4 hd3 hT3
    clear hT3 hT2' hT hT1 hT2 se he hd2 hd3 s3 s1
    -- kept
    have shS := sh_shop gd1 ft hm4
    have dpS := Nat.le_trans (depth_shop os) (by decide : 59 ≤ 60)
    have lnS : (dShop os).shown.length ≤ sizeLine := Nat.le_trans shS.len (by decide)
    have shD := sh_due gd1 ft hm4
    have dpD := depth_due os
    have lnD := due_len gd1 ft hm4
    obtain ⟨xs0, TI⟩ := thin_ok gd1 ft os.length (Nat.le_refl _)
    refine ⟨_, rfl, S, dShop os, rfl, (hsh.same cut_le).dp, shS.ok, shS.nd, dpS, lnS, ?_⟩
    -- due
    refine ⟨_, rfl, S, d, os, _, m, rfl, hd4, hsh, gd1, ft, hm4, fun H5 z5 q5 p5 s5 nz5 np5 hz5 sh5 hp5 => ?_⟩
    have hd4n : H4 d ≠ none := by rw [hd4]; exact fun z => nomatch z
    have du5 : DueAt os (cutH d H5) z5 q5 p5 := ⟨cut_put (fun z => hd4n (by rw [← z]; exact nz5)) hz5, sh5, cut_put (fun z => hd4n (by rw [← z]; exact np5)) hp5⟩
    have hd5 := s5 _ _ hd4
    have hd5n : H5 d ≠ none := by rw [hd5]; exact fun z => nomatch z
    have hsh5 := hsh.same (cut_mono s5)
    have hT5 := tb_same s5 hT4
    clear hz5 sh5 hp5 nz5 np5
    -- found
    refine ⟨_, rfl, S, os, m, rfl, hsh5.same cut_le, gd1, ft, hm4, hT5, fun H6 z6 q6 p6 rs es e6 th => ?_⟩
    have hd6 := e6.lst hd5
    have thC := th.cut hd5n hd6
    have k56 := e6.ke.cut (d := d)
    have L6 : Ls [t1, t2] d H6 H6 := ⟨.refl _, e6.t1, _, hd6⟩
    have sho : ∀ {H' : Hp}, Ke (cutH d H5) (cutH d H') → ShopAt H' S os := fun {H'} k => (shop_ke k hsh5).same cut_le
    have dud : ∀ {H' : Hp}, Ke (cutH d H5) (cutH d H') → DueAt os H' z5 q5 p5 := fun {H'} k => (du5.ke k).ke (.of cut_le)
    have fnd : ∀ {H' : Hp}, Ls [t1, t2] d H6 H' → ThinAt os H5 H' z6 q6 p6 rs es := fun {H'} h => (thC.ke h.ke).ke (.of cut_le)
    refine ⟨fun σ' H' => σ' = [some (.ref a), some (.ref d), some (.int (m : Int)), some (.ref S), some (.str (dShop os).shown), some (.ref z5), some (.ref z6), none, none, none, none] ∧ Ls [t1, t2] d H6 H', ?_, fun σ7 H7 hI => ?_⟩
    · refine ⟨_, rfl, z6, dDue os, rfl, th.due.dp, shD.ok, shD.nd, dpD, lnD, _, rfl, z5, dDue os, rfl, (dud k56).dp, shD.ok, shD.nd, dpD, lnD, rfl, false, ?_, ?_⟩
      · show V.bl (!decide (V.str _ = V.str _)) = _
        rw [decide_eq_true rfl]
        rfl
      refine ⟨_, rfl, S, dShop os, rfl, (sho k56).dp, shS.ok, shS.nd, dpS, lnS, _, rfl, rfl, false, ?_, ?_⟩
      · show V.bl (!decide (V.str _ = V.str _)) = _
        rw [decide_eq_true rfl]
        rfl
      refine ⟨_, rfl, z6, _, _, _, rfl, rfl, SqT.of th.hz, atI_nat (j := 0) rfl, q6, (thinM os os.length).2, m, rfl, th.due.hq, TI.gd, TI.ft, hm4, e6.t1, fun H7 q7 rs7 es7 e7 nq7 hq7 _ sp7 => ?_⟩
      have e0 : es7 = [] := by
        have := sp7.pl
        rw [no_spares gd1 ft, List.map_eq_nil_iff] at this
        exact this
      subst e0
      have r0 : rs7 = [] := List.eq_nil_of_length_eq_zero sp7.al.len
      subst r0
      refine ⟨Nat.zero_le _, fun z0 nz0 => ?_⟩
      have s7 := same_upd (o := .lst []) nz0
      refine ⟨_, _, dp_ints (ns := []) (SqL.of (s7 _ _ hq7)), dp_ints (ns := []) (SqL.of upd_same), shaped_ints _, shaped_ints _, false, ?_, rfl, (L6.ext e7).same s7⟩
      rw [eqv_ints, decide_eq_true rfl]
      rfl
    obtain ⟨rfl, L7⟩ := hI
    -- the least prices
    refine ⟨_, rfl, by decide, by decide, for_range (lo := 0) (n := (2 : Int).toNat) (fun _ σ H' => ∃ y7 y10 : Option V, σ = [some (.ref a), some (.ref d), some (.int (m : Int)), some (.ref S), some (.str (dShop os).shown), some (.ref z5), some (.ref z6), y7, none, none, y10] ∧ Ls [t1, t2] d H6 H') ⟨none, none, rfl, L7⟩ (fun i σ H8 _ hp => ?_) (fun σ H8 hp => ?_)⟩
    · obtain ⟨y7, y10, rfl, L8⟩ := hp
      obtain ⟨ds8, hd8⟩ := L8.hd
      refine ⟨_, rfl, _, rfl, d, _, m, rfl, hd8, hm1, hm4, fun H9 wa ws ds9 s9 nw nwd hw hd9 hlw smw _ => ?_⟩
      have L9 : Ls [t1, t2] d H6 H9 := ⟨L8.ke.trans (.of (cut_same s9)), tb_but s9 hd8 L8.tb, _, hd9⟩
      have th9 := fnd L9
      have one : ∀ {o1 o2 : Option Int}, LeastIs (shopRws (thinM os os.length).2) ws o1 → LeastIs (shopRws os) ws o2 → o1 = o2 := fun {o1 o2} l1 l2 => leastIs_unique l1 (TI.ls ws _ (by omega) l2)
      refine ⟨_, rfl, z6, _, _, _, rfl, rfl, SqT.of th9.hz, atI_nat (j := 0) rfl, _, rfl, q6, wa, (thinM os os.length).2, ws, rfl, th9.due.hq, TI.gd, TI.ft.fit hm4, rws_nn TI.gd TI.ft, L9.tb, hw, by omega, smw, fun H14 e14 l14 => .inl ⟨rfl, fun H15 s15 => ?_⟩, fun H14 t14 q14 bls ys p14 e14 nt14 ht14 pur l14 _ _ _ _ _ _ => .inr ⟨t14, _, _, rfl, ht14, fun H15 s15 => ?_⟩⟩
      · have x15 := e14.trans (.same s15 e14.t1)
        have L15 := L9.ext x15
        refine ⟨_, rfl, _, rfl, S, wa, os, ws, rfl, sho (k56.trans L15.ke), gd1, ft.fit hm4, rws_nn gd1 ft, x15.t1, x15.lst hw, by omega, smw, fun H16 e16 l16 => .inl ⟨rfl, fun H17 s17 => ⟨rfl, false, rfl, _, _, rfl, (L15.ext e16).same s17⟩⟩, fun H16 t16 q16 bls ys p16 e16 nt16 ht16 pur l16 _ _ _ _ _ _ => ?_⟩
        have := one l14 l16
        cases this
      · have x15 := e14.trans (.same s15 e14.t1)
        have L15 := L9.ext x15
        refine ⟨_, rfl, _, rfl, S, wa, os, ws, rfl, sho (k56.trans L15.ke), gd1, ft.fit hm4, rws_nn gd1 ft, x15.t1, x15.lst hw, by omega, smw, fun H16 e16 l16 => ?_, fun H16 t16 q16 bls ys p16 e16 nt16 ht16 pur l16 _ _ _ _ _ _ => .inr ⟨t16, _, _, rfl, ht16, fun H17 s17 => ⟨rfl, false, ?_, _, _, rfl, (L15.ext e16).same s17⟩⟩⟩
        · have := one l14 l16
          cases this
        · have := Option.some.inj (one l14 l16)
          show V.bl (!decide (V.int p14 = V.int p16)) = _
          rw [this, decide_eq_true rfl]
          rfl
    obtain ⟨y7, y10, rfl, L8⟩ := hp
    clear L7
    -- of no offers
    have nil_ok : Good ([] : List Ofr) := ⟨by decide, fun i o h => by simp at h⟩
    have nil_ft : FitS m ([] : List Ofr) := fun o h => by cases h
    have d0 : dDue [] = .tuple [.list [], .list []] := rfl
    refine ⟨fun σ' H' => σ' = [some (.ref a), some (.ref d), some (.int (m : Int)), some (.ref S), some (.str (dShop os).shown), some (.ref z5), some (.ref z6), y7, none, none, y10] ∧ Ls [t1, t2] d H6 H', ?_, fun σ9 H9 hI => ?_⟩
    · refine ⟨Nat.zero_le _, fun z0 nz0 => ?_⟩
      have sz := same_upd (o := .lst []) nz0
      have hz0 : upd H8 z0 (.lst []) z0 = some (.lst (([] : List Addr).map V.ref)) := upd_same
      generalize upd H8 z0 (.lst []) = H9 at sz hz0 ⊢
      have L9 := L8.same sz
      refine ⟨z0, [], m, rfl, ShopAt.of_al hz0 True.intro, nil_ok, nil_ft, hm4, L9.tb, fun H10 z10 q10 p10 rs10 es10 e10 th10 => ?_⟩
      refine ⟨Nat.zero_le _, fun u1 nu1 => ⟨Nat.zero_le _, fun u2 nu2 => ⟨by show 2 ≤ sizeLine; decide, fun u3 nu3 => ?_⟩⟩⟩
      have su1 := same_upd (o := .lst []) nu1
      have su2 := same_upd (o := .lst []) nu2
      have su3 := same_upd (o := .tup [.ref u1, .ref u2]) nu3
      have sall := (su1.trans su2).trans su3
      refine ⟨dDue [], .tuple [.list [], .list []], (th10.due.ke (.of sall)).dp, .tup (SqT.of upd_same) (.cons (.lst (SqL.of (su3 _ _ (su2 _ _ upd_same))) .nil) (.cons (.lst (SqL.of (su3 _ _ upd_same)) .nil) .nil)), by rw [d0]; decide +kernel, by decide +kernel, false, ?_, rfl, (L9.ext e10).same sall⟩
      rw [d0]
      rfl
    obtain ⟨rfl, L9⟩ := hI
    clear L8
    have th9 := thC.ke L9.ke
    have lrs := th9.al.len
    have ndE : (es.flatMap Tof.own).Nodup := (List.nodup_cons.mp (List.nodup_cons.mp th9.nd).2).2
    have nqE : q6 ∉ es.flatMap Tof.own := fun z => (List.nodup_cons.mp th9.nd).1 (List.mem_cons_of_mem _ z)
    have npE : p6 ∉ es.flatMap Tof.own := fun z => (List.nodup_cons.mp (List.nodup_cons.mp th9.nd).2).1 z
    have nqp : q6 ≠ p6 := fun z => (List.nodup_cons.mp th9.nd).1 (by rw [z]; exact List.mem_cons_self)
    have inE : ∀ {i : Nat} {e : Tof} {b : Addr}, es[i]? = some e → b ∈ e.own → b ∈ es.flatMap Tof.own := fun {i e b} h hb => List.mem_flatMap.mpr ⟨e, List.mem_of_getElem? h, hb⟩
    have ownA : ∀ {b : Addr}, b ∈ es.flatMap Tof.own → H5 b = none ∧ b ≠ d ∧ ∃ xs, H9 b = some (.lst xs) := fun {b} hb => by
      obtain ⟨e, he, hb⟩ := List.mem_flatMap.mp hb
      obtain ⟨r, hr'⟩ := al_back th9.al e he
      obtain ⟨h1, xs, h2⟩ := hr'.own_at.2 b hb
      exact ⟨h1, (cut_some h2).1, xs, (cut_some h2).2⟩
    have ntup : ∀ {b : Addr} {xs : List V}, H9 b = some (.tup xs) → b ∉ es.flatMap Tof.own := fun {b xs} h hb => by
      obtain ⟨_, _, ys, hy⟩ := ownA hb
      rw [h] at hy
      cases hy
    have ofr9 : ∀ {i : Nat} {r : Addr}, rs[i]? = some r → ∃ e, es[i]? = some e ∧ TofAt H5 H9 r e := fun {i r} h => by
      obtain ⟨e, he, h1⟩ := th9.al.get h
      exact ⟨e, he, h1.ke (.of cut_le)⟩
    have fitE : ∀ {i : Nat} {e : Tof}, es[i]? = some e → FitO m e.o ∧ ∀ c ts, e.o = .many c ts → ts.length ≤ 4 := fun {i e} he => by
      have h1 : (thinM os os.length).2[i]? = some e.o := by
        rw [← th9.eo, List.getElem?_map, he]
        rfl
      refine ⟨TI.ft _ (List.mem_of_getElem? h1), fun c ts h2 => ?_⟩
      have h3 := TI.gd.2 _ _ h1
      rw [h2] at h3
      exact GoodT.few h3
    have les : es.length ≤ 8 := by
      have := TI.gd.1
      rw [← th9.eo, List.length_map] at this
      exact this
    have hq9 := (cut_some th9.hq).2
    have hz9 := (cut_some th9.hz).2
    -- the told lists lengthened
    refine ⟨_, rfl, z6, _, _, _, rfl, rfl, SqT.of hz9, atI_nat (j := 0) rfl, q6, rfl, ⟨_, SqL.of hq9⟩, for_list (K := K) (a := q6) (xs := rs.map V.ref) (fun i σ H' => ∃ y8 : Option V, σ = [some (.ref a), some (.ref d), some (.int (m : Int)), some (.ref S), some (.str (dShop os).shown), some (.ref z5), some (.ref z6), y7, y8, none, y10] ∧ (∀ b o, b ∉ es.flatMap Tof.own → H9 b = some o → H' b = some o) ∧ (∀ (j : Nat) e, es[j]? = some e → j < i → MarkT H' e) ∧ ∀ (j : Nat) e, es[j]? = some e → i ≤ j → PlainT H' e) ⟨none, rfl, fun b o _ h => h, (fun j e _ h => absurd h (Nat.not_lt_zero _)), fun j e he _ => ?_⟩ (fun i σ H' _ hp => ?_) (fun i x σ H10 hx hp => ?_) (fun σ H10 hp => ?_)⟩
    · obtain ⟨r, _, hr'⟩ := al_at th9.al he
      exact (hr'.ke (.of cut_le)).plain
    · obtain ⟨_, _, hA, _⟩ := hp
      exact SqL.of (hA _ _ nqE hq9)
    · obtain ⟨y8, rfl, hA, hM, hPl⟩ := hp
      rw [List.getElem?_map] at hx
      cases hu : rs[i]? with
      | none => rw [hu] at hx; cases hx
      | some r =>
        rw [hu] at hx
        cases Option.some.inj hx
        obtain ⟨e, he, tof⟩ := ofr9 hu
        have pl := hPl i e he (Nat.le_refl _)
        obtain ⟨fo, f4⟩ := fitE he
        obtain ⟨b', rr, g1, g2⟩ := tof.ofr.head
        have hr10 := hA _ _ (ntup g1) g1
        have eb : b' = e.b := by
          obtain ⟨eb, et, eus, eo⟩ := e
          obtain ⟨_, _, _, h4⟩ := tof
          cases eo with
          | pack c p => have := g1.symm.trans h4; injection this with this; injection this with this; injection this with _ this; injection this with this _; exact V.ref.inj this
          | add c p x => have := g1.symm.trans h4; injection this with this; injection this with this; injection this with _ this; injection this with this _; exact V.ref.inj this
          | many c ts => have := g1.symm.trans h4.1; injection this with this; injection this with this; injection this with _ this; injection this with this _; exact V.ref.inj this
        subst eb
        have lc : e.o.cont.length ≤ 4 := by rw [fo.cont.1]; exact hm4
        refine ⟨_, rfl, r, _, _, _, rfl, rfl, SqT.of hr10, atI_nat (j := 1) rfl, .inl ⟨rfl, _, SqL.of pl.1⟩, e.b, _, _, rfl, rfl, pl.1, szL' (by rw [List.length_map]; omega), ?_⟩
        have nrb : r ≠ e.b := fun z => ntup g1 (by rw [z]; exact inE he (own_b e))
        have hb11 : upd H10 e.b (.lst (e.o.cont.map V.int ++ [.int 99])) e.b = some (LI (e.o.cont ++ [99])) := at_app
        have ne11 : ∀ x, x ≠ e.b → upd H10 e.b (.lst (e.o.cont.map V.int ++ [.int 99])) x = H10 x := fun x h => upd_ne h
        generalize upd H10 e.b (.lst (e.o.cont.map V.int ++ [.int 99])) = H11 at hb11 ne11 ⊢
        have hr11 : H11 r = _ := (ne11 r nrb).trans hr10
        have rest : ∀ {H' : Hp}, (∀ x, x ∉ e.own → H' x = H10 x) → MarkT H' e → (∀ b o, b ∉ es.flatMap Tof.own → H9 b = some o → H' b = some o) ∧ (∀ (j : Nat) e, es[j]? = some e → j < i + 1 → MarkT H' e) ∧ ∀ (j : Nat) e, es[j]? = some e → i + 1 ≤ j → PlainT H' e := fun {H'} hn hm => by
          refine ⟨fun b o nb hb => ?_, fun j e' he' hj => ?_, fun j e' he' hj => ?_⟩
          · rw [hn b fun z => nb (inE he z)]
            exact hA b o nb hb
          · by_cases z : j = i
            · subst z
              cases Option.some.inj (he.symm.trans he')
              exact hm
            · exact (hM j e' he' (by omega)).of fun x hx => hn x (own_apart ndE (Ne.symm z) he he' x hx)
          · exact (hPl j e' he' (by omega)).of fun x hx => hn x (own_apart ndE (by omega) he he' x hx)
        match eo : e.o, tof, pl, hr11, f4 with
        | .pack c p, tof, pl, hr11, _ =>
          refine ⟨_, rfl, r, _, _, _, rfl, rfl, SqT.of hr11, atI_nat (j := 0) rfl, rfl, false, rfl, ?_⟩
          exact ⟨_, rfl, rest (fun x hx => ne11 x fun z => hx (by rw [z]; exact own_b e)) ⟨hb11, fun c' ts' z => by rw [eo] at z; cases z⟩⟩
        | .add c p k0, tof, pl, hr11, _ =>
          refine ⟨_, rfl, r, _, _, _, rfl, rfl, SqT.of hr11, atI_nat (j := 0) rfl, rfl, false, rfl, ?_⟩
          exact ⟨_, rfl, rest (fun x hx => ne11 x fun z => hx (by rw [z]; exact own_b e)) ⟨hb11, fun c' ts' z => by rw [eo] at z; cases z⟩⟩
        | .many c ts, tof, pl, hr11, f4 =>
          have t4 : H9 r = some (.tup [.str "many", .ref e.b, .ref e.t]) ∧ H5 e.t = none ∧ H9 e.t = some (.lst (e.us.map V.ref)) ∧ e.b ≠ e.t ∧ e.us.length = ts.length := by
            have := tof.2.2.2
            rw [eo] at this
            exact ⟨this.1, this.2.1, this.2.2.1, this.2.2.2.1, this.2.2.2.2.1⟩
          obtain ⟨t1', _, _, nbt, lus⟩ := t4
          have l4 := f4 c ts rfl
          have hr11' : H11 r = some (.tup [.str "many", .ref e.b, .ref e.t]) := (ne11 r nrb).trans (hA _ _ (ntup t1') t1')
          have ht11 : H11 e.t = some (.lst (e.us.map V.ref)) := (ne11 _ (Ne.symm nbt)).trans (pl.2 c ts eo)
          refine ⟨_, rfl, r, _, _, _, rfl, rfl, SqT.of hr11', atI_nat (j := 0) rfl, rfl, true, rfl, ?_⟩
          refine ⟨_, rfl, r, _, _, _, rfl, rfl, SqT.of hr11', atI_nat (j := 2) rfl, .inl ⟨rfl, _, SqL.of ht11⟩, e.t, _, _, rfl, rfl, ht11, szL' (by rw [List.length_map]; omega), _, rfl, rest (fun x hx => ?_) ⟨?_, fun c' ts' z => upd_same⟩⟩
          · rw [upd_ne fun z => hx (by rw [z]; exact own_t eo)]
            exact ne11 x fun z => hx (by rw [z]; exact own_b e)
          · rw [upd_ne nbt]
            exact hb11
    obtain ⟨y8, rfl, hA, hM, _⟩ := hp
    rw [List.length_map, lrs] at hM
    have mrk : ∀ {i : Nat} {e : Tof}, es[i]? = some e → MarkT H10 e := fun {i e} h => hM i e h (List.getElem?_eq_some_iff.mp h).1
    have hq10 := hA _ _ nqE hq9
    have hz10 := hA _ _ (ntup hz9) hz9
    have hd10 : ∃ ds, H10 d = some (LI ds) := by
      obtain ⟨ds, h⟩ := L9.hd
      exact ⟨ds, hA _ _ (fun z => (ownA z).2.1 rfl) h⟩
    have old10 : ∀ {b : Addr} {o : HO}, H5 b ≠ none → H9 b = some o → H10 b = some o := fun {b o} n h => hA b o (fun z => n (ownA z).1) h
    have k510 : Ke (cutH d H5) (cutH d H10) := fun b o h n => by
      obtain ⟨nb, hb⟩ := cut_some h
      exact cut_put nb (old10 (by rw [hb]; exact fun z => nomatch z) (cut_some ((k56.trans L9.ke) b o h n)).2)
    have tb10 : Tb [t1, t2] H10 := fun t ht => by
      obtain ⟨ps, a1, a2⟩ := L9.tb t ht
      obtain ⟨ps5, b1, _⟩ := hT5 t ht
      exact ⟨ps, old10 (by rw [b1]; exact fun z => nomatch z) a1, a2⟩
    have hp10 : H10 p6 = some (LI (natI (thinM os os.length).1)) := hA _ _ npE (cut_some th9.hp).2
    -- each one alone
    refine ⟨fun σ' H' => σ' = [some (.ref a), some (.ref d), some (.int (m : Int)), some (.ref S), some (.str (dShop os).shown), some (.ref z5), some (.ref z6), y7, y8, none, y10] ∧ Same H10 H', ?_, fun σ11 H11 hI => ?_⟩
    · refine ⟨_, rfl, z6, _, _, _, rfl, rfl, SqT.of hz10, atI_nat (j := 0) rfl, q6, rfl, ⟨_, SqL.of hq10⟩, fun C nC => lc_list (K := K) (xs := rs.map V.ref) (fun j H' => Same H10 H' ∧ H' C = some (LI [])) ⟨same_upd nC, upd_same⟩ (fun j H' _ hp => SqL.of (hp.1 _ _ hq10)) (fun j x H11 hx hp => ?_) (fun H11 hp => ?_)⟩
      · obtain ⟨s11, hC⟩ := hp
        rw [List.getElem?_map] at hx
        cases hu : rs[j]? with
        | none => rw [hu] at hx; cases hx
        | some r =>
          rw [hu] at hx
          cases Option.some.inj hx
          obtain ⟨e, he, tof⟩ := ofr9 hu
          obtain ⟨rr, g1⟩ : ∃ rr, H9 r = some (.tup (.str e.o.word :: .ref e.b :: rr)) := tof.head
          have hr11 := s11 _ _ (hA _ _ (ntup g1) g1)
          have mk := s11 _ _ (mrk he).1
          refine ⟨rfl, _, rfl, r, _, _, _, rfl, rfl, SqT.of hr11, atI_nat (j := 1) rfl, .inl ⟨rfl, _, SqL.of mk⟩, e.b, _, _, rfl, rfl, SqL.of mk, rfl, false, ?_, s11, hC⟩
          show V.bl (!decide (V.int (((e.o.cont ++ [(99 : Int)]).count 99 : Nat) : Int) = V.int 1)) = _
          rw [count_mark (fitE he).1.cont.2]
          rfl
      · obtain ⟨s11, hC⟩ := hp
        refine ⟨Nat.zero_le _, fun e0 ne0 => ?_⟩
        have s12 := same_upd (o := .lst []) ne0
        refine ⟨_, _, dp_ints (ns := []) (SqL.of (s12 _ _ hC)), dp_ints (ns := []) (SqL.of upd_same), shaped_ints _, shaped_ints _, false, ?_, rfl, s11.trans s12⟩
        rw [eqv_ints, decide_eq_true rfl]
        rfl
    obtain ⟨rfl, s11⟩ := hI
    have hq11 := s11 _ _ hq10
    refine ⟨fun σ' H' => σ' = [some (.ref a), some (.ref d), some (.int (m : Int)), some (.ref S), some (.str (dShop os).shown), some (.ref z5), some (.ref z6), y7, y8, none, y10] ∧ Same H11 H', ?_, fun σ12 H12 hI => ?_⟩
    · refine ⟨_, rfl, z6, _, _, _, rfl, rfl, SqT.of (s11 _ _ hz10), atI_nat (j := 0) rfl, q6, rfl, ⟨_, SqL.of hq11⟩, fun C nC => lc_list (K := K) (xs := rs.map V.ref) (fun j H' => Same H11 H' ∧ H' C = some (LI [])) ⟨same_upd nC, upd_same⟩ (fun j H' _ hp => SqL.of (hp.1 _ _ hq11)) (fun j x H12 hx hp => ?_) (fun H12 hp => ?_)⟩
      · obtain ⟨s12, hC⟩ := hp
        have s112 := s11.trans s12
        rw [List.getElem?_map] at hx
        cases hu : rs[j]? with
        | none => rw [hu] at hx; cases hx
        | some r =>
          rw [hu] at hx
          cases Option.some.inj hx
          obtain ⟨e, he, tof⟩ := ofr9 hu
          obtain ⟨rr, g1⟩ : ∃ rr, H9 r = some (.tup (.str e.o.word :: .ref e.b :: rr)) := tof.head
          have hr12 := s112 _ _ (hA _ _ (ntup g1) g1)
          match eo : e.o, hr12 with
          | .pack c p, hr12 => exact ⟨rfl, _, rfl, r, _, _, _, rfl, rfl, SqT.of hr12, atI_nat (j := 0) rfl, rfl, false, rfl, s12, hC⟩
          | .add c p k0, hr12 => exact ⟨rfl, _, rfl, r, _, _, _, rfl, rfl, SqT.of hr12, atI_nat (j := 0) rfl, rfl, false, rfl, s12, hC⟩
          | .many c ts, hr12 =>
            have t4 := tof.2.2.2
            rw [eo] at t4
            obtain ⟨t1', _, _, _, lus, tus⟩ := t4
            have hr12' := s112 _ _ (hA _ _ (ntup t1') t1')
            have ht12 := s112 _ _ ((mrk he).2 c ts eo)
            have dps : DpAll K H12 (e.us.map V.ref ++ [.int 0]) (ts.map dTier ++ [.int 0]) := dpAll_app (dp_tiers lus fun i u t h1 h2 => by
              have h3 := tus i u t h1 h2
              exact s112 _ _ (hA _ _ (ntup h3) h3)) (.cons (.int 0) .nil)
            refine ⟨rfl, _, rfl, r, _, _, _, rfl, rfl, SqT.of hr12', atI_nat (j := 0) rfl, rfl, true, rfl, ?_⟩
            refine ⟨_, rfl, r, _, _, _, rfl, rfl, SqT.of hr12', atI_nat (j := 2) rfl, .inl ⟨rfl, _, SqL.of ht12⟩, e.t, .int 0, .int 0, _, rfl, rfl, .lst (SqL.of ht12) dps, .int 0, shaped_tier0 ts, by decide +kernel, rfl, _, rfl, ?_⟩
            rw [count_tier]
            exact ⟨s12, hC⟩
      · obtain ⟨s12, hC⟩ := hp
        refine ⟨Nat.zero_le _, fun e0 ne0 => ?_⟩
        have s13 := same_upd (o := .lst []) ne0
        refine ⟨_, _, dp_ints (ns := []) (SqL.of (s13 _ _ hC)), dp_ints (ns := []) (SqL.of upd_same), shaped_ints _, shaped_ints _, false, ?_, rfl, s12.trans s13⟩
        rw [eqv_ints, decide_eq_true rfl]
        rfl
    obtain ⟨rfl, s12⟩ := hI
    have s1012 := s11.trans s12
    have hp12 := s1012 _ _ hp10
    obtain ⟨lL8, _⟩ := due_few gd1 ft
    -- the told places lengthened
    refine ⟨_, rfl, z6, _, _, _, rfl, rfl, SqT.of (s1012 _ _ hz10), atI_nat (j := 1) rfl, .inl ⟨rfl, _, SqL.of hp12⟩, p6, _, _, rfl, rfl, hp12, szL' (by rw [List.length_map, List.length_map]; omega), ?_⟩
    have npd : p6 ≠ d := fun z => hd5n (by rw [← z]; exact th.np)
    have sb13 : SameBut p6 H12 (upd H12 p6 (.lst ((natI (thinM os os.length).1).map V.int ++ [.int 0]))) := .upd
    generalize upd H12 p6 (.lst ((natI (thinM os os.length).1).map V.int ++ [.int 0])) = H13 at sb13 ⊢
    have k513 : Ke (cutH d H5) (cutH d H13) := fun b o h n => by
      obtain ⟨nb, hb⟩ := cut_some h
      exact cut_put nb (sb13 _ _ (fun z => by rw [z, th.np] at hb; cases hb) (s1012 _ _ (cut_some (k510 b o h n)).2))
    have tb13 : Tb [t1, t2] H13 := tb_but sb13 hp12 (tb_same s1012 tb10)
    obtain ⟨ds10, hd10⟩ := hd10
    have hd13 := sb13 _ _ (Ne.symm npd) (s1012 _ _ hd10)
    clear k510 tb10 hp10 hp12 sb13 s1012 s11 s12 hq10 hq11 hz10 mrk hM hA old10 ofr9 ntup ownA inE fitE
    -- told again
    refine ⟨_, rfl, S, os, m, rfl, sho k513, gd1, ft, hm4, tb13, fun H14 z14 q14 p14 rs14 es14 e14 th14 => ?_⟩
    have k514 := k513.trans e14.ke.cut
    have hd14 := e14.lst hd13
    refine ⟨fun σ' H' => σ' = [some (.ref a), some (.ref d), some (.int (m : Int)), some (.ref S), some (.str (dShop os).shown), some (.ref z5), some (.ref z6), y7, y8, some (.ref z14), y10] ∧ Ext [t1, t2] H14 H', ?_, fun σ15 H15 hI => ?_⟩
    · refine ⟨Nat.zero_le _, fun z0 nz0 => ?_⟩
      have sz := same_upd (o := .lst []) nz0
      have hz0 : upd H14 z0 (.lst []) z0 = some (.lst (([] : List Addr).map V.ref)) := upd_same
      generalize upd H14 z0 (.lst []) = H15 at sz hz0 ⊢
      have x15 : Ext [t1, t2] H14 H15 := .same sz e14.t1
      refine ⟨z0, [], m, rfl, ShopAt.of_al hz0 True.intro, nil_ok, nil_ft, hm4, x15.t1, fun H16 z16 q16 p16 rs16 es16 e16 th16 => ?_⟩
      refine ⟨Nat.zero_le _, fun u1 nu1 => ⟨Nat.zero_le _, fun u2 nu2 => ⟨by show 2 ≤ sizeLine; decide, fun u3 nu3 => ?_⟩⟩⟩
      have su1 := same_upd (o := .lst []) nu1
      have su2 := same_upd (o := .lst []) nu2
      have su3 := same_upd (o := .tup [.ref u1, .ref u2]) nu3
      have sall := (su1.trans su2).trans su3
      have x17 := (x15.trans e16).trans (.same sall e16.t1)
      refine ⟨dDue [], .tuple [.list [], .list []], (th16.due.ke (.of sall)).dp, .tup (SqT.of upd_same) (.cons (.lst (SqL.of (su3 _ _ (su2 _ _ upd_same))) .nil) (.cons (.lst (SqL.of (su3 _ _ upd_same)) .nil) .nil)), by rw [d0]; decide +kernel, by decide +kernel, false, (by rw [d0]; rfl), ?_⟩
      generalize upd (upd (upd H16 u1 (.lst [])) u2 (.lst [])) u3 (.tup [.ref u1, .ref u2]) = H17 at x17 ⊢
      have k517 := k514.trans x17.ke.cut
      refine ⟨_, rfl, S, dShop os, rfl, (sho k517).dp, shS.ok, shS.nd, dpS, lnS, _, rfl, rfl, false, ?_, ?_⟩
      · show V.bl (!decide (V.str _ = V.str _)) = _
        rw [decide_eq_true rfl]
        rfl
      refine ⟨_, rfl, z14, dDue os, rfl, (th14.due.ke x17.ke).dp, shD.ok, shD.nd, dpD, lnD, _, rfl, z5, dDue os, rfl, (dud k517).dp, shD.ok, shD.nd, dpD, lnD, rfl, false, ?_, rfl, x17⟩
      show V.bl (!decide (V.str _ = V.str _)) = _
      rw [decide_eq_true rfl]
      rfl
    obtain ⟨rfl, x15⟩ := hI
    have k515 := k514.trans x15.ke.cut
    have hd15 := x15.lst hd14
    obtain ⟨us, gS, gal⟩ := (shop_ke k515 hsh5).al
    have B15 : Bh2 [t1, t2] S d m us (ds10.map V.int) H15 := ⟨⟨os, gal, gd1, ft⟩, gS, x15.t1, hd15⟩
    generalize (dShop os).shown = kept
    clear shS shD dpS dpD lnS lnD TI dud sho fnd th9 thC th th14 L9 L6 gal gS du5 hsh5 hsh
    -- contents turned about
    refine ⟨_, rfl, S, rfl, ⟨_, SqL.of (cut_some B15.s).2⟩, for_list (K := K) (a := S) (xs := us.map V.ref) (fun i σ H' => ∃ y8 : Option V, σ = [some (.ref a), some (.ref d), some (.int (m : Int)), some (.ref S), some (.str kept), some (.ref z5), some (.ref z6), y7, y8, some (.ref z14), y10] ∧ Bh2 [t1, t2] S d m us (ds10.map V.int) H') ⟨y8, rfl, B15⟩ (fun i σ H' _ hp => ?_) (fun i x σ H1 hx hp => ?_) (fun σ H1 hp => ?_)⟩
    · obtain ⟨_, _, B'⟩ := hp
      exact SqL.of (cut_some B'.s).2
    · obtain ⟨y8', rfl, B1⟩ := hp
      rw [List.getElem?_map] at hx
      cases hu : us[i]? with
      | none => rw [hu] at hx; cases hx
      | some u =>
        rw [hu] at hx
        cases Option.some.inj hx
        obtain ⟨os1, al1, gdd1, ft1⟩ := B1.sh
        obtain ⟨o, ho, hov⟩ := al1.get hu
        obtain ⟨b, r, g1, g2⟩ := hov.head
        have fo := (ft1 o (List.mem_of_getElem? ho)).cont
        refine ⟨_, rfl, u, _, _, _, rfl, rfl, SqT.of (cut_some g1).2, atI_nat (j := 1) rfl, .inl ⟨rfl, _, SqL.of (cut_some g2).2⟩, b, _, rfl, rfl, (cut_some g2).2, some (.ref u), rfl, ?_⟩
        rw [← List.map_reverse]
        exact B1.step g2 fo.1 hm1
    obtain ⟨y8', rfl, B1⟩ := hp
    have hS1 := (cut_some B1.s).2
    refine ⟨_, rfl, 1, rfl, -1, rfl, S, _, rfl, SqL.of hS1, fun C nC => ?_⟩
    have sC := same_upd (o := .lst (cutV (us.map V.ref) (some (-1)) none)) nC
    have hC : upd H1 C (.lst (cutV (us.map V.ref) (some (-1)) none)) C = some (.lst (cutV (us.map V.ref) (some (-1)) none)) := upd_same
    have lC := cut_last (us.map V.ref)
    rw [List.length_map] at lC
    have nCS : C ≠ S := (ne_of_none hS1 nC).symm
    have hS2 := sC _ _ hS1
    generalize upd H1 C (.lst (cutV (us.map V.ref) (some (-1)) none)) = H2 at sC hC hS2 ⊢
    refine ⟨C, rfl, ⟨_, SqL.of hC⟩, for_list (K := K) (a := C) (xs := cutV (us.map V.ref) (some (-1)) none) (fun i σ H' => ∃ y8 : Option V, σ = [some (.ref a), some (.ref d), some (.int (m : Int)), some (.ref S), some (.str kept), some (.ref z5), some (.ref z6), y7, y8, some (.ref z14), y10] ∧ SameBut S H2 H' ∧ H' S = some (.lst ((us.take (us.length - i)).map V.ref))) ⟨_, rfl, .refl _ _, by rw [Nat.sub_zero, List.take_length]; exact hS2⟩ (fun i σ H' _ hp => ?_) (fun i x σ H3 hx hp => ?_) (fun σ H3 hp => ?_)⟩
    · obtain ⟨_, _, sb, _⟩ := hp
      exact SqL.of (sb _ _ nCS hC)
    · obtain ⟨y8'', rfl, sb, hS3⟩ := hp
      have hi := (List.getElem?_eq_some_iff.mp hx).1
      have e0 : i = 0 := by omega
      subst e0
      rw [Nat.sub_zero, List.take_length] at hS3
      refine ⟨_, rfl, .inl ⟨rfl, _, SqL.of hS3⟩, S, _, _, rfl, rfl, hS3, List.getElem?_eq_getElem (by rw [List.length_map]; omega), _, rfl, sb.trans .upd, ?_⟩
      rw [upd_same, ← List.map_dropLast, List.dropLast_eq_take]
    obtain ⟨y8'', rfl, sb, hS3⟩ := hp
    generalize us.length - (cutV (us.map V.ref) (some (-1)) none).length = n at hS3
    clear hC lC
    obtain ⟨⟨os1, al1, gdd1, ft1⟩, bS, bT, bd⟩ := B1
    have nSd := (cut_some bS).1
    have sH : SameBut S H1 H3 := (SameBut.of sC).trans sb
    have cb : SameBut S (cutH d H1) (cutH d H3) := fun x o n h => cut_put (cut_some h).1 (sH _ _ n (cut_some h).2)
    have al3 : Al (OfrAt (cutH d H3)) us os1 := Al.impM' (fun v o h f g => ofr_but bS al1 cb h (by rw [f.cont.1]; exact hm1) g) ft1 (good_tiers_pos gdd1) al1
    have hd3 := sH _ _ nSd.symm bd
    have hT3 := tb_but sH (cut_some bS).2 bT
    have alT := al3.take n
    have gdT := good_take gdd1 n
    have ftT := fit_take ft1 n
    generalize os1.take n = os' at alT gdT ftT
    have shC : ShopAt (cutH d H3) S os' := ShopAt.of_al (cut_put nSd hS3) alT
    have shD := sh_due gdT ftT hm4
    have dpD := depth_due os'
    have lnD := due_len gdT ftT hm4
    refine ⟨_, rfl, S, os', m, rfl, shC.same cut_le, gdT, ftT, hm4, hT3, fun H4 z4 q4 p4 rs4 es4 e4 th4 => ?_⟩
    refine ⟨z4, dDue os', rfl, th4.due.dp, shD.ok, shD.nd, dpD, lnD, ?_⟩
    have hd4' := e4.lst hd3
    refine ⟨_, rfl, S, d, os', _, m, rfl, hd4', shop_ke e4.ke.cut shC, gdT, ftT, hm4, fun H5' z5' q5' p5' s5' nz5' np5' hz5' sh5' hp5' => ?_⟩
    have du : DueAt os' H5' z5' q5' p5' := ⟨hz5', sh5'.same cut_le, hp5'⟩
    refine ⟨z5', dDue os', rfl, du.dp, shD.ok, shD.nd, dpD, lnD, rfl, ?_⟩
    have := q H5'
    rw [show V.bl (decide (V.str (dDue os').shown = V.str (dDue os').shown)) = V.bl true by rw [decide_eq_true rfl]]
    exact this
end
/-! ### the end, with tables of code objects -/
theorem tabIn_of {K : PySem.W.Frag} {x : Str} {f c P : Addr} {oc e : Value} {od dd : Option Addr} {fd : FuncData} {sl sl' : Array (Option Value)} {vs : Array Value} (a : PySem.W.nsIn K mainGlobals x = some (some (.ref f))) (l : K.lookup f = some ⟨oc, od, .func fd, sl⟩) (hc : fd.code = .ref c)
    (lc : K.lookup c = some ⟨e, dd, .fields vs, sl'⟩) (hv : vs[11]? = some (.ref P)) : PySem.W.tabIn K x = some (c, P) := by
  unfold PySem.W.tabIn
  rw [a]
  simp only [l, hc, lc, hv]
theorem walk_ofG {l : PySem.W.OpenLaw} {n k : Nat} {q : Program} {loose : List Str} {XP : (Str → Option Value) → Heap → Prop} {YP : World → Heap → Prop} {d : DefRec} {K : Params → PySem.W.Frag} {CX : World → CXT} {x : Str}
    (hn : l.most = some n) (hn2 : n ≤ sizeLine) (hdf : d.params.defaults = []) (hr : Room k callerA) (hY : ∀ (w : World) (h : Heap), YP w h → (K w.params).In h)
    (F : ∀ (w : World) (mg : Str → Option Value) (fa : Addr) (h : Heap), (K w.params).In h → h.Ns mainGlobals mg → mg d.name = some (.ref fa) →
      (∀ (y : Str) (c P : Addr), ((recsOf q).find? fun e => e.name == y).isSome = true → PySem.W.tabIn (K w.params) y = some (c, P) → PySem.W.CodeHd h c P ∧ h.get? P = some { cls := .none, data := .fields #[] }) → LamX.LawAtS l w (K w.params) (CX w) k n x mg fa h)
    (hCX : ∀ (w : World) (H : Hp) (s : Shared) (e : Value) (s' : Shared), CX w [] H s (fun _ _ _ => False) e s' → False) :
    PySem.W.WalkO q loose XP YP l.row.toRowW d [] (fun f vs => PySem.call f vs) := by
  refine Att.attach_callB hn hdf fun w s₀ s₁ mg mb fa o pm cd doc a vs ns G Y ho hd hcd hmg hobj hints hlen hbits hg => ?_
  have KX := hY w _ Y
  obtain ⟨fd, cs, sp, hT, nT, C, hb, hsp, hF⟩ := F w mg fa _ KX G.T.g hmg fun y c P hy ht => by
    obtain ⟨dd, hdd⟩ := Option.isSome_iff_exists.mp hy
    exact PySem.W.tab_of G.T KX hdd ht
  exact LamX.law_callTs KX G.T.g G.T.b G.T.builtins G.T.nolimit hg hT nT C G.T.bmain hobj hints (Nat.le_trans hlen hn2) hr hF hb (fun H hH hS => hsp H a ns hlen hbits hH hS) fun H e s' => hCX w H s₁ e s'
/-! ### the end, for a law that shows data as texts -/
section
variable {P : Program} {w : World} {K : PySem.W.Frag} {mg mb : Str → Option Value} {k : Nat} {fa a : Addr} {cs : List (Addr × Addr)} {fd : FuncData} {x : Str} {sp : Sp} {s : Shared} {vs : List Value} {ns : List Int}
/-- a code object's table, as the head leaves it -/
abbrev tab0 : Obj := { cls := .none, data := .fields #[] }
/-- what is followed at the law's start: the tables, and the script unless it is written -/
def heap0 (K : PySem.W.Frag) (cs : List (Addr × Addr)) (a : Addr) (vs : List Value) (ns : List Int) : Hp := fun b =>
  if b ∈ cs.map Prod.snd then some (.tbl #[]) else if b = a ∧ K.lookup a = none then some (.frz { cls := .type "list", data := .seq vs.toArray } (.lst (ns.map V.int))) else none
theorem heap0_tab {b : Addr} (h : b ∈ cs.map Prod.snd) : heap0 K cs a vs ns b = some (.tbl #[]) := if_pos h
theorem heap0_scr (n : a ∉ cs.map Prod.snd) (h : K.lookup a = none) : heap0 K cs a vs ns a = some (.frz { cls := .type "list", data := .seq vs.toArray } (.lst (ns.map V.int))) := by
  unfold heap0
  rw [if_neg n, if_pos ⟨rfl, h⟩]
theorem heap0_cases {b : Addr} {u : HO} (h : heap0 K cs a vs ns b = some u) : (b ∈ cs.map Prod.snd ∧ u = .tbl #[]) ∨ (b = a ∧ K.lookup a = none ∧ u = .frz { cls := .type "list", data := .seq vs.toArray } (.lst (ns.map V.int))) := by
  unfold heap0 at h
  split at h
  · exact .inl ⟨by assumption, (Option.some.inj h).symm⟩
  · split at h
    · rename_i z
      exact .inr ⟨z.1, z.2, (Option.some.inj h).symm⟩
    · cases h
theorem lawG_call (kin : K.In s.heap) (glb : s.heap.Ns mainGlobals mg) (blt : s.heap.Ns builtinsNs mb) (std : ∀ x : Str, x ≠ "__name__" → mb x = bootBuiltins x) (nol : s.heap.NoLimit) (gens : s.gens = #[])
    (tabs : ∀ p ∈ cs, s.heap.get? p.2 = some tab0) (offK : ∀ p ∈ cs, K.lookup p.2 = none) (code : ∀ p ∈ cs, PySem.W.CodeHd s.heap p.1 p.2)
    (bmod : ∃ (bm : Addr) (ob : Obj), mg "__builtins__" = some (.ref bm) ∧ bm ≠ builtinsNs ∧ s.heap.get? bm = some ob ∧ ob.cls = .type "module" ∧ ob.dict = some builtinsNs ∧ ob.data = .plain)
    (scr : s.heap.get? a = some { cls := .type "list", data := .seq vs.toArray }) (areI : IntsAre vs ns) (few : ns.length ≤ sizeLine) (room : Room k callerA)
    (F : ∀ base : Heap, K.In base → base.Ns mainGlobals mg → (∀ p ∈ cs, GxR.TabB base mg p.1 p.2) → FnOkG P w K mg base k fa fd [x] sp) (bnd : ∀ (s : Shared) (u : Value), BindsTo s fd ⟨[u], []⟩ [(x, u)])
    (pre : ∀ H : Hp, (∀ p ∈ cs, H p.2 = some (.tbl #[])) → SqL K H a (ns.map V.int) → sp [.ref a] H (fun v _ => v = .bl true) fun _ _ _ => False) :
    codeAny (model P w) callerA (.call (.ref fa) ⟨[.ref a], []⟩) (fun r s' => r = .ok (.ret (.bool true)) ∧ OldK s.heap s'.heap ∧ s'.os = s.os ∧ AllBare s'.gens) s := by
  have tabT : ∀ {b}, b ∈ cs.map Prod.snd → s.heap.get? b = some tab0 := fun {b} hb => by
    obtain ⟨p, hp, rfl⟩ := List.mem_map.mp hb
    exact tabs p hp
  have inT : ∀ {p}, p ∈ cs → p.2 ∈ cs.map Prod.snd := fun {p} hp => List.mem_map.mpr ⟨p, hp, rfl⟩
  have scrT : a ∉ cs.map Prod.snd := fun hb => by
    have z := scr.symm.trans (tabT hb)
    injection Option.some.inj z with z1 _ _ _
    cases z1
  generalize hH : heap0 K cs a vs ns = H
  have onT : ∀ p ∈ cs, H p.2 = some (.tbl #[]) := fun p hp => by rw [← hH]; exact heap0_tab (inT hp)
  -- what else stands in the heap is not followed
  have off : ∀ {b : Addr} {o : Obj}, s.heap.get? b = some o → (∀ q n, o.data ≠ .seq q n) → o.data ≠ .fields #[] → H b = none := fun {b o} hb n1 n2 => by
    cases z : H b with
    | none => rfl
    | some u =>
      rw [← hH] at z
      rcases heap0_cases z with ⟨t, _⟩ | ⟨e, _, _⟩
      · cases (tabT t).symm.trans hb
        exact (n2 rfl).elim
      · rw [e] at hb
        cases scr.symm.trans hb
        exact (n1 _ _ rfl).elim
  have offD : ∀ {b : Addr} {o : Obj} {es : Array DictEntry} {ep : Nat}, s.heap.get? b = some o → o.data = .dict es ep → H b = none := fun {b o es ep} hb hd => off hb (fun q n z => by rw [hd] at z; cases z) (fun z => by rw [hd] at z; cases z)
  have nsB : ∀ {b : Addr} {m : Str → Option Value}, s.heap.Ns b m → (hidT s.heap H).Ns b m := fun {b m} z => by
    obtain ⟨o, es, ep, h1, h2, h3⟩ := z
    exact ⟨o, es, ep, hidT_get h1 (offD h1 h2), h2, h3⟩
  have seq : SqL K H a (ns.map V.int) := by
    have rel := vals_ints areI
    cases z : K.lookup a with
    | none => exact .inl (.inr ⟨_, by rw [← hH]; exact heap0_scr scrT z⟩)
    | some o =>
      cases scr.symm.trans (kin a o z)
      exact .inr ⟨_, vs.toArray, _, z, rfl, rfl, rfl, by rw [List.size_toArray, areI.length]; exact few, by simpa using rel⟩
  have hok : HOk P w H s.heap := fun b u z => by
    rw [← hH] at z
    rcases heap0_cases z with ⟨t, rfl⟩ | ⟨rfl, _, rfl⟩
    · exact tabT t
    · exact ⟨scr, by rw [List.length_map]; exact few, vs, _, vals_ints areI, scr⟩
  have kinB : K.In (hidT s.heap H) := fun b o z => hidT_get (kin b o z) (by
    cases y : H b with
    | none => rfl
    | some u =>
      rw [← hH] at y
      rcases heap0_cases y with ⟨t, _⟩ | ⟨e, n, _⟩
      · obtain ⟨p, hp, rfl⟩ := List.mem_map.mp t
        rw [offK p hp] at z
        cases z
      · rw [e, n] at z
        cases z)
  have tbB : ∀ p ∈ cs, GxR.TabB (hidT s.heap H) mg p.1 p.2 := fun p hp => by
    have tp := tabs p hp
    obtain ⟨og, eg, pg, g1, g2, _⟩ := id glb
    refine ⟨?_, ?_, fun z => ?_⟩
    · obtain ⟨o, q, y1, y2, y3, y4, y5, y6, y7, h1, h2, h3, h4, h5⟩ := code p hp
      refine ⟨o, q, y1, y2, y3, y4, y5, y6, y7, hidT_get h1 (off h1 (fun q n z => by rw [h3] at z; cases z) fun z => ?_), h2, h3, h4, h5⟩
      rw [h3] at z
      cases z
      simp at h4
    · obtain ⟨bm, ob, b1, b2, b3, b4, b5, b6⟩ := bmod
      have d1 : bm ≠ mainGlobals := fun z => by
        rw [z] at b3
        cases g1.symm.trans b3
        rw [g2] at b6
        cases b6
      have d2 : bm ≠ p.2 := fun z => by
        rw [z] at b3
        cases tp.symm.trans b3
        cases b6
      exact ⟨bm, ob, b1, b2, d1, d2, hidT_get b3 (off b3 (fun q n z => by rw [b6] at z; cases z) fun z => by rw [b6] at z; cases z), b4, b5, b6⟩
    · rw [z] at g1
      cases tp.symm.trans g1
      cases g2
  have env : Env0 P w K mg (hidT s.heap H) callerA [] s H := by
    refine ⟨rfl, ⟨kinB, nsB glb, ⟨mb, nsB blt, std⟩, ?_⟩, fun b o z => of_hidT z, Nat.le_of_eq (hidT_size _ _), trivial, fun b hb => absurd (show b ∈ ([] : List Addr) from hb) (List.not_mem_nil), hok, .of_eq gens⟩
    obtain ⟨mc, l1, l2⟩ := nol
    exact ⟨mc, nsB l1, l2⟩
  refine codeAny_mono ((F _ kinB (nsB glb) tbB).go callerA [] s H ⟨[.ref a], []⟩ [.ref a] [.ref a] _ _ rfl room env (bnd s (.ref a)) (.cons rfl .nil) (pre H onT seq)) fun r s' res => ?_
  match r, res with
  | .error e, z => exact z.elim
  | .ok (.ret u), ⟨v, H', os, bare, un, hok', rel, val⟩ =>
    have val' : v = .bl true := val
    subst val'
    obtain rfl : u = Value.bool true := rel
    have stay : ∀ {b : Addr} {o : Obj}, b ∉ cs.map Prod.snd → s.heap.get? b = some o → s'.heap.get? b = some o := fun {b o} nb hb => by
      cases z : H b with
      | none => exact un.keep b o hb z (fun y => absurd (show b ∈ ([] : List Addr) from y) List.not_mem_nil) (by simp)
      | some c =>
        have z0 := z
        rw [← hH] at z0
        rcases heap0_cases z0 with ⟨t, _⟩ | ⟨rfl, _, rfl⟩
        · exact absurd t nb
        · obtain ⟨y, _⟩ := hok' _ _ (un.frzs _ _ _ z)
          cases scr.symm.trans hb
          exact y
    have grow : ∀ {b : Addr}, b ∈ cs.map Prod.snd → isCodeTable s.heap b ∧ ∃ more : Array Value, s'.heap.get? b = some { cls := .none, data := .fields more } := fun {b} hb => by
      obtain ⟨p, hp, rfl⟩ := List.mem_map.mp hb
      obtain ⟨more, z⟩ := un.tbls p.2 #[] (onT p hp)
      exact ⟨((code p hp).tab (tabs p hp)).isCodeTable, _, hok' p.2 _ z⟩
    refine ⟨rfl, ⟨fun b o hb => ?_, fun b o hb => ?_⟩, os, bare⟩
    · by_cases t : b ∈ cs.map Prod.snd
      · obtain ⟨c1, more, c2⟩ := grow t
        cases (tabT t).symm.trans hb
        exact .inr (.inl ⟨c1, rfl, #[], more, rfl, by rw [Array.empty_append]; exact c2⟩)
      · exact .inl (stay t hb)
    · by_cases t : b ∈ cs.map Prod.snd
      · obtain ⟨_, more, c2⟩ := grow t
        exact ⟨_, c2⟩
      · exact ⟨o, stay t hb⟩
end
/-- the law's promise, for a law that shows data -/
def LawAtG (l : PySem.W.OpenLaw) (w : World) (K : PySem.W.Frag) (k n : Nat) (x : Str) (mg : Str → Option Value) (fa : Addr) (h : Heap) : Prop :=
  ∃ (fd : FuncData) (cs : List (Addr × Addr)) (sp : Sp), (∀ p ∈ cs, h.get? p.2 = some tab0) ∧ (∀ p ∈ cs, K.lookup p.2 = none) ∧ (∀ p ∈ cs, PySem.W.CodeHd h p.1 p.2) ∧ (∀ (s : Shared) (u : Value), BindsTo s fd ⟨[u], []⟩ [(x, u)]) ∧
    (∀ (H : Hp) (a : Addr) (ns : List Int), ns.length ≤ n → (∀ p ∈ cs, H p.2 = some (.tbl #[])) → SqL K H a (ns.map V.int) → sp [.ref a] H (fun v _ => v = .bl true) fun _ _ _ => False) ∧
    ∀ base : Heap, K.In base → base.Ns mainGlobals mg → (∀ p ∈ cs, GxR.TabB base mg p.1 p.2) → FnOkG l.prog w K mg base k fa fd [x] sp
theorem walk_ofH {l : PySem.W.OpenLaw} {n k : Nat} {q : Program} {loose : List Str} {XP : (Str → Option Value) → Heap → Prop} {YP : World → Heap → Prop} {d : DefRec} {K : Params → PySem.W.Frag} {x : Str}
    (most : l.most = some n) (few : n ≤ sizeLine) (nodef : d.params.defaults = []) (room : Room k callerA) (hK : ∀ (w : World) (h : Heap), YP w h → (K w.params).In h)
    (F : ∀ (w : World) (mg : Str → Option Value) (fa : Addr) (h : Heap), (K w.params).In h → h.Ns mainGlobals mg → mg d.name = some (.ref fa) →
      (∀ (y : Str) (c P : Addr), ((recsOf q).find? fun e => e.name == y).isSome = true → PySem.W.tabIn (K w.params) y = some (c, P) → PySem.W.CodeHd h c P ∧ h.get? P = some tab0) → LawAtG l w (K w.params) k n x mg fa h) :
    PySem.W.WalkO q loose XP YP l.row.toRowW d [] (fun f vs => PySem.call f vs) := by
  refine Att.attach_callB most nodef fun w s₀ s₁ mg mb fa o pm cd doc a vs ns gr Y _ _ _ named scr areI len _ gens => ?_
  have kin := hK w _ Y
  obtain ⟨fd, cs, sp, h1, h2, h3, h4, h5, h6⟩ := F w mg fa _ kin gr.T.g named fun y c P isR tb => by
    obtain ⟨rec, e⟩ := Option.isSome_iff_exists.mp isR
    exact PySem.W.tab_of gr.T kin e tb
  exact lawG_call kin gr.T.g gr.T.b gr.T.builtins gr.T.nolimit gens h1 h2 h3 gr.T.bmain scr areI (Nat.le_trans len few) room h6 h4 fun H t z => h5 H a ns len t z
/-! ### what the top has written -/
theorem all_mk {l : PySem.W.OpenLaw} {w : World} {q : Program} {K : PySem.W.Frag} {h : Heap} {mg : Str → Option Value} {fa f1 f2 f3 f4 f5 f6 f7 f8 f9 f10 f11 f12 f13 f14 f15 f16 f17 f18 f19 f20 f21 f22 f23 f24 f25 f26 f27 f28 f29 f30 f31 f32 f33 f34 f35 f36 f37 f38 f39 f40 f41 f42 f43 : Addr} (X : K.In h) (G : h.Ns mainGlobals mg) (hfa : mg "law" = some (.ref fa))
    (tabs : ∀ (y : Str) (c P : Addr), ((recsOf q).find? fun e => e.name == y).isSome = true → PySem.W.tabIn K y = some (c, P) → PySem.W.CodeHd h c P ∧ h.get? P = some { cls := .none, data := .fields #[] })
    {od1 an1 od2 an2 od3 an3 od4 an4 od5 an5 od6 an6 od7 an7 od8 an8 od9 an9 od10 an10 od11 an11 od12 an12 od13 an13 od14 an14 od15 an15 od16 an16 od17 an17 od18 an18 od19 an19 od20 an20 od21 an21 od22 an22 od23 an23 od24 an24 od25 an25 od26 an26 od27 an27 od28 an28 od29 an29 od30 an30 od31 an31 od32 an32 od33 an33 od34 an34 od35 an35 od36 an36 od37 an37 od38 an38 od39 an39 od40 an40 od41 an41 od42 an42 od43 an43 : Option Addr} {sl1 sl2 sl3 sl4 sl5 sl6 sl7 sl8 sl9 sl10 sl11 sl12 sl13 sl14 sl15 sl16 sl17 sl18 sl19 sl20 sl21 sl22 sl23 sl24 sl25 sl26 sl27 sl28 sl29 sl30 sl31 sl32 sl33 sl34 sl35 sl36 sl37 sl38 sl39 sl40 sl41 sl42 sl43 : Array (Option Value)} {oc1 kV1 dc1 pm1 ct1 cd1 oc2 kV2 dc2 pm2 ct2 cd2 oc3 kV3 dc3 pm3 ct3 oc4 kV4 dc4 pm4 ct4 cd4 oc5 kV5 dc5 pm5 ct5 cd5 oc6 kV6 dc6 pm6 ct6 cd6 oc7 kV7 dc7 pm7 ct7 cd7 oc8 kV8 dc8 pm8 ct8 cd8 oc9 kV9 dc9 pm9 ct9 cd9 oc10 kV10 dc10 pm10 ct10 cd10 oc11 kV11 dc11 pm11 ct11 cd11 oc12 kV12 dc12 pm12 ct12 cd12 oc13 kV13 dc13 pm13 ct13 oc14 kV14 dc14 pm14 ct14 cd14 oc15 kV15 dc15 pm15 ct15 cd15 oc16 kV16 dc16 pm16 ct16 cd16 oc17 kV17 dc17 pm17 ct17 cd17 oc18 kV18 dc18 pm18 ct18 cd18 oc19 kV19 dc19 pm19 ct19 cd19 oc20 kV20 dc20 pm20 ct20 cd20 oc21 kV21 dc21 pm21 ct21 cd21 oc22 kV22 dc22 pm22 ct22 cd22 oc23 kV23 dc23 pm23 ct23 cd23 oc24 kV24 dc24 pm24 ct24 cd24 oc25 kV25 dc25 pm25 ct25 cd25 oc26 kV26 dc26 pm26 ct26 cd26 oc27 kV27 dc27 pm27 ct27 cd27 oc28 kV28 dc28 pm28 ct28 cd28 oc29 kV29 dc29 pm29 ct29 cd29 oc30 kV30 dc30 pm30 ct30 cd30 oc31 kV31 dc31 pm31 ct31 cd31 oc32 kV32 dc32 pm32 ct32 cd32 oc33 kV33 dc33 pm33 ct33 cd33 oc34 kV34 dc34 pm34 ct34 cd34 oc35 kV35 dc35 pm35 ct35 cd35 oc36 kV36 dc36 pm36 ct36 cd36 oc37 kV37 dc37 pm37 ct37 cd37 oc38 kV38 dc38 pm38 ct38 cd38 oc39 kV39 dc39 pm39 ct39 cd39 oc40 kV40 dc40 pm40 ct40 cd40 oc41 kV41 dc41 pm41 ct41 cd41 oc42 kV42 dc42 pm42 ct42 cd42 oc43 kV43 dc43 pm43 ct43 cd43 : Value}
    {cT3 PT3 : Addr} {eT3 : Value} {dT3 : Option Addr} {vT3 : Array Value} {sT3 : Array (Option Value)}
    {cT13 PT13 : Addr} {eT13 : Value} {dT13 : Option Addr} {vT13 : Array Value} {sT13 : Array (Option Value)}
    (a1 : PySem.W.nsIn K mainGlobals "law" = some (some (.ref f1))) (l1 : K.lookup f1 = some ⟨oc1, od1, .func (PySem.W.fnOf "law" "law" (defArgs s_law) (defBody s_law) (defScope s_law) .none kV1 dc1 pm1 an1 cd1 ct1), sl1⟩) (c1 : PySem.W.codeIn K cd1 "law" = true) (k1 : PySem.W.keepIn K (.ref f1) = true)
    (a2 : PySem.W.nsIn K mainGlobals "names_pack" = some (some (.ref f2))) (l2 : K.lookup f2 = some ⟨oc2, od2, .func (PySem.W.fnOf "names_pack" "names_pack" (defArgs s_names_pack) (defBody s_names_pack) (defScope s_names_pack) .none kV2 dc2 pm2 an2 cd2 ct2), sl2⟩) (c2 : PySem.W.codeIn K cd2 "names_pack" = true) (k2 : PySem.W.keepIn K (.ref f2) = true)
    (a3 : PySem.W.nsIn K mainGlobals "good_tiers" = some (some (.ref f3))) (l3 : K.lookup f3 = some ⟨oc3, od3, .func (PySem.W.fnOf "good_tiers" "good_tiers" (defArgs s_good_tiers) (defBody s_good_tiers) (defScope s_good_tiers) .none kV3 dc3 pm3 an3 (.ref cT3) ct3), sl3⟩) (c3 : PySem.W.codeIn K (.ref cT3) "good_tiers" = true) (k3 : PySem.W.keepIn K (.ref f3) = true)
    (a4 : PySem.W.nsIn K mainGlobals "can_stand" = some (some (.ref f4))) (l4 : K.lookup f4 = some ⟨oc4, od4, .func (PySem.W.fnOf "can_stand" "can_stand" (defArgs s_can_stand) (defBody s_can_stand) (defScope s_can_stand) .none kV4 dc4 pm4 an4 cd4 ct4), sl4⟩) (c4 : PySem.W.codeIn K cd4 "can_stand" = true) (k4 : PySem.W.keepIn K (.ref f4) = true)
    (a5 : PySem.W.nsIn K mainGlobals "look" = some (some (.ref f5))) (l5 : K.lookup f5 = some ⟨oc5, od5, .func (PySem.W.fnOf "look" "look" (defArgs s_look) (defBody s_look) (defScope s_look) .none kV5 dc5 pm5 an5 cd5 ct5), sl5⟩) (c5 : PySem.W.codeIn K cd5 "look" = true) (k5 : PySem.W.keepIn K (.ref f5) = true)
    (a6 : PySem.W.nsIn K mainGlobals "adds_to" = some (some (.ref f6))) (l6 : K.lookup f6 = some ⟨oc6, od6, .func (PySem.W.fnOf "adds_to" "adds_to" (defArgs s_adds_to) (defBody s_adds_to) (defScope s_adds_to) .none kV6 dc6 pm6 an6 cd6 ct6), sl6⟩) (c6 : PySem.W.codeIn K cd6 "adds_to" = true) (k6 : PySem.W.keepIn K (.ref f6) = true)
    (a7 : PySem.W.nsIn K mainGlobals "choices" = some (some (.ref f7))) (l7 : K.lookup f7 = some ⟨oc7, od7, .func (PySem.W.fnOf "choices" "choices" (defArgs s_choices) (defBody s_choices) (defScope s_choices) .none kV7 dc7 pm7 an7 cd7 ct7), sl7⟩) (c7 : PySem.W.codeIn K cd7 "choices" = true) (k7 : PySem.W.keepIn K (.ref f7) = true)
    (a8 : PySem.W.nsIn K mainGlobals "lines_at" = some (some (.ref f8))) (l8 : K.lookup f8 = some ⟨oc8, od8, .func (PySem.W.fnOf "lines_at" "lines_at" (defArgs s_lines_at) (defBody s_lines_at) (defScope s_lines_at) .none kV8 dc8 pm8 an8 cd8 ct8), sl8⟩) (c8 : PySem.W.codeIn K cd8 "lines_at" = true) (k8 : PySem.W.keepIn K (.ref f8) = true)
    (a9 : PySem.W.nsIn K mainGlobals "lines" = some (some (.ref f9))) (l9 : K.lookup f9 = some ⟨oc9, od9, .func (PySem.W.fnOf "lines" "lines" (defArgs s_lines) (defBody s_lines) (defScope s_lines) .none kV9 dc9 pm9 an9 cd9 ct9), sl9⟩) (c9 : PySem.W.codeIn K cd9 "lines" = true) (k9 : PySem.W.keepIn K (.ref f9) = true)
    (a10 : PySem.W.nsIn K mainGlobals "together" = some (some (.ref f10))) (l10 : K.lookup f10 = some ⟨oc10, od10, .func (PySem.W.fnOf "together" "together" (defArgs s_together) (defBody s_together) (defScope s_together) .none kV10 dc10 pm10 an10 cd10 ct10), sl10⟩) (c10 : PySem.W.codeIn K cd10 "together" = true) (k10 : PySem.W.keepIn K (.ref f10) = true)
    (a11 : PySem.W.nsIn K mainGlobals "content_of" = some (some (.ref f11))) (l11 : K.lookup f11 = some ⟨oc11, od11, .func (PySem.W.fnOf "content_of" "content_of" (defArgs s_content_of) (defBody s_content_of) (defScope s_content_of) .none kV11 dc11 pm11 an11 cd11 ct11), sl11⟩) (c11 : PySem.W.codeIn K cd11 "content_of" = true) (k11 : PySem.W.keepIn K (.ref f11) = true)
    (a12 : PySem.W.nsIn K mainGlobals "piece_price" = some (some (.ref f12))) (l12 : K.lookup f12 = some ⟨oc12, od12, .func (PySem.W.fnOf "piece_price" "piece_price" (defArgs s_piece_price) (defBody s_piece_price) (defScope s_piece_price) .none kV12 dc12 pm12 an12 cd12 ct12), sl12⟩) (c12 : PySem.W.codeIn K cd12 "piece_price" = true) (k12 : PySem.W.keepIn K (.ref f12) = true)
    (a13 : PySem.W.nsIn K mainGlobals "price_of" = some (some (.ref f13))) (l13 : K.lookup f13 = some ⟨oc13, od13, .func (PySem.W.fnOf "price_of" "price_of" (defArgs s_price_of) (defBody s_price_of) (defScope s_price_of) .none kV13 dc13 pm13 an13 (.ref cT13) ct13), sl13⟩) (c13 : PySem.W.codeIn K (.ref cT13) "price_of" = true) (k13 : PySem.W.keepIn K (.ref f13) = true)
    (a14 : PySem.W.nsIn K mainGlobals "priced_lines" = some (some (.ref f14))) (l14 : K.lookup f14 = some ⟨oc14, od14, .func (PySem.W.fnOf "priced_lines" "priced_lines" (defArgs s_priced_lines) (defBody s_priced_lines) (defScope s_priced_lines) .none kV14 dc14 pm14 an14 cd14 ct14), sl14⟩) (c14 : PySem.W.codeIn K cd14 "priced_lines" = true) (k14 : PySem.W.keepIn K (.ref f14) = true)
    (a15 : PySem.W.nsIn K mainGlobals "had" = some (some (.ref f15))) (l15 : K.lookup f15 = some ⟨oc15, od15, .func (PySem.W.fnOf "had" "had" (defArgs s_had) (defBody s_had) (defScope s_had) .none kV15 dc15 pm15 an15 cd15 ct15), sl15⟩) (c15 : PySem.W.codeIn K cd15 "had" = true) (k15 : PySem.W.keepIn K (.ref f15) = true)
    (a16 : PySem.W.nsIn K mainGlobals "rest" = some (some (.ref f16))) (l16 : K.lookup f16 = some ⟨oc16, od16, .func (PySem.W.fnOf "rest" "rest" (defArgs s_rest) (defBody s_rest) (defScope s_rest) .none kV16 dc16 pm16 an16 cd16 ct16), sl16⟩) (c16 : PySem.W.codeIn K cd16 "rest" = true) (k16 : PySem.W.keepIn K (.ref f16) = true)
    (a17 : PySem.W.nsIn K mainGlobals "lesser" = some (some (.ref f17))) (l17 : K.lookup f17 = some ⟨oc17, od17, .func (PySem.W.fnOf "lesser" "lesser" (defArgs s_lesser) (defBody s_lesser) (defScope s_lesser) .none kV17 dc17 pm17 an17 cd17 ct17), sl17⟩) (c17 : PySem.W.codeIn K cd17 "lesser" = true) (k17 : PySem.W.keepIn K (.ref f17) = true)
    (a18 : PySem.W.nsIn K mainGlobals "best_step" = some (some (.ref f18))) (l18 : K.lookup f18 = some ⟨oc18, od18, .func (PySem.W.fnOf "best_step" "best_step" (defArgs s_best_step) (defBody s_best_step) (defScope s_best_step) .none kV18 dc18 pm18 an18 cd18 ct18), sl18⟩) (c18 : PySem.W.codeIn K cd18 "best_step" = true) (k18 : PySem.W.keepIn K (.ref f18) = true)
    (a19 : PySem.W.nsIn K mainGlobals "all_steps" = some (some (.ref f19))) (l19 : K.lookup f19 = some ⟨oc19, od19, .func (PySem.W.fnOf "all_steps" "all_steps" (defArgs s_all_steps) (defBody s_all_steps) (defScope s_all_steps) .none kV19 dc19 pm19 an19 cd19 ct19), sl19⟩) (c19 : PySem.W.codeIn K cd19 "all_steps" = true) (k19 : PySem.W.keepIn K (.ref f19) = true)
    (a20 : PySem.W.nsIn K mainGlobals "cheapest" = some (some (.ref f20))) (l20 : K.lookup f20 = some ⟨oc20, od20, .func (PySem.W.fnOf "cheapest" "cheapest" (defArgs s_cheapest) (defBody s_cheapest) (defScope s_cheapest) .none kV20 dc20 pm20 an20 cd20 ct20), sl20⟩) (c20 : PySem.W.codeIn K cd20 "cheapest" = true) (k20 : PySem.W.keepIn K (.ref f20) = true)
    (a21 : PySem.W.nsIn K mainGlobals "least" = some (some (.ref f21))) (l21 : K.lookup f21 = some ⟨oc21, od21, .func (PySem.W.fnOf "least" "least" (defArgs s_least) (defBody s_least) (defScope s_least) .none kV21 dc21 pm21 an21 cd21 ct21), sl21⟩) (c21 : PySem.W.codeIn K cd21 "least" = true) (k21 : PySem.W.keepIn K (.ref f21) = true)
    (a22 : PySem.W.nsIn K mainGlobals "without" = some (some (.ref f22))) (l22 : K.lookup f22 = some ⟨oc22, od22, .func (PySem.W.fnOf "without" "without" (defArgs s_without) (defBody s_without) (defScope s_without) .none kV22 dc22 pm22 an22 cd22 ct22), sl22⟩) (c22 : PySem.W.codeIn K cd22 "without" = true) (k22 : PySem.W.keepIn K (.ref f22) = true)
    (a23 : PySem.W.nsIn K mainGlobals "instead" = some (some (.ref f23))) (l23 : K.lookup f23 = some ⟨oc23, od23, .func (PySem.W.fnOf "instead" "instead" (defArgs s_instead) (defBody s_instead) (defScope s_instead) .none kV23 dc23 pm23 an23 cd23 ct23), sl23⟩) (c23 : PySem.W.codeIn K cd23 "instead" = true) (k23 : PySem.W.keepIn K (.ref f23) = true)
    (a24 : PySem.W.nsIn K mainGlobals "spared" = some (some (.ref f24))) (l24 : K.lookup f24 = some ⟨oc24, od24, .func (PySem.W.fnOf "spared" "spared" (defArgs s_spared) (defBody s_spared) (defScope s_spared) .none kV24 dc24 pm24 an24 cd24 ct24), sl24⟩) (c24 : PySem.W.codeIn K cd24 "spared" = true) (k24 : PySem.W.keepIn K (.ref f24) = true)
    (a25 : PySem.W.nsIn K mainGlobals "offer_left" = some (some (.ref f25))) (l25 : K.lookup f25 = some ⟨oc25, od25, .func (PySem.W.fnOf "offer_left" "offer_left" (defArgs s_offer_left) (defBody s_offer_left) (defScope s_offer_left) .none kV25 dc25 pm25 an25 cd25 ct25), sl25⟩) (c25 : PySem.W.codeIn K cd25 "offer_left" = true) (k25 : PySem.W.keepIn K (.ref f25) = true)
    (a26 : PySem.W.nsIn K mainGlobals "thinned" = some (some (.ref f26))) (l26 : K.lookup f26 = some ⟨oc26, od26, .func (PySem.W.fnOf "thinned" "thinned" (defArgs s_thinned) (defBody s_thinned) (defScope s_thinned) .none kV26 dc26 pm26 an26 cd26 ct26), sl26⟩) (c26 : PySem.W.codeIn K cd26 "thinned" = true) (k26 : PySem.W.keepIn K (.ref f26) = true)
    (a27 : PySem.W.nsIn K mainGlobals "_law_mix" = some (some (.ref f27))) (l27 : K.lookup f27 = some ⟨oc27, od27, .func (PySem.W.fnOf "_law_mix" "_law_mix" (defArgs s_law_mix) (defBody s_law_mix) (defScope s_law_mix) .none kV27 dc27 pm27 an27 cd27 ct27), sl27⟩) (c27 : PySem.W.codeIn K cd27 "_law_mix" = true) (k27 : PySem.W.keepIn K (.ref f27) = true)
    (a28 : PySem.W.nsIn K mainGlobals "_law_draws" = some (some (.ref f28))) (l28 : K.lookup f28 = some ⟨oc28, od28, .func (PySem.W.fnOf "_law_draws" "_law_draws" (defArgs s_law_draws) (defBody s_law_draws) (defScope s_law_draws) .none kV28 dc28 pm28 an28 cd28 ct28), sl28⟩) (c28 : PySem.W.codeIn K cd28 "_law_draws" = true) (k28 : PySem.W.keepIn K (.ref f28) = true)
    (a29 : PySem.W.nsIn K mainGlobals "_law_pop" = some (some (.ref f29))) (l29 : K.lookup f29 = some ⟨oc29, od29, .func (PySem.W.fnOf "_law_pop" "_law_pop" (defArgs s_law_pop) (defBody s_law_pop) (defScope s_law_pop) .none kV29 dc29 pm29 an29 cd29 ct29), sl29⟩) (c29 : PySem.W.codeIn K cd29 "_law_pop" = true) (k29 : PySem.W.keepIn K (.ref f29) = true)
    (a30 : PySem.W.nsIn K mainGlobals "_law_cut" = some (some (.ref f30))) (l30 : K.lookup f30 = some ⟨oc30, od30, .func (PySem.W.fnOf "_law_cut" "_law_cut" (defArgs s_law_cut) (defBody s_law_cut) (defScope s_law_cut) .none kV30 dc30 pm30 an30 cd30 ct30), sl30⟩) (c30 : PySem.W.codeIn K cd30 "_law_cut" = true) (k30 : PySem.W.keepIn K (.ref f30) = true)
    (a31 : PySem.W.nsIn K mainGlobals "_law_content" = some (some (.ref f31))) (l31 : K.lookup f31 = some ⟨oc31, od31, .func (PySem.W.fnOf "_law_content" "_law_content" (defArgs s_law_content) (defBody s_law_content) (defScope s_law_content) .none kV31 dc31 pm31 an31 cd31 ct31), sl31⟩) (c31 : PySem.W.codeIn K cd31 "_law_content" = true) (k31 : PySem.W.keepIn K (.ref f31) = true)
    (a32 : PySem.W.nsIn K mainGlobals "_law_want" = some (some (.ref f32))) (l32 : K.lookup f32 = some ⟨oc32, od32, .func (PySem.W.fnOf "_law_want" "_law_want" (defArgs s_law_want) (defBody s_law_want) (defScope s_law_want) .none kV32 dc32 pm32 an32 cd32 ct32), sl32⟩) (c32 : PySem.W.codeIn K cd32 "_law_want" = true) (k32 : PySem.W.keepIn K (.ref f32) = true)
    (a33 : PySem.W.nsIn K mainGlobals "_law_groups" = some (some (.ref f33))) (l33 : K.lookup f33 = some ⟨oc33, od33, .func (PySem.W.fnOf "_law_groups" "_law_groups" (defArgs s_law_groups) (defBody s_law_groups) (defScope s_law_groups) .none kV33 dc33 pm33 an33 cd33 ct33), sl33⟩) (c33 : PySem.W.codeIn K cd33 "_law_groups" = true) (k33 : PySem.W.keepIn K (.ref f33) = true)
    (a34 : PySem.W.nsIn K mainGlobals "_law_sum" = some (some (.ref f34))) (l34 : K.lookup f34 = some ⟨oc34, od34, .func (PySem.W.fnOf "_law_sum" "_law_sum" (defArgs s_law_sum) (defBody s_law_sum) (defScope s_law_sum) .none kV34 dc34 pm34 an34 cd34 ct34), sl34⟩) (c34 : PySem.W.codeIn K cd34 "_law_sum" = true) (k34 : PySem.W.keepIn K (.ref f34) = true)
    (a35 : PySem.W.nsIn K mainGlobals "_law_lines" = some (some (.ref f35))) (l35 : K.lookup f35 = some ⟨oc35, od35, .func (PySem.W.fnOf "_law_lines" "_law_lines" (defArgs s_law_lines) (defBody s_law_lines) (defScope s_law_lines) .none kV35 dc35 pm35 an35 cd35 ct35), sl35⟩) (c35 : PySem.W.codeIn K cd35 "_law_lines" = true) (k35 : PySem.W.keepIn K (.ref f35) = true)
    (a36 : PySem.W.nsIn K mainGlobals "_law_lesser" = some (some (.ref f36))) (l36 : K.lookup f36 = some ⟨oc36, od36, .func (PySem.W.fnOf "_law_lesser" "_law_lesser" (defArgs s_law_lesser) (defBody s_law_lesser) (defScope s_law_lesser) .none kV36 dc36 pm36 an36 cd36 ct36), sl36⟩) (c36 : PySem.W.codeIn K cd36 "_law_lesser" = true) (k36 : PySem.W.keepIn K (.ref f36) = true)
    (a37 : PySem.W.nsIn K mainGlobals "_law_rest" = some (some (.ref f37))) (l37 : K.lookup f37 = some ⟨oc37, od37, .func (PySem.W.fnOf "_law_rest" "_law_rest" (defArgs s_law_rest) (defBody s_law_rest) (defScope s_law_rest) .none kV37 dc37 pm37 an37 cd37 ct37), sl37⟩) (c37 : PySem.W.codeIn K cd37 "_law_rest" = true) (k37 : PySem.W.keepIn K (.ref f37) = true)
    (a38 : PySem.W.nsIn K mainGlobals "_law_table" = some (some (.ref f38))) (l38 : K.lookup f38 = some ⟨oc38, od38, .func (PySem.W.fnOf "_law_table" "_law_table" (defArgs s_law_table) (defBody s_law_table) (defScope s_law_table) .none kV38 dc38 pm38 an38 cd38 ct38), sl38⟩) (c38 : PySem.W.codeIn K cd38 "_law_table" = true) (k38 : PySem.W.keepIn K (.ref f38) = true)
    (a39 : PySem.W.nsIn K mainGlobals "_law_packs" = some (some (.ref f39))) (l39 : K.lookup f39 = some ⟨oc39, od39, .func (PySem.W.fnOf "_law_packs" "_law_packs" (defArgs s_law_packs) (defBody s_law_packs) (defScope s_law_packs) .none kV39 dc39 pm39 an39 cd39 ct39), sl39⟩) (c39 : PySem.W.codeIn K cd39 "_law_packs" = true) (k39 : PySem.W.keepIn K (.ref f39) = true)
    (a40 : PySem.W.nsIn K mainGlobals "_law_alone" = some (some (.ref f40))) (l40 : K.lookup f40 = some ⟨oc40, od40, .func (PySem.W.fnOf "_law_alone" "_law_alone" (defArgs s_law_alone) (defBody s_law_alone) (defScope s_law_alone) .none kV40 dc40 pm40 an40 cd40 ct40), sl40⟩) (c40 : PySem.W.codeIn K cd40 "_law_alone" = true) (k40 : PySem.W.keepIn K (.ref f40) = true)
    (a41 : PySem.W.nsIn K mainGlobals "_law_without" = some (some (.ref f41))) (l41 : K.lookup f41 = some ⟨oc41, od41, .func (PySem.W.fnOf "_law_without" "_law_without" (defArgs s_law_without) (defBody s_law_without) (defScope s_law_without) .none kV41 dc41 pm41 an41 cd41 ct41), sl41⟩) (c41 : PySem.W.codeIn K cd41 "_law_without" = true) (k41 : PySem.W.keepIn K (.ref f41) = true)
    (a42 : PySem.W.nsIn K mainGlobals "_law_due" = some (some (.ref f42))) (l42 : K.lookup f42 = some ⟨oc42, od42, .func (PySem.W.fnOf "_law_due" "_law_due" (defArgs s_law_due) (defBody s_law_due) (defScope s_law_due) .none kV42 dc42 pm42 an42 cd42 ct42), sl42⟩) (c42 : PySem.W.codeIn K cd42 "_law_due" = true) (k42 : PySem.W.keepIn K (.ref f42) = true)
    (a43 : PySem.W.nsIn K mainGlobals "_law_number" = some (some (.ref f43))) (l43 : K.lookup f43 = some ⟨oc43, od43, .func (PySem.W.fnOf "_law_number" "_law_number" (defArgs s_law_number) (defBody s_law_number) (defScope s_law_number) .none kV43 dc43 pm43 an43 cd43 ct43), sl43⟩) (c43 : PySem.W.codeIn K cd43 "_law_number" = true) (k43 : PySem.W.keepIn K (.ref f43) = true)
    (lc3 : K.lookup cT3 = some ⟨eT3, dT3, .fields vT3, sT3⟩) (hv3 : vT3[11]? = some (.ref PT3)) (nt3 : (K.lookup PT3).isNone = true) (rc3 : ((recsOf q).find? fun e => e.name == ("good_tiers" : Str)).isSome = true)
    (lc13 : K.lookup cT13 = some ⟨eT13, dT13, .fields vT13, sT13⟩) (hv13 : vT13[11]? = some (.ref PT13)) (nt13 : (K.lookup PT13).isNone = true) (rc13 : ((recsOf q).find? fun e => e.name == ("price_of" : Str)).isSome = true)
    (z1 : PySem.W.nsIn K mainGlobals "len" = some none)
    (z2 : PySem.W.nsIn K mainGlobals "range" = some none)
    (z3 : PySem.W.nsIn K mainGlobals "max" = some none)
    (z4 : PySem.W.nsIn K mainGlobals "list" = some none)
    (z5 : PySem.W.nsIn K mainGlobals "isinstance" = some none)
    (z6 : PySem.W.nsIn K mainGlobals "int" = some none)
    (z7 : PySem.W.nsIn K mainGlobals "bool" = some none)
    (z8 : PySem.W.nsIn K mainGlobals "enumerate" = some none)
    (z9 : PySem.W.nsIn K mainGlobals "all" = some none)
    (z10 : PySem.W.nsIn K mainGlobals "zip" = some none)
    (z11 : PySem.W.nsIn K mainGlobals "reversed" = some none)
    (z12 : PySem.W.nsIn K mainGlobals "sum" = some none)
    (z13 : PySem.W.nsIn K mainGlobals "sorted" = some none)
    (z14 : PySem.W.nsIn K mainGlobals "tuple" = some none)
    (z15 : PySem.W.nsIn K mainGlobals "any" = some none)
    (z16 : PySem.W.nsIn K mainGlobals "min" = some none)
    (z17 : PySem.W.nsIn K mainGlobals "str" = some none)
    (z18 : PySem.W.nsIn K mainGlobals "abs" = some none)
    {tk1 : Tok} (q1 : PySem.W.nsIn K mainGlobals "MOST_TIERS" = some (some (.int 4 tk1)))
    {tk2 : Tok} (q2 : PySem.W.nsIn K mainGlobals "MOST_PIECES" = some (some (.int 12 tk2)))
    : LawAtG l w K 10 63 "_law_script" mg fa h := by
  have e := hfa.symm.trans (PySem.W.mg_of X G a1)
  cases e
  have F1 := fun_mk (st := s_law) l1 c1 k1
  have b1 := F1.binds (ps := ["_law_script"]) fun _ _ _ _ _ _ us hl => match us, hl with | [_], _ => rfl
  have F2 := fun_mk (st := s_names_pack) l2 c2 k2
  have b2 := F2.binds (ps := ["shop", "at"]) fun _ _ _ _ _ _ us hl => match us, hl with | [_, _], _ => rfl
  have F3 := fun_mk (st := s_good_tiers) l3 c3 k3
  have b3 := F3.binds (ps := ["tiers"]) fun _ _ _ _ _ _ us hl => match us, hl with | [_], _ => rfl
  have F4 := fun_mk (st := s_can_stand) l4 c4 k4
  have b4 := F4.binds (ps := ["shop", "at"]) fun _ _ _ _ _ _ us hl => match us, hl with | [_, _], _ => rfl
  have F5 := fun_mk (st := s_look) l5 c5 k5
  have b5 := F5.binds (ps := ["shop"]) fun _ _ _ _ _ _ us hl => match us, hl with | [_], _ => rfl
  have F6 := fun_mk (st := s_adds_to) l6 c6 k6
  have b6 := F6.binds (ps := ["shop", "place"]) fun _ _ _ _ _ _ us hl => match us, hl with | [_, _], _ => rfl
  have F7 := fun_mk (st := s_choices) l7 c7 k7
  have b7 := F7.binds (ps := ["places"]) fun _ _ _ _ _ _ us hl => match us, hl with | [_], _ => rfl
  have F8 := fun_mk (st := s_lines_at) l8 c8 k8
  have b8 := F8.binds (ps := ["shop", "place"]) fun _ _ _ _ _ _ us hl => match us, hl with | [_, _], _ => rfl
  have F9 := fun_mk (st := s_lines) l9 c9 k9
  have b9 := F9.binds (ps := ["shop"]) fun _ _ _ _ _ _ us hl => match us, hl with | [_], _ => rfl
  have F10 := fun_mk (st := s_together) l10 c10 k10
  have b10 := F10.binds (ps := ["content", "other"]) fun _ _ _ _ _ _ us hl => match us, hl with | [_, _], _ => rfl
  have F11 := fun_mk (st := s_content_of) l11 c11 k11
  have b11 := F11.binds (ps := ["shop", "line"]) fun _ _ _ _ _ _ us hl => match us, hl with | [_, _], _ => rfl
  have F12 := fun_mk (st := s_piece_price) l12 c12 k12
  have b12 := F12.binds (ps := ["tiers", "count"]) fun _ _ _ _ _ _ us hl => match us, hl with | [_, _], _ => rfl
  have F13 := fun_mk (st := s_price_of) l13 c13 k13
  have b13 := F13.binds (ps := ["shop", "line"]) fun _ _ _ _ _ _ us hl => match us, hl with | [_, _], _ => rfl
  have F14 := fun_mk (st := s_priced_lines) l14 c14 k14
  have b14 := F14.binds (ps := ["shop"]) fun _ _ _ _ _ _ us hl => match us, hl with | [_], _ => rfl
  have F15 := fun_mk (st := s_had) l15 c15 k15
  have b15 := F15.binds (ps := ["content", "thing"]) fun _ _ _ _ _ _ us hl => match us, hl with | [_, _], _ => rfl
  have F16 := fun_mk (st := s_rest) l16 c16 k16
  have b16 := F16.binds (ps := ["want", "content"]) fun _ _ _ _ _ _ us hl => match us, hl with | [_, _], _ => rfl
  have F17 := fun_mk (st := s_lesser) l17 c17 k17
  have b17 := F17.binds (ps := ["want"]) fun _ _ _ _ _ _ us hl => match us, hl with | [_], _ => rfl
  have F18 := fun_mk (st := s_best_step) l18 c18 k18
  have b18 := F18.binds (ps := ["less", "priced", "steps"]) fun _ _ _ _ _ _ us hl => match us, hl with | [_, _, _], _ => rfl
  have F19 := fun_mk (st := s_all_steps) l19 c19 k19
  have b19 := F19.binds (ps := ["priced", "want"]) fun _ _ _ _ _ _ us hl => match us, hl with | [_, _], _ => rfl
  have F20 := fun_mk (st := s_cheapest) l20 c20 k20
  have b20 := F20.binds (ps := ["priced", "want"]) fun _ _ _ _ _ _ us hl => match us, hl with | [_, _], _ => rfl
  have F21 := fun_mk (st := s_least) l21 c21 k21
  have b21 := F21.binds (ps := ["shop", "want"]) fun _ _ _ _ _ _ us hl => match us, hl with | [_, _], _ => rfl
  have F22 := fun_mk (st := s_without) l22 c22 k22
  have b22 := F22.binds (ps := ["priced", "place"]) fun _ _ _ _ _ _ us hl => match us, hl with | [_, _], _ => rfl
  have F23 := fun_mk (st := s_instead) l23 c23 k23
  have b23 := F23.binds (ps := ["shop", "priced", "place"]) fun _ _ _ _ _ _ us hl => match us, hl with | [_, _, _], _ => rfl
  have F24 := fun_mk (st := s_spared) l24 c24 k24
  have b24 := F24.binds (ps := ["shop"]) fun _ _ _ _ _ _ us hl => match us, hl with | [_], _ => rfl
  have F25 := fun_mk (st := s_offer_left) l25 c25 k25
  have b25 := F25.binds (ps := ["offer", "places"]) fun _ _ _ _ _ _ us hl => match us, hl with | [_, _], _ => rfl
  have F26 := fun_mk (st := s_thinned) l26 c26 k26
  have b26 := F26.binds (ps := ["shop"]) fun _ _ _ _ _ _ us hl => match us, hl with | [_], _ => rfl
  have F27 := fun_mk (st := s_law_mix) l27 c27 k27
  have b27 := F27.binds (ps := ["_law_cell", "_law_turn"]) fun _ _ _ _ _ _ us hl => match us, hl with | [_, _], _ => rfl
  have F28 := fun_mk (st := s_law_draws) l28 c28 k28
  have b28 := F28.binds (ps := ["_law_script", "_law_turn", "_law_many"]) fun _ _ _ _ _ _ us hl => match us, hl with | [_, _, _], _ => rfl
  have F29 := fun_mk (st := s_law_pop) l29 c29 k29
  have b29 := F29.binds (ps := ["_law_draws_here"]) fun _ _ _ _ _ _ us hl => match us, hl with | [_], _ => rfl
  have F30 := fun_mk (st := s_law_cut) l30 c30 k30
  have b30 := F30.binds (ps := ["_law_row"]) fun _ _ _ _ _ _ us hl => match us, hl with | [_], _ => rfl
  have F31 := fun_mk (st := s_law_content) l31 c31 k31
  have b31 := F31.binds (ps := ["_law_draws_here", "_law_many", "_law_most"]) fun _ _ _ _ _ _ us hl => match us, hl with | [_, _, _], _ => rfl
  have F32 := fun_mk (st := s_law_want) l32 c32 k32
  have b32 := F32.binds (ps := ["_law_draws_here", "_law_many"]) fun _ _ _ _ _ _ us hl => match us, hl with | [_, _], _ => rfl
  have F33 := fun_mk (st := s_law_groups) l33 c33 k33
  have b33 := F33.binds (ps := ["_law_places"]) fun _ _ _ _ _ _ us hl => match us, hl with | [_], _ => rfl
  have F34 := fun_mk (st := s_law_sum) l34 c34 k34
  have b34 := F34.binds (ps := ["_law_one", "_law_other"]) fun _ _ _ _ _ _ us hl => match us, hl with | [_, _], _ => rfl
  have F35 := fun_mk (st := s_law_lines) l35 c35 k35
  have b35 := F35.binds (ps := ["_law_shop"]) fun _ _ _ _ _ _ us hl => match us, hl with | [_], _ => rfl
  have F36 := fun_mk (st := s_law_lesser) l36 c36 k36
  have b36 := F36.binds (ps := ["_law_want_here"]) fun _ _ _ _ _ _ us hl => match us, hl with | [_], _ => rfl
  have F37 := fun_mk (st := s_law_rest) l37 c37 k37
  have b37 := F37.binds (ps := ["_law_want_here", "_law_content_here"]) fun _ _ _ _ _ _ us hl => match us, hl with | [_, _], _ => rfl
  have F38 := fun_mk (st := s_law_table) l38 c38 k38
  have b38 := F38.binds (ps := ["_law_shop", "_law_want_here"]) fun _ _ _ _ _ _ us hl => match us, hl with | [_, _], _ => rfl
  have F39 := fun_mk (st := s_law_packs) l39 c39 k39
  have b39 := F39.binds (ps := ["_law_draws_here", "_law_many", "_law_most"]) fun _ _ _ _ _ _ us hl => match us, hl with | [_, _, _], _ => rfl
  have F40 := fun_mk (st := s_law_alone) l40 c40 k40
  have b40 := F40.binds (ps := ["_law_shop", "_law_place"]) fun _ _ _ _ _ _ us hl => match us, hl with | [_, _], _ => rfl
  have F41 := fun_mk (st := s_law_without) l41 c41 k41
  have b41 := F41.binds (ps := ["_law_shop", "_law_place"]) fun _ _ _ _ _ _ us hl => match us, hl with | [_, _], _ => rfl
  have F42 := fun_mk (st := s_law_due) l42 c42 k42
  have b42 := F42.binds (ps := ["_law_shop"]) fun _ _ _ _ _ _ us hl => match us, hl with | [_], _ => rfl
  have F43 := fun_mk (st := s_law_number) l43 c43 k43
  have b43 := F43.binds (ps := ["_law_found"]) fun _ _ _ _ _ _ us hl => match us, hl with | [_], _ => rfl
  have M : Names mg := ⟨PySem.W.mg_none_of X G z1, PySem.W.mg_none_of X G z2, PySem.W.mg_none_of X G z3, PySem.W.mg_none_of X G z4, PySem.W.mg_none_of X G z5, PySem.W.mg_none_of X G z6, PySem.W.mg_none_of X G z7, PySem.W.mg_none_of X G z8, PySem.W.mg_none_of X G z9, PySem.W.mg_none_of X G z10, PySem.W.mg_none_of X G z11, PySem.W.mg_none_of X G z12, PySem.W.mg_none_of X G z13, PySem.W.mg_none_of X G z14, PySem.W.mg_none_of X G z15, PySem.W.mg_none_of X G z16, PySem.W.mg_none_of X G z17, PySem.W.mg_none_of X G z18, ⟨_, PySem.W.mg_of X G q1⟩, ⟨_, PySem.W.mg_of X G q2⟩⟩
  obtain ⟨hd3, ht3⟩ := tabs "good_tiers" cT3 PT3 rc3 (tabIn_of a3 l3 rfl lc3 hv3)
  obtain ⟨hd13, ht13⟩ := tabs "price_of" cT13 PT13 rc13 (tabIn_of a13 l13 rfl lc13 hv13)
  refine ⟨PySem.W.fnOf "law" "law" (defArgs s_law) (defBody s_law) (defScope s_law) .none kV1 dc1 pm1 an1 cd1 ct1, [(cT3, PT3), (cT13, PT13)], sp_law K PT3 PT13, ?hT, ?nT, ?hC, fun s v => .of_eq rfl, fun H a ns hl hT hS => ⟨a, ns, rfl, hS, hl, ⟨#[], hT (cT3, PT3) List.mem_cons_self, True.intro⟩, ⟨#[], hT (cT13, PT13) (List.mem_cons_of_mem _ List.mem_cons_self), True.intro⟩, fun _ => rfl⟩, fun base _ _ hB => ?_⟩
  case hT =>
    exact fun p hp => by
      rcases List.mem_cons.mp hp with rfl | hp
      · exact ht3
      rcases List.mem_cons.mp hp with rfl | hp
      · exact ht13
      cases hp
  case nT =>
    exact fun p hp => by
      rcases List.mem_cons.mp hp with rfl | hp
      · exact Option.isNone_iff_eq_none.mp nt3
      rcases List.mem_cons.mp hp with rfl | hp
      · exact Option.isNone_iff_eq_none.mp nt13
      cases hp
  case hC =>
    exact fun p hp => by
      rcases List.mem_cons.mp hp with rfl | hp
      · exact hd3
      rcases List.mem_cons.mp hp with rfl | hp
      · exact hd13
      cases hp
  have T3 := hB (cT3, PT3) List.mem_cons_self
  have T13 := hB (cT13, PT13) (List.mem_cons_of_mem _ List.mem_cons_self)
  exact ok_law M ⟨F1, PySem.W.mg_of X G a1, b1⟩ ⟨F2, PySem.W.mg_of X G a2, b2⟩ ⟨F3, PySem.W.mg_of X G a3, b3⟩ ⟨F4, PySem.W.mg_of X G a4, b4⟩ ⟨F5, PySem.W.mg_of X G a5, b5⟩ ⟨F6, PySem.W.mg_of X G a6, b6⟩ ⟨F7, PySem.W.mg_of X G a7, b7⟩ ⟨F8, PySem.W.mg_of X G a8, b8⟩ ⟨F9, PySem.W.mg_of X G a9, b9⟩ ⟨F10, PySem.W.mg_of X G a10, b10⟩ ⟨F11, PySem.W.mg_of X G a11, b11⟩ ⟨F12, PySem.W.mg_of X G a12, b12⟩ ⟨F13, PySem.W.mg_of X G a13, b13⟩ ⟨F14, PySem.W.mg_of X G a14, b14⟩ ⟨F15, PySem.W.mg_of X G a15, b15⟩ ⟨F16, PySem.W.mg_of X G a16, b16⟩ ⟨F17, PySem.W.mg_of X G a17, b17⟩ ⟨F18, PySem.W.mg_of X G a18, b18⟩ ⟨F19, PySem.W.mg_of X G a19, b19⟩ ⟨F20, PySem.W.mg_of X G a20, b20⟩ ⟨F21, PySem.W.mg_of X G a21, b21⟩ ⟨F22, PySem.W.mg_of X G a22, b22⟩ ⟨F23, PySem.W.mg_of X G a23, b23⟩ ⟨F24, PySem.W.mg_of X G a24, b24⟩ ⟨F25, PySem.W.mg_of X G a25, b25⟩ ⟨F26, PySem.W.mg_of X G a26, b26⟩ ⟨F27, PySem.W.mg_of X G a27, b27⟩ ⟨F28, PySem.W.mg_of X G a28, b28⟩ ⟨F29, PySem.W.mg_of X G a29, b29⟩ ⟨F30, PySem.W.mg_of X G a30, b30⟩ ⟨F31, PySem.W.mg_of X G a31, b31⟩ ⟨F32, PySem.W.mg_of X G a32, b32⟩ ⟨F33, PySem.W.mg_of X G a33, b33⟩ ⟨F34, PySem.W.mg_of X G a34, b34⟩ ⟨F35, PySem.W.mg_of X G a35, b35⟩ ⟨F36, PySem.W.mg_of X G a36, b36⟩ ⟨F37, PySem.W.mg_of X G a37, b37⟩ ⟨F38, PySem.W.mg_of X G a38, b38⟩ ⟨F39, PySem.W.mg_of X G a39, b39⟩ ⟨F40, PySem.W.mg_of X G a40, b40⟩ ⟨F41, PySem.W.mg_of X G a41, b41⟩ ⟨F42, PySem.W.mg_of X G a42, b42⟩ ⟨F43, PySem.W.mg_of X G a43, b43⟩ rfl ⟨T3.code, T3.bm, T3.gP⟩ rfl ⟨T13.code, T13.bm, T13.gP⟩
end Pk
open PySem PySem.W PyProof.Rows
set_option maxHeartbeats 0 in
theorem PySem.Challenge.cw_packwants_k25_whole_thinned_shops_holds : PySem.Challenge.rw_packwants_k25_whole_thinned_shops.Holds := by
  w_on; o_law; k_head; (case hw => w_witness2)
  k_fill
  refine Pk.walk_ofH (l := PySem.Challenge.rw_packwants_k25_whole_thinned_shops) (n := 63) (k := 10) (x := "_law_script") rfl (by decide) rfl ⟨rfl, by decide, by decide⟩ (fun w h Y => PySem.W.kIn_of Y) ?F
  case F =>
    intro w mg fa h KX G hmg tabs
    refine' Pk.all_mk KX G hmg tabs ?a1 ?l1 ?c1 ?k1 ?a2 ?l2 ?c2 ?k2 ?a3 ?l3 ?c3 ?k3 ?a4 ?l4 ?c4 ?k4 ?a5 ?l5 ?c5 ?k5 ?a6 ?l6 ?c6 ?k6 ?a7 ?l7 ?c7 ?k7 ?a8 ?l8 ?c8 ?k8 ?a9 ?l9 ?c9 ?k9 ?a10 ?l10 ?c10 ?k10 ?a11 ?l11 ?c11 ?k11 ?a12 ?l12 ?c12 ?k12 ?a13 ?l13 ?c13 ?k13 ?a14 ?l14 ?c14 ?k14 ?a15 ?l15 ?c15 ?k15 ?a16 ?l16 ?c16 ?k16 ?a17 ?l17 ?c17 ?k17 ?a18 ?l18 ?c18 ?k18 ?a19 ?l19 ?c19 ?k19 ?a20 ?l20 ?c20 ?k20 ?a21 ?l21 ?c21 ?k21 ?a22 ?l22 ?c22 ?k22 ?a23 ?l23 ?c23 ?k23 ?a24 ?l24 ?c24 ?k24 ?a25 ?l25 ?c25 ?k25 ?a26 ?l26 ?c26 ?k26 ?a27 ?l27 ?c27 ?k27 ?a28 ?l28 ?c28 ?k28 ?a29 ?l29 ?c29 ?k29 ?a30 ?l30 ?c30 ?k30 ?a31 ?l31 ?c31 ?k31 ?a32 ?l32 ?c32 ?k32 ?a33 ?l33 ?c33 ?k33 ?a34 ?l34 ?c34 ?k34 ?a35 ?l35 ?c35 ?k35 ?a36 ?l36 ?c36 ?k36 ?a37 ?l37 ?c37 ?k37 ?a38 ?l38 ?c38 ?k38 ?a39 ?l39 ?c39 ?k39 ?a40 ?l40 ?c40 ?k40 ?a41 ?l41 ?c41 ?k41 ?a42 ?l42 ?c42 ?k42 ?a43 ?l43 ?c43 ?k43 ?lc3 ?hv3 ?nt3 ?rc3 ?lc13 ?hv13 ?nt13 ?rc13 ?z1 ?z2 ?z3 ?z4 ?z5 ?z6 ?z7 ?z8 ?z9 ?z10 ?z11 ?z12 ?z13 ?z14 ?z15 ?z16 ?z17 ?z18 ?q1 ?q2
    (case a1 => k_is); (case l1 => k_is); (case c1 => k_is); (case k1 => k_is); (case a2 => k_is); (case l2 => k_is); (case c2 => k_is); (case k2 => k_is); (case a3 => k_is); (case l3 => k_is); (case c3 => k_is); (case k3 => k_is); (case a4 => k_is); (case l4 => k_is); (case c4 => k_is); (case k4 => k_is); (case a5 => k_is); (case l5 => k_is); (case c5 => k_is); (case k5 => k_is); (case a6 => k_is); (case l6 => k_is); (case c6 => k_is); (case k6 => k_is); (case a7 => k_is); (case l7 => k_is); (case c7 => k_is); (case k7 => k_is); (case a8 => k_is); (case l8 => k_is); (case c8 => k_is); (case k8 => k_is); (case a9 => k_is); (case l9 => k_is); (case c9 => k_is); (case k9 => k_is); (case a10 => k_is); (case l10 => k_is); (case c10 => k_is); (case k10 => k_is); (case a11 => k_is); (case l11 => k_is); (case c11 => k_is); (case k11 => k_is); (case a12 => k_is); (case l12 => k_is); (case c12 => k_is); (case k12 => k_is); (case a13 => k_is); (case l13 => k_is); (case c13 => k_is); (case k13 => k_is); (case a14 => k_is); (case l14 => k_is); (case c14 => k_is); (case k14 => k_is); (case a15 => k_is); (case l15 => k_is); (case c15 => k_is); (case k15 => k_is); (case a16 => k_is); (case l16 => k_is); (case c16 => k_is); (case k16 => k_is); (case a17 => k_is); (case l17 => k_is); (case c17 => k_is); (case k17 => k_is); (case a18 => k_is); (case l18 => k_is); (case c18 => k_is); (case k18 => k_is); (case a19 => k_is); (case l19 => k_is); (case c19 => k_is); (case k19 => k_is); (case a20 => k_is); (case l20 => k_is); (case c20 => k_is); (case k20 => k_is); (case a21 => k_is); (case l21 => k_is); (case c21 => k_is); (case k21 => k_is); (case a22 => k_is); (case l22 => k_is); (case c22 => k_is); (case k22 => k_is); (case a23 => k_is); (case l23 => k_is); (case c23 => k_is); (case k23 => k_is); (case a24 => k_is); (case l24 => k_is); (case c24 => k_is); (case k24 => k_is); (case a25 => k_is); (case l25 => k_is); (case c25 => k_is); (case k25 => k_is); (case a26 => k_is); (case l26 => k_is); (case c26 => k_is); (case k26 => k_is); (case a27 => k_is); (case l27 => k_is); (case c27 => k_is); (case k27 => k_is); (case a28 => k_is); (case l28 => k_is); (case c28 => k_is); (case k28 => k_is); (case a29 => k_is); (case l29 => k_is); (case c29 => k_is); (case k29 => k_is); (case a30 => k_is); (case l30 => k_is); (case c30 => k_is); (case k30 => k_is); (case a31 => k_is); (case l31 => k_is); (case c31 => k_is); (case k31 => k_is); (case a32 => k_is); (case l32 => k_is); (case c32 => k_is); (case k32 => k_is); (case a33 => k_is); (case l33 => k_is); (case c33 => k_is); (case k33 => k_is); (case a34 => k_is); (case l34 => k_is); (case c34 => k_is); (case k34 => k_is); (case a35 => k_is); (case l35 => k_is); (case c35 => k_is); (case k35 => k_is); (case a36 => k_is); (case l36 => k_is); (case c36 => k_is); (case k36 => k_is); (case a37 => k_is); (case l37 => k_is); (case c37 => k_is); (case k37 => k_is); (case a38 => k_is); (case l38 => k_is); (case c38 => k_is); (case k38 => k_is); (case a39 => k_is); (case l39 => k_is); (case c39 => k_is); (case k39 => k_is); (case a40 => k_is); (case l40 => k_is); (case c40 => k_is); (case k40 => k_is); (case a41 => k_is); (case l41 => k_is); (case c41 => k_is); (case k41 => k_is); (case a42 => k_is); (case l42 => k_is); (case c42 => k_is); (case k42 => k_is); (case a43 => k_is); (case l43 => k_is); (case c43 => k_is); (case k43 => k_is); (case lc3 => k_is); (case hv3 => rfl); (case nt3 => rfl); (case rc3 => rfl); (case lc13 => k_is); (case hv13 => rfl); (case nt13 => rfl); (case rc13 => rfl); (case z1 => k_is); (case z2 => k_is); (case z3 => k_is); (case z4 => k_is); (case z5 => k_is); (case z6 => k_is); (case z7 => k_is); (case z8 => k_is); (case z9 => k_is); (case z10 => k_is); (case z11 => k_is); (case z12 => k_is); (case z13 => k_is); (case z14 => k_is); (case z15 => k_is); (case z16 => k_is); (case z17 => k_is); (case z18 => k_is); (case q1 => k_is); (case q2 => k_is)
