import PyProof.Rows.All
import Wide.All
import OpenK.AllK
import Wide.FinOn
import HandS.ForMost
import HandS.IsInst
import HandS.Wide
import HandS.Walk
import HandS.Flow
import HandS.AnyAll
import HandS.EndTab
import HandS.Deep
import HandS.Style
import HandS.Conv
import HandS.DictTup
import HandS.SortInts
import KE.DataCmp
import KE.SortData
import KE.BitLaws
import KE.DataFind
import PyProof.ReprRoads
import PyProof.Rows.ReprOcc
import HandS.FStr
import HandS.StrMore
import HandS.Exc
import HandS.ExcInit
import HandS.ExcIs
import HandS.ExcField
import HandS.WordsExc
import HandS.ExcValue
import HandS.SetFor
import HandS.RevRange
import HandS.GenList
import HandS.DictComp
import PyProof.SumAny
import HandS.Star
import HandS.WideBits
import KE.KeyNested
import KE.KDictKeyed
import HandS.Strs
import HandS.CallLocal
import HandS.More
import HandS.RaiseFrom
import HandS.SuiteRaise
import HandS.TryOnly
import HandS.Small
import HandS.ExcInitHot
import KE.GoesRaise
import KE.KExcIs
import PySem.Challenge.RW_packwants_k07_purchases
set_option Elab.async false
set_option linter.all false
set_option maxRecDepth 100000
set_option maxHeartbeats 4000000
namespace Pk
open PySem PySem.Spec PyProof.Rows L2
def topS (i : Nat) : Stmt := PySem.Challenge.pw_packwants_k07_purchases.main.body.getD i (.Pass ⟨0, 0, 0, 0⟩)
/-! ### heaps and plain data -/
theorem same_upd {H : Hp} {p : Addr} {o : HO} (h : H p = none) : Same H (upd H p o) := fun b x e => by
  rw [upd_ne (ne_of_none e h)]
  exact e
/-- all but a is as it was -/
def SameBut (a : Addr) (H H' : Hp) : Prop := ∀ b o, b ≠ a → H b = some o → H' b = some o
theorem SameBut.of {a : Addr} {H H' : Hp} (h : Same H H') : SameBut a H H' := fun b o _ e => h b o e
theorem SameBut.refl (a : Addr) (H : Hp) : SameBut a H H := fun _ _ _ e => e
theorem SameBut.trans {a : Addr} {H H1 H2 : Hp} (h : SameBut a H H1) (k : SameBut a H1 H2) : SameBut a H H2 := fun b o n e => k b o n (h b o n e)
theorem SameBut.upd {a : Addr} {H : Hp} {o : HO} : SameBut a H (upd H a o) := fun b x n e => by
  rw [upd_ne n]
  exact e
theorem SameBut.new {a p : Addr} {H H' : Hp} {o : HO} (h : SameBut a H H') (hp : H p = none) : SameBut a H (L2.upd H' p o) := fun b x n e => by
  rw [upd_ne (ne_of_none e hp)]
  exact h b x n e
/-- what was not there at the start may change -/
theorem sm_new {p : Addr} {H H' : Hp} {o : HO} (h : Same H H') (hp : H p = none) : Same H (L2.upd H' p o) := fun b x e => by
  rw [upd_ne (ne_of_none e hp)]
  exact h b x e
theorem SameBut.free {a p : Addr} {H H' : Hp} (h : SameBut a H H') (n : H' p = none) (ha : H' a ≠ none) : H p = none := by
  cases q : H p with
  | none => rfl
  | some o =>
    by_cases e : p = a
    · subst e
      exact absurd n ha
    · rw [h p o e q] at n
      cases n
/-- a list of ints -/
abbrev LI (ns : List Int) : HO := .lst (ns.map V.int)
theorem dpAll_ints {K : PySem.W.Frag} {H : Hp} : ∀ ns : List Int, DpAll K H (ns.map V.int) (ns.map PyData.int)
  | [] => .nil
  | n :: r => .cons (.int n) (dpAll_ints r)
theorem dp_ints {K : PySem.W.Frag} {H : Hp} {a : Addr} {ns : List Int} (h : SqL K H a (ns.map V.int)) : Dp K H (.ref a) (.list (ns.map PyData.int)) := .lst h (dpAll_ints ns)
theorem lay_ints : ∀ ns : List Int, PyData.canLayAll0 (ns.map PyData.int) = true
  | [] => by simp [PyData.canLayAll0]
  | n :: r => by
    have ih := lay_ints r
    simp [PyData.canLayAll0, PyData.canLay0, ih]
theorem depth_ints : ∀ ns : List Int, PyData.depthAll (ns.map PyData.int) = 0
  | [] => by simp [PyData.depthAll]
  | n :: r => by
    have ih := depth_ints r
    simp [PyData.depthAll, PyData.depth, ih]
theorem shaped_ints (ns : List Int) : SeqAt.shaped (.list (ns.map PyData.int)) = true := by
  unfold SeqAt.shaped
  have h1 : PyData.canLay0 (.list (ns.map PyData.int)) = true := by
    simp only [PyData.canLay0]
    exact lay_ints ns
  have h2 : PyData.depth (.list (ns.map PyData.int)) ≤ 64 := by
    simp only [PyData.depth]
    rw [depth_ints]
    omega
  rw [h1, decide_eq_true h2]
  rfl
theorem eqvAll_ints : ∀ ns ms : List Int, PyData.eqvAll (ns.map PyData.int) (ms.map PyData.int) = decide (ns = ms)
  | [], [] => by simp [PyData.eqvAll]
  | [], _ :: _ => by simp [PyData.eqvAll]
  | _ :: _, [] => by simp [PyData.eqvAll]
  | n :: r, m :: q => by
    have ih := eqvAll_ints r q
    simp only [List.map_cons, PyData.eqvAll, PyData.eqv, ih]
    by_cases h1 : n = m <;> by_cases h2 : r = q <;> simp [h1, h2]
theorem eqv_ints (ns ms : List Int) : PyData.eqv (.list (ns.map PyData.int)) (.list (ms.map PyData.int)) = decide (ns = ms) := by
  simp only [PyData.eqv]
  exact eqvAll_ints ns ms
theorem li_app (ls : List Int) (n : Int) : HO.lst (ls.map V.int ++ [.int n]) = LI (ls ++ [n]) := by
  show _ = HO.lst ((ls ++ [n]).map V.int)
  rw [List.map_append]
  rfl
theorem li_set (ls : List Int) (j : Nat) (n : Int) : HO.lst ((ls.map V.int).set j (.int n)) = LI (ls.set j n) := by
  show _ = HO.lst ((ls.set j n).map V.int)
  rw [List.map_set]
theorem at_app {H : Hp} {a : Addr} {ls : List Int} {n : Int} : upd H a (.lst (ls.map V.int ++ [.int n])) a = some (LI (ls ++ [n])) := by rw [upd_same, li_app]
theorem at_set {H : Hp} {a : Addr} {ls : List Int} {j : Nat} {n : Int} : upd H a (.lst ((ls.map V.int).set j (.int n))) a = some (LI (ls.set j n)) := by rw [upd_same, li_set]
theorem szL {n : Nat} (h : n ≤ 100000) : n ≤ sizeLine := Nat.le_trans h (by decide)
theorem szL' {n : Nat} (h : n ≤ 100000) : n < sizeLine := Nat.lt_of_le_of_lt h (by decide)
theorem get_ints {ns : List Int} {i : Nat} {n : Int} (h : ns[i]? = some n) : (ns.map V.int)[i]? = some (.int n) := by
  rw [List.getElem?_map, h]
  rfl
theorem getD_ints {ns : List Int} {i : Nat} (h : i < ns.length) : (ns.map V.int)[i]? = some (.int ns[i]) := get_ints (List.getElem?_eq_getElem h)
theorem of_get_ints {ns : List Int} {i : Nat} {v : V} (h : (ns.map V.int)[i]? = some v) : ∃ n, ns[i]? = some n ∧ v = .int n := by
  rw [List.getElem?_map] at h
  cases e : ns[i]? with
  | none => rw [e] at h; cases h
  | some n => rw [e] at h; exact ⟨n, rfl, (Option.some.inj h).symm⟩
/-- i % n as a place -/
theorem mod_at {i : Int} {n : Nat} (h : 0 < n) : ∃ j : Nat, j < n ∧ i % (n : Int) = (j : Int) := by
  have h1 : 0 ≤ i % (n : Int) := Int.emod_nonneg i (by omega)
  have h2 : i % (n : Int) < (n : Int) := Int.emod_lt_of_pos i (by omega)
  exact ⟨(i % (n : Int)).toNat, by omega, by omega⟩
theorem ixN_nat {n j : Nat} (h : j < n) : ixN n (j : Int) = some j := by
  unfold ixN
  rw [if_pos (by omega), if_pos (by omega), Int.toNat_natCast]
theorem take_succ_at {α : Type} {l : List α} {i : Nat} {x : α} (h : l[i]? = some x) : l.take (i + 1) = l.take i ++ [x] := by
  rw [List.take_add_one, h]
  rfl
/-- a def of the top: where it stands -/
structure Def (K : PySem.W.Frag) (mg : Str → Option Value) (x : Str) (st : Stmt) (ps : List Str) (f : Addr) (fd : FuncData) : Prop where
  F : Fun K x x st f fd
  g : mg x = some (.ref f)
  b : Binds K fd ps []
/-! ### rules at a written K (for a comprehension's block) -/
section
variable {X : Cx} {K : PySem.W.Frag}
theorem ix_listK (h : X.K = K) : IxR X (rIxL K) := by subst h; exact ix_list
theorem ix_tupK (h : X.K = K) : IxR X (rIxT K) := by subst h; exact ix_tup
theorem call_len_seqK (h : X.K = K) : CallR X (.builtin "len") (fun xs H Q => ∃ p ys, xs = [.ref p] ∧ (SqL K H p ys ∨ SqT K H p ys) ∧ Q (.int ys.length) H) := by subst h; exact call_len_seq
theorem op_eqDK (h : X.K = K) (hu : X.A.units + 64 < cLine) : OpR X (compareOp .Eq) (rEqD K) := by subst h; exact op_eqD hu
theorem op_neDK (h : X.K = K) (hu : X.A.units + 64 < cLine) : OpR X (compareOp .NotEq) (rNeD K) := by subst h; exact op_neD hu
theorem cr_maxK (h : X.K = K) (hc : X.calm = true) : CallR X (.builtin "max") (rMax K) := by subst h; exact cr_max hc
theorem cr_sumK (h : X.K = K) (hc : X.calm = true) : CallR X (.builtin "sum") (rSum K) := by subst h; exact cr_sum hc
theorem call_list_ofK (h : X.K = K) : CallR X (.type "list") (fun xs H Q => ∃ p ys, xs = [.ref p] ∧ (SqL K H p ys ∨ SqT K H p ys) ∧ ∀ l, H l = none → Q (.ref l) (upd H l (.lst ys))) := by subst h; exact call_list_of
theorem pi_listK {tg l : Expr} {tl : TE} (h : X.K = K) (hl : PE X l tl) : PI X tg l (iList K tl) := by subst h; exact pi_list hl
theorem pi_tupK {tg l : Expr} {tl : TE} (h : X.K = K) (hl : PE X l tl) : PI X tg l (iTup K tl) := by subst h; exact pi_tup hl
theorem pg_tupK {es : List Expr} {k : Nat} {t : TGs} {n : Nat} {pos : Pos} (hK : X.K = K) (hc : X.calm = true) (h : PGs X es t)
    (hn : (assignEach es X.env).length = n := by rfl) (hst : (assignEach es X.env).findIdx? (·.1) = none := by rfl) : PG X (.Tuple es k pos) (gTup K n t) := by subst hK; exact pg_tup hc h hn hst
end
/-! ### a statement whose ends are joined by what holds behind it -/
def tCutI (t u : TS) : TS := fun D σ H => ∃ I : L2.St → Hp → Prop, t { D with nx := I } σ H ∧ ∀ σ' H', I σ' H' → u D σ' H'
theorem pss_cutI {X : Cx} {st : Stmt} {rest : List Stmt} {t u : TS} (h1 : PS X st t) (h2 : PSs X rest u) : PSs X (st :: rest) (tCutI t u) := by
  refine ⟨fun pins s σ H D I h => ?_⟩
  obtain ⟨J, h, hJ⟩ := h
  refine wpAny_execs_cons (thn (h1.run pins s σ H { D with nx := J } I h) fun f s1 q => ?_)
  cases f with
  | next =>
    obtain ⟨σ', H', I', q⟩ := q
    exact h2.run pins s1 σ' H' D I' (hJ σ' H' q)
  | ret v => exact q
  | brk => exact q
  | cont => exact q
/-- data: lists of lists of ints -/
abbrev dRows (rs : List (List Int)) : PyData := .list (rs.map fun r => .list (r.map PyData.int))
theorem lay_rows : ∀ rs : List (List Int), PyData.canLayAll0 (rs.map fun r => .list (r.map PyData.int)) = true
  | [] => by simp [PyData.canLayAll0]
  | r :: q => by
    have ih := lay_rows q
    have h1 := lay_ints r
    simp [PyData.canLayAll0, PyData.canLay0, ih, h1]
theorem depth_rows : ∀ rs : List (List Int), PyData.depthAll (rs.map fun r => .list (r.map PyData.int)) ≤ 1
  | [] => by simp [PyData.depthAll]
  | r :: q => by
    have ih := depth_rows q
    have h1 := depth_ints r
    simp only [List.map_cons, PyData.depthAll, PyData.depth]
    omega
theorem shaped_rows (rs : List (List Int)) : SeqAt.shaped (dRows rs) = true := by
  unfold SeqAt.shaped
  have h1 : PyData.canLay0 (dRows rs) = true := by
    simp only [PyData.canLay0]
    exact lay_rows rs
  have h2 : PyData.depth (dRows rs) ≤ 64 := by
    have := depth_rows rs
    simp only [PyData.depth]
    omega
  rw [h1, decide_eq_true h2]
  rfl
theorem eqv_self {d : PyData} (h : SeqAt.shaped d = true) : PyData.eqv d d = true := SeqAt.eqv_refl d (SeqAt.canLay_of_shaped h)
/-- the built-in names that the top leaves alone, and its constants -/
structure Names (mg : Str → Option Value) : Prop where
  len : mg "len" = none
  range : mg "range" = none
  max : mg "max" = none
  list : mg "list" = none
  isinstance : mg "isinstance" = none
  int : mg "int" = none
  bool : mg "bool" = none
  enumerate : mg "enumerate" = none
  all : mg "all" = none
  zip : mg "zip" = none
  reversed : mg "reversed" = none
  sum : mg "sum" = none
  sorted : mg "sorted" = none
  tuple : mg "tuple" = none
  c_MOST_TIERS : ∃ t, mg "MOST_TIERS" = some (.int 4 t)
  c_MOST_PIECES : ∃ t, mg "MOST_PIECES" = some (.int 12 t)
/-! ### generator expressions whose element is quiet: the def's code table may grow, all else stands -/
/-- what is no bare record is not the table -/
theorem tab_ne {X : Cx} {pins : List (Addr × Obj)} {σ : L2.St} {H1 : Hp} {s1 : Shared} {P : Addr} (I : Inv X pins σ H1 s1) (h : GxR.TabG H1 P) {b : Addr} {o : Obj} (e : s1.heap.get? b = some o) (c : o.cls ≠ .none ∨ ∀ vs, o.data ≠ .fields vs) : b ≠ P := by
  rintro rfl
  obtain ⟨ps, isTab, _⟩ := h
  have q : s1.heap.get? b = some { cls := .none, data := .fields ps } := I.hok b _ isTab
  cases q.symm.trans e
  exact c.elim (fun z => z rfl) (fun z => z _ rfl)
/-- from h2 to h3 the table at P has grown by some entries, and all else stands -/
structure Longer (P : Addr) (h2 h3 : Heap) (ps more : Array Value) : Prop where
  rest : Heap.ExtBut P h2 h3
  size : h2.objs.size ≤ h3.objs.size
  table : h3.get? P = some { cls := .none, data := .fields (ps ++ more) }
  good : TriplesOk (ps ++ more).toList
/-- the expression's own scope: the walked thing at «.0», its names, and captured ones that are cells of the def; for two names -/
structure GenS2 (sc scope : Scope) (xa xb : Str) : Prop where
  kind : scope.kind = .function
  co : scope.isCoroutine = false
  cell : ∀ y ∈ scope.names, y.2 ≠ .cell
  dot : scope.names.lookup (".0" : Str) = some NameKind.local
  la : scope.names.lookup xa = some .local
  lb : scope.names.lookup xb = some .local
  ne : xa ≠ xb
  free : ∀ y ∈ scope.names, y.2 = .free → sc.names.lookup y.1 = some .cell
/-- for one -/
structure GenS1 (sc scope : Scope) (x : Str) : Prop where
  kind : scope.kind = .function
  co : scope.isCoroutine = false
  cell : ∀ y ∈ scope.names, y.2 ≠ .cell
  dot : scope.names.lookup (".0" : Str) = some NameKind.local
  la : scope.names.lookup x = some .local
  free : ∀ y ∈ scope.names, y.2 = .free → sc.names.lookup y.1 = some .cell
/-- what is said of the thing that is walked: it was made in s1, and stands in t -/
structure Walkee (X : Cx) (pins : List (Addr × Obj)) (σ : L2.St) (H1 : Hp) (P : Addr) (fp wr : List Addr) (s1 t : Shared) : Prop where
  inv : Inv X pins σ H1 s1
  tab : GxR.TabG H1 P
  same : ∃ h n, t = { s1 with heap := h, toks := n }
  keep : ∀ b o, s1.heap.get? b = some o → t.heap.get? b = some o
  size : s1.heap.objs.size ≤ t.heap.objs.size
  low : ∀ b ∈ fp, b < t.heap.objs.size ∧ b ≠ P
  new : ∀ b ∈ wr, s1.heap.objs.size ≤ b
/-- the generator g, ready to be walked, in the state s5; F: what each turn hands out -/
def Walked (X : Cx) (pins : List (Addr × Obj)) (σ : L2.St) (H1 : Hp) (P : Addr) (n : Nat) (F : Nat → Value → Prop) (g : Addr) (s5 : Shared) : Prop :=
  ∃ (fp wr : List Addr) (G : Array GenState → Array GenState → Prop) (F' : Nat → Value → Prop) (St : Nat → Shared → Prop),
    WalksS X.prog X.w X.A.in1 g fp wr G n F' St ∧ St 0 s5 ∧ (∀ b ∈ fp, b < s5.heap.objs.size) ∧ (∀ i v, F' i v → F i v) ∧ ∀ s', Moved wr G s5 s' → ∃ H2, GxR.Tabbed P H1 H2 ∧ Inv X pins σ H2 s'
/-- what the element may lean on: the frame cenv, the depth, and a heap in which all that stood in s1 stands but for the table -/
structure Turned (X : Cx) (P : Addr) (sc : Scope) (s1 : Shared) (cenv : Env) (A' : Around) (u : Shared) : Prop where
  own : cenv.scope = sc
  cells : cenv.cells = cloFrom X.env.cells sc.names []
  glob : cenv.globals = mainGlobals
  blt : cenv.builtins = builtinsNs
  calm : A'.handled = none
  deep : A'.depth ≤ X.A.depth + 1
  units : A'.units ≤ X.A.units + 8
  still : ∀ b o, b ≠ P → s1.heap.get? b = some o → u.heap.get? b = some o
section
variable {X : Cx} {pins : List (Addr × Obj)} {σ : L2.St} {H1 : Hp} {s1 t : Shared} {c P : Addr} {fp wr : List Addr} {h2 h3 : Heap} {ps more : Array Value}
/-- the code of the expression is looked up, or laid: then the table is longer -/
theorem tab_opens {gpos : Pos} {q : Str} {scope : Scope} {t2 : Nat} {R : Value → Addr → Shared → Prop} (TB : GxR.TabB X.base X.mg c P) (code : X.env.code = .ref c) (I : Inv X pins σ H1 s1) (isTab : H1 P = some (.tbl ps)) (good : TriplesOk ps.toList)
    (keep : ∀ b o, s1.heap.get? b = some o → h2.get? b = some o) (h : ∀ cv h3 n more, Longer P h2 h3 ps more → R cv builtinsNs { s1 with heap := h3, toks := n }) :
    wpAny (model X.prog X.w) X.A (genexprCode X.env gpos q scope) (fun cv t => wpAny (model X.prog X.w) X.A (builtinsFor X.env.globals X.env.builtins) (fun bi u => R cv bi u) X.xe t) X.xe { s1 with heap := h2, toks := t2 } := by
  have table : h2.get? P = some { cls := .none, data := .fields ps } := keep P _ (I.hok P _ isTab)
  have head : PySem.W.CodeHd h2 c P := TB.code.keeps fun b o e => keep b o (I.bk b o e)
  have go : ∀ cv h3 n more, Longer P h2 h3 ps more → wpAny (model X.prog X.w) X.A (builtinsFor X.env.globals X.env.builtins) (fun bi u => R cv bi u) X.xe { s1 with heap := h3, toks := n } := by
    intro cv h3 n more L
    obtain ⟨at_, ob, given, away, _, notTab, inBase, cls, dict, plain⟩ := TB.bm
    have globals : h3.Ns X.env.globals X.mg := I.ok.glob ▸ ((I.mod.glob.keeps I.bk).keeps keep).extBut L.rest TB.gP
    exact wpAny_builtinsFor globals given away (L.rest _ _ notTab (keep _ _ (I.bk _ _ inBase))) cls dict plain (h cv h3 n more L)
  cases found : codeAmong gpos ps.toList
  · refine wpAny_genexprCodeX code (head.code table good) (head.tab table) found fun c' h' n rest below above isCode _ isTable _ => go _ h' n _ ⟨rest, Nat.le_trans below (Nat.le_of_lt above), isTable.2, ?_⟩
    obtain ⟨_, _, _, _, _, _, _, _, _, _, _, _, _, _, _, _, _, _, _, triples, _⟩ := isCode
    exact triples
  · refine wpAny_genexprCode_hit code (head.code table good) found (go _ h2 t2 #[] ⟨Heap.ExtBut.refl _ _, Nat.le_refl _, ?_, ?_⟩)
    · rw [Array.append_empty]
      exact table
    · rw [Array.append_empty]
      exact good
/-- when it has been walked: what was held is held, but for the longer table -/
theorem tab_closes {h5 : Heap} {n : Nat} {gs : GenState} {j : Nat} {wr' : List Addr} {s' : Shared} (I : Inv X pins σ H1 s1) (isTab : H1 P = some (.tbl ps)) (keep : ∀ b o, s1.heap.get? b = some o → h2.get? b = some o) (L : Longer P h2 h3 ps more)
    (bare : gs.bare = true) (on : ∀ b o, h3.get? b = some o → h5.get? b = some o) (new : ∀ b ∈ wr', s1.heap.objs.size ≤ b) (mv : Moved wr' (GenOnlyQ j) { s1 with heap := h5, gens := s1.gens.push gs, toks := n } s') : ∃ H2, GxR.Tabbed P H1 H2 ∧ Inv X pins σ H2 s' := by
  have old : ∀ {b o}, s1.heap.get? b = some o → b ∉ wr' := fun e z => Nat.lt_irrefl _ (Nat.lt_of_lt_of_le (Heap.lt_size e) (new _ z))
  have J := GxR.inv_tab (h' := s'.heap) (g' := s'.gens) (d' := s'.drawn) (t' := s'.toks) I isTab (fun b o far e => mv.heap b o (old e) (on b o (L.rest b o far (keep b o e)))) (mv.heap P _ (old (I.hok P _ isTab)) (on P _ L.table)) (AllBare.movedS (I.bare.push bare) mv)
  exact ⟨upd H1 P (.tbl (ps ++ more)), ⟨⟨_, upd_same, L.good⟩, fun _ far => upd_ne far⟩, (GxR.sh_eta s1 s' mv.os) ▸ J⟩
theorem Walkee.statics (K : Walkee X pins σ H1 P fp wr s1 t) : cStatics ≠ P ∧ cStatics ∉ wr := by
  obtain ⟨_, names, _⟩ := K.inv.nolimit
  constructor
  · rintro rfl
    obtain ⟨ps, isTab, _⟩ := K.tab
    obtain ⟨ob, _, _, there, isNs, _⟩ := names
    have q : s1.heap.get? cStatics = some { cls := .none, data := .fields ps } := K.inv.hok _ _ isTab
    cases q.symm.trans there
    cases isNs
  · exact fun z => Nat.lt_irrefl _ (Nat.lt_of_lt_of_le names.lt (K.new _ z))
/-- all that stood in s1 stands where an element is reckoned -/
theorem Walkee.turned {scope : Scope} {code : Value} {href : Heap} {A' : Around} {u : Shared} (K : Walkee X pins σ H1 P fp wr s1 t) (L : Longer P t.heap h3 ps more) (on : ∀ b o, h3.get? b = some o → href.get? b = some o) (calm : A'.handled = none) (deep : A'.depth ≤ X.A.depth + 1) (units : A'.units ≤ X.A.units + 8)
    (still : ∀ b ∈ List.range h3.objs.size, b ∉ wr → ∀ o, href.get? b = some o → u.heap.get? b = some o) : Turned X P scope s1 (genEnv scope (cloFrom X.env.cells scope.names []) h3.objs.size code builtinsNs X.env) A' u where
  own := rfl
  cells := rfl
  glob := K.inv.ok.glob
  blt := rfl
  calm := calm
  deep := deep
  units := units
  still := fun b o far e =>
    have e3 := L.rest b o far (K.keep b o e)
    still b (List.mem_range.mpr (Heap.lt_size e3)) (fun z => Nat.lt_irrefl _ (Nat.lt_of_lt_of_le (Heap.lt_size e) (K.new b z))) o (on b o e3)
/-- the made generator is ready -/
theorem Walkee.ready {n : Nat} {F : Nat → Value → Prop} {g : Addr} {h5 : Heap} {n3 n5 : Nat} {gs : GenState} {j : Nat} {wr' fp' : List Addr} {St : Nat → Shared → Prop} (K : Walkee X pins σ H1 P fp wr s1 t) (isTab : H1 P = some (.tbl ps)) (L : Longer P t.heap h3 ps more)
    (bare : gs.bare = true) (above : h3.objs.size < g) (size : h5.objs.size = g + 1) (on : ∀ b o, h3.get? b = some o → h5.get? b = some o) (hf : ∀ b ∈ fp', b = g ∨ b = h3.objs.size ∨ b < h3.objs.size) (hw : ∀ b ∈ wr', b = h3.objs.size ∨ b ∈ wr)
    (W : WalksS X.prog X.w X.A.in4 g fp' wr' (GenOnlyQ j) (passing (fun _ => true) n 0).length (fun j y => ∃ i, (passing (fun _ => true) n 0)[j]? = some i ∧ F i y) St) (st : St 0 { ({ s1 with heap := h3, toks := n3 } : Shared) with gens := s1.gens.push gs, toks := n5, heap := h5 }) :
    Walked X pins σ H1 P n F g { ({ s1 with heap := h3, toks := n3 } : Shared) with gens := s1.gens.push gs, toks := n5, heap := h5 } := by
  rw [GxR.passing_true, List.length_range] at W
  refine ⟨_, _, _, _, _, W.in4_1, st, fun b hb => ?_, fun j y hy => ?_, fun s' mv => tab_closes K.inv isTab K.keep L bare on (fun b hb => ?_) mv⟩
  · show b < h5.objs.size
    rw [size]
    rcases hf b hb with rfl | rfl | z
    · exact Nat.lt_succ_self _
    · exact Nat.lt_succ_of_lt above
    · exact Nat.lt_succ_of_lt (Nat.lt_trans z above)
  · obtain ⟨i, at_, q⟩ := hy
    obtain ⟨_, e⟩ := List.getElem?_eq_some_iff.mp at_
    rw [List.getElem_range] at e
    exact e ▸ q
  · rcases hw b hb with rfl | z
    · exact Nat.le_trans K.size L.size
    · exact K.new b z
end
section
variable {X : Cx} {pins : List (Addr × Obj)} {σ : L2.St} {H : Hp} {s : Shared} {c P : Addr} {k : Nat} {Q' : Value → Shared → Prop}
/-- (element for a, b in iter): what is walked hands out pairs; the element gives what F says -/
theorem gen_pairs {elt iter : Expr} {xa xb : Str} {pa pb pt gpos : Pos} {kt : Nat} {scope : Scope} (hr : Room k X.A) (TB : GxR.TabB X.base X.mg c P) (hcode : X.env.code = .ref c) (S : GenS2 X.env.scope scope xa xb) (hs : ∀ v, genFold iter X.env v = pure v) (I : Inv X pins σ H s)
    (h : wpAny (model X.prog X.w) X.A (eval iter X.env) (fun xv t => wpAny (model X.prog X.w) X.A (pyIter xv) (fun it t2 => ∃ (Iad : Addr) (fp wr : List Addr) (n : Nat) (Pt : Nat → Array Value → Prop) (St : Nat → Heap → Prop) (Mid : Nat → Addr → Heap → Prop) (F : Nat → Value → Prop) (q : List (Addr × Obj)) (σ1 : L2.St) (H1 : Hp) (s1 : Shared),
      it = .ref Iad ∧ Walkee X q σ1 H1 P fp wr s1 t2 ∧ (∀ A' : Around, A'.handled = none → WalksU X.prog X.w A' Iad fp wr n Pt St Mid) ∧ (∀ i vals, Pt i vals → ∃ va vb, vals = #[va, vb]) ∧ St 0 t2.heap ∧
      (∀ (cenv : Env) (A' : Around) (E' : Value → Shared → Prop) (i : Nat) (va vb : Value) (u : Shared) (m : Str → Option Value), Turned X P scope s1 cenv A' u → Pt i #[va, vb] → u.heap.Ns cenv.locals m → m xa = some va → m xb = some vb →
        wpAny (model X.prog X.w) A' (eval elt cenv) (fun y u' => F i y ∧ Keeps u u') E' u) ∧
      ∀ g s5, Walked X q σ1 H1 P n F g s5 → Q' (.ref g) s5) X.xe t) X.xe s) :
    wpAny (model X.prog X.w) X.A (eval (.GeneratorExp elt [⟨.Tuple [.Name xa pa, .Name xb pb] kt pt, iter, [], 0⟩] scope gpos) X.env) Q' X.xe s := by
  have room := hr.dp
  refine wpAny_GeneratorExp_walksQTD hr.hd S.co (closure_ok fun y hy e => I.ok.has y.1 (.inl (S.free y hy e))) S.cell S.dot S.la S.lb S.ne S.kind (by omega) (wpAny_mono h (fun xv t h => wpAny_mono h (fun it t2 h => ?_) fun _ _ e => e) fun _ _ e => e) hs
  obtain ⟨Iad, fp, wr, n, Pt, St, Mid, F, q, σ1, H1, s1, rfl, K, W, two, st, turn, out⟩ := h
  obtain ⟨ps, isTab, good⟩ := K.tab
  obtain ⟨h2, n2, rfl⟩ := K.same
  have lim : h2.NoLimit := K.inv.nolimit.keeps K.keep
  refine ⟨lim, tab_opens TB hcode K.inv isTab good K.keep fun cv h3 n3 more L => ⟨Iad, fp, wr, n, Pt, St, Mid, fun _ => true, F, rfl, W, two, (W X.A hr.hd).frame _ _ _ st fun b hb o e => L.rest b o (K.low b hb).2 e, fun b hb => Nat.lt_of_lt_of_le (K.low b hb).1 L.size, lim.extBut L.rest K.statics.1, K.statics.2, fun href on => ⟨?_, ?_⟩, ?_⟩⟩
  · intro A' E' i va vb u m _ _ _ _ _ _ _ _
    exact wpAny_pure ⟨rfl, GxR.keeps_refl _⟩
  · intro A' E' i va vb u m calm deep units at_ _ ns ma mb still
    exact turn _ A' E' i va vb u m (K.turned L on calm deep units still) at_ ns ma mb
  · intro g h5 n5 gs bare above size on W5 st5
    refine out g _ (K.ready isTab L bare above size on (fun b hb => ?_) (fun b hb => List.mem_cons.mp hb) W5 st5)
    exact (List.mem_cons.mp hb).imp_right fun z => (List.mem_cons.mp z).imp_right List.mem_range.mp
/-- (element for a in iter) -/
theorem gen_ones {elt iter : Expr} {x : Str} {px gpos : Pos} {scope : Scope} (hr : Room k X.A) (TB : GxR.TabB X.base X.mg c P) (hcode : X.env.code = .ref c) (S : GenS1 X.env.scope scope x) (hs : ∀ v, genFold iter X.env v = pure v) (I : Inv X pins σ H s)
    (h : wpAny (model X.prog X.w) X.A (eval iter X.env) (fun xv t => wpAny (model X.prog X.w) X.A (pyIter xv) (fun it t2 => ∃ (Iad : Addr) (fp wr : List Addr) (n : Nat) (Pt : Nat → Value → Prop) (St : Nat → Heap → Prop) (F : Nat → Value → Prop) (q : List (Addr × Obj)) (σ1 : L2.St) (H1 : Hp) (s1 : Shared),
      it = .ref Iad ∧ Walkee X q σ1 H1 P fp wr s1 t2 ∧ (∀ A' : Around, A'.handled = none → Walks X.prog X.w A' Iad fp wr n Pt St) ∧ St 0 t2.heap ∧
      (∀ (cenv : Env) (A' : Around) (E' : Value → Shared → Prop) (i : Nat) (va : Value) (u : Shared) (m : Str → Option Value), Turned X P scope s1 cenv A' u → Pt i va → u.heap.Ns cenv.locals m → m x = some va →
        wpAny (model X.prog X.w) A' (eval elt cenv) (fun y u' => F i y ∧ Keeps u u') E' u) ∧
      ∀ g s5, Walked X q σ1 H1 P n F g s5 → Q' (.ref g) s5) X.xe t) X.xe s) :
    wpAny (model X.prog X.w) X.A (eval (.GeneratorExp elt [⟨.Name x px, iter, [], 0⟩] scope gpos) X.env) Q' X.xe s := by
  have room := hr.dp
  refine wpAny_GeneratorExp_walksQD hr.hd S.co (closure_ok fun y hy e => I.ok.has y.1 (.inl (S.free y hy e))) S.cell S.dot S.la S.kind (by omega) (wpAny_mono h (fun xv t h => wpAny_mono h (fun it t2 h => ?_) fun _ _ e => e) fun _ _ e => e) hs
  obtain ⟨Iad, fp, wr, n, Pt, St, F, q, σ1, H1, s1, rfl, K, W, st, turn, out⟩ := h
  obtain ⟨ps, isTab, good⟩ := K.tab
  obtain ⟨h2, n2, rfl⟩ := K.same
  have lim : h2.NoLimit := K.inv.nolimit.keeps K.keep
  refine ⟨lim, tab_opens TB hcode K.inv isTab good K.keep fun cv h3 n3 more L => ⟨Iad, fp, wr, n, Pt, St, fun _ => true, F, rfl, W, (W X.A hr.hd).frame _ _ _ st fun b hb o e => L.rest b o (K.low b hb).2 e, fun b hb => Nat.lt_of_lt_of_le (K.low b hb).1 L.size, lim.extBut L.rest K.statics.1, K.statics.2, fun href on => ⟨?_, ?_⟩, ?_⟩⟩
  · intro A' E' i va u m _ _ _ _ _ _ _
    exact wpAny_pure ⟨rfl, GxR.keeps_refl _⟩
  · intro A' E' i va u m calm deep units at_ _ ns ma still
    exact turn _ A' E' i va u m (K.turned L on calm deep units still) at_ ns ma
  · intro g h5 n5 gs bare above size on W5 st5
    refine out g _ (K.ready isTab L bare above size on (fun b hb => ?_) (fun b hb => List.mem_cons.mp hb) W5 st5)
    exact (List.mem_cons.mp hb).imp_right fun z => (List.mem_cons.mp z).imp_right List.mem_range.mp
/-- a built-in function of a generator expression alone -/
theorem call_gen {b : Str} {f : String} {ge : Expr} {p pos : Pos} {R : Value → Shared → Prop} (hg : Gl X b) (hm : X.mg b = none) (hb : bootBuiltins b = some (.builtin f)) (he : starEach [ge] X.env = (false, eval ge X.env) :: starEach [] X.env) (I : Inv X pins σ H s)
    (h : wpAny (model X.prog X.w) X.A (eval ge X.env) (fun v t => wpAny (model X.prog X.w) X.A (call (.builtin f) [v]) R X.xe t) X.xe s) (hd : (b == ("__debug__" : Str)) = false := by decide) (hn : b ≠ "__name__" := by decide) :
    wpAny (model X.prog X.w) X.A (eval (.Call (.Name b p) [ge] [] pos) X.env) R X.xe s := by
  refine wpAny_Call_Name_kw (ld_blt I hg hm hb (PyProof.Rows.callWith_builtin1 ?_ he (by rfl)) hn hd)
  rw [he]
  exact Calls.spliced_cons (wpAny_mono h (fun v t h => Calls.spliced_nil h) fun _ _ e => e)
theorem truth_of {A : Around} {F' : Nat → Value → Prop} {pb : Nat → Bool} (h : ∀ i v, F' i v → v = .bool (pb i)) : TruthOf X.prog X.w A F' pb := by
  intro i v t Q E at_ q
  cases h i v at_
  exact wpAny_truthy_bool q
end
/-! ### all(test for a, b in enumerate(list)) -/
def tAllE (K : PySem.W.Frag) (P : Addr) (R : L2.St → Hp → List V → (Nat → Bool) → Prop) (te : TE) : TE := fun σ H Q => te σ H fun v H1 => ∃ (a : Addr) (xs : List V) (pb : Nat → Bool), v = .ref a ∧ SqL K H1 a xs ∧ GxR.TabG H1 P ∧ R σ H1 xs pb ∧
  ∀ H2, GxR.Tabbed P H1 H2 → Q (.bl ((List.range xs.length).all pb)) H2
/-- what the element is to do at one pair -/
def EltE (X : Cx) (P : Addr) (scope : Scope) (xa xb : Str) (elt : Expr) (R : L2.St → Hp → List V → (Nat → Bool) → Prop) : Prop :=
  ∀ (pins : List (Addr × Obj)) (σ : L2.St) (H1 : Hp) (s1 : Shared) (xs : List V) (pb : Nat → Bool), Inv X pins σ H1 s1 → GxR.TabG H1 P → R σ H1 xs pb →
    ∀ (cenv : Env) (A' : Around) (E' : Value → Shared → Prop) (i : Nat) (v : V) (va vb : Value) (s₂ : Shared) (m₂ : Str → Option Value), cenv.scope = scope → cenv.cells = cloFrom X.env.cells scope.names [] → cenv.globals = mainGlobals → cenv.builtins = builtinsNs →
      A'.handled = none → A'.depth ≤ X.A.depth + 1 → A'.units ≤ X.A.units + 8 → xs[i]? = some v → (∃ t, va = .int (i : Nat) t) → RelV v vb → s₂.heap.Ns cenv.locals m₂ → m₂ xa = some va → m₂ xb = some vb → (∀ b o, b ≠ P → s1.heap.get? b = some o → s₂.heap.get? b = some o) →
      wpAny (model X.prog X.w) A' (eval elt cenv) (fun y s₃ => y = .bool (pb i) ∧ Keeps s₂ s₃) E' s₂
section
variable {X : Cx}
theorem pe_allEnum {c P : Addr} {elt e : Expr} {xa xb : Str} {pa pb' pt p pos gpos epos ep : Pos} {kt : Nat} {scope : Scope} {te : TE} {k : Nat} {R : L2.St → Hp → List V → (Nat → Bool) → Prop}
    (hr : Room k X.A) (hg : Gl X "all") (hm : X.mg "all" = none) (hb : bootBuiltins "all" = some (.builtin "all")) (hge : Gl X "enumerate") (hme : X.mg "enumerate" = none) (TB : GxR.TabB X.base X.mg c P) (hcode : X.env.code = .ref c) (S : GenS2 X.env.scope scope xa xb) (hi : PE X e te)
    (hel : EltE X P scope xa xb elt R)
    (hs : ∀ v, genFold (.Call (.Name "enumerate" ep) [e] [] epos) X.env v = pure v := by intro _; rfl)
    (hs1 : starEach [e] X.env = [(false, eval e X.env)] := by rfl)
    (he : starEach [.GeneratorExp elt [⟨.Tuple [.Name xa pa, .Name xb pb'] kt pt, .Call (.Name "enumerate" ep) [e] [] epos, [], 0⟩] scope gpos] X.env = (false, eval (.GeneratorExp elt [⟨.Tuple [.Name xa pa, .Name xb pb'] kt pt, .Call (.Name "enumerate" ep) [e] [] epos, [], 0⟩] scope gpos) X.env) :: starEach [] X.env := by rfl) :
    PE X (.Call (.Name "all" p) [.GeneratorExp elt [⟨.Tuple [.Name xa pa, .Name xb pb'] kt pt, .Call (.Name "enumerate" ep) [e] [] epos, [], 0⟩] scope gpos] [] pos) (tAllE X.K P R te) := by
  refine ⟨fun pins s σ H Q I h => call_gen hg hm hb he I (gen_pairs hr TB hcode S hs I (Call_ (ld_blt I hge hme boot_enumerate (PyProof.Rows.callWith_type1 ?_ hs1 rfl))))⟩
  rw [hs1]
  refine Calls.spliced_cons (thn (hi.run pins s σ H _ I h) fun u0 s1 r => Calls.spliced_nil ?_)
  obtain ⟨_, H1, J, isRef, a, xs, pb, rfl, sq, tab, hR, q⟩ := r
  cases isRef
  obtain ⟨its, rv, at_, _⟩ := J.list sq
  refine call_enumerate_list at_.isList fun h' isEn isIt size keep => wpAny_pyIter_enum isEn ?_
  have la : a < s1.heap.objs.size := at_.lt
  have below : s1.heap.objs.size < h'.objs.size := isIt.elim fun _ x => Heap.lt_size x.1
  obtain ⟨oa, ea, ca, _⟩ := id at_.isList
  have aP : a ≠ P := tab_ne J tab ea (.inl fun z => by rw [ca] at z; cases z)
  have lP : P < s1.heap.objs.size := tab.elim fun _ x => Heap.lt_size (show s1.heap.get? P = _ from J.hok P _ x.1)
  have W := fun (A' : Around) (calm : A'.handled = none) => (WalksT.enumerate (prog := X.prog) (w := X.w) calm (s1.heap.objs.size + 1) s1.heap.objs.size a (Nat.succ_ne_self _) (Nat.ne_of_lt (Nat.lt_succ_of_lt la)) (Nat.ne_of_lt la) its.toArray).toU
  refine ⟨_, _, _, _, _, _, _, fun i y => y = .bool (pb i), pins, σ, H1, s1, rfl, ⟨J, tab, ⟨_, _, rfl⟩, keep, Nat.le_of_lt below, fun b hb => ?_, fun b hb => ?_⟩, W, fun i vals x => ?_, ⟨⟨_, isEn⟩, isIt, at_.isList.at fun o x => keep a o x⟩, ?_, ?_⟩
  · simp only [List.mem_cons, List.not_mem_nil, or_false] at hb
    rcases hb with rfl | rfl | rfl
    · exact ⟨Heap.lt_size isEn, Nat.ne_of_gt (Nat.lt_succ_of_lt lP)⟩
    · exact ⟨below, Nat.ne_of_gt lP⟩
    · exact ⟨Nat.lt_trans la below, aP⟩
  · simp only [List.mem_cons, List.not_mem_nil, or_false] at hb
    rcases hb with rfl | rfl
    · exact Nat.le_succ _
    · exact Nat.le_refl _
  · exact x.elim fun _ x => x.elim fun _ x => ⟨_, _, x.2⟩
  · intro cenv A' E' i va vb u m T at_ ns ma mb
    obtain ⟨t, x, hx, e'⟩ := at_
    obtain ⟨rfl, rfl⟩ : va = .int i t ∧ vb = x := by simpa using congrArg Array.toList e'
    have there : its[i]? = some vb := by simpa using hx
    obtain ⟨v, hv⟩ : ∃ v, xs[i]? = some v := ⟨_, List.getElem?_eq_getElem (rv.length.symm ▸ (List.getElem?_eq_some_iff.mp there).1)⟩
    obtain ⟨w, hw, rw_⟩ := rv.get hv
    cases there.symm.trans hw
    exact hel pins σ H1 s1 xs pb J tab hR cenv A' E' i v _ _ u m T.own T.cells T.glob T.blt T.calm T.deep T.units hv ⟨t, rfl⟩ rw_ ns ma mb T.still
  · rintro g s5 ⟨fp, wr, G, F', St, W, st, _, say, held⟩
    refine call_all_walkS (W.self 0 _ _ _ st ⟨g, fp, wr, G, _, F', St, pb, rfl, W, st, truth_of say, fun s' mv => ?_⟩)
    obtain ⟨H2, grown, J2⟩ := held s' mv
    refine ⟨.bl _, H2, J2, rfl, ?_⟩
    rw [List.size_toArray, ← rv.length]
    exact q H2 grown
end
/-! ### (element for a, b in zip(list, list)), both lists of ints -/
section
variable {X : Cx} {pins : List (Addr × Obj)} {σ : L2.St} {H : Hp} {s : Shared}
theorem gen_zip {c P : Addr} {elt e1 e2 : Expr} {xa xb : Str} {pa pb pt gpos epos ep : Pos} {kt k : Nat} {scope : Scope} {t1 t2 : TE} {C : List Int → List Int → Hp → Prop} {F : List Int → List Int → Nat → Value → Prop} {Q' : Value → Shared → Prop}
    (hr : Room k X.A) (hge : Gl X "zip") (hme : X.mg "zip" = none) (TB : GxR.TabB X.base X.mg c P) (hcode : X.env.code = .ref c) (S : GenS2 X.env.scope scope xa xb) (h1 : PE X e1 t1) (h2 : PE X e2 t2)
    (hs : ∀ v, genFold (.Call (.Name "zip" ep) [e1, e2] [] epos) X.env v = pure v) (hs1 : starEach [e1, e2] X.env = (false, eval e1 X.env) :: starEach [e2] X.env) (hs2 : starEach [e2] X.env = (false, eval e2 X.env) :: starEach [] X.env)
    (hpl : (backTo epos (starEach [e2] X.env)).any (·.1) = false) (hem : starEach [] X.env = []) (I : Inv X pins σ H s)
    (h : t1 σ H fun v H1 => t2 σ H1 fun u H2 => ∃ (a b : Addr) (ns ms : List Int), v = .ref a ∧ u = .ref b ∧ SqL X.K H2 a (ns.map V.int) ∧ SqL X.K H2 b (ms.map V.int) ∧ GxR.TabG H2 P ∧ C ns ms H2)
    (turn : ∀ ns ms H2, C ns ms H2 → ∀ (cenv : Env) (A' : Around) (E' : Value → Shared → Prop) (i : Nat) (u : Shared) (m : Str → Option Value) (li : i < ns.length) (lj : i < ms.length) (t t' : Tok), cenv.scope = scope → u.heap.Ns cenv.locals m → m xa = some (.int ns[i] t) → m xb = some (.int ms[i] t') →
      wpAny (model X.prog X.w) A' (eval elt cenv) (fun y u' => F ns ms i y ∧ Keeps u u') E' u)
    (out : ∀ ns ms H2 g s5, C ns ms H2 → Walked X pins σ H2 P (min ns.length ms.length) (F ns ms) g s5 → Q' (.ref g) s5) :
    wpAny (model X.prog X.w) X.A (eval (.GeneratorExp elt [⟨.Tuple [.Name xa pa, .Name xb pb] kt pt, .Call (.Name "zip" ep) [e1, e2] [] epos, [], 0⟩] scope gpos) X.env) Q' X.xe s := by
  refine gen_pairs hr TB hcode S hs I (Call_ (ld_blt I hge hme PyProof.Rows.boot_zip (PyProof.Rows.callWith_type1 ?_ hs1 hpl)))
  rw [hs1, hs2, hem]
  refine Calls.spliced_cons (thn (h1.run pins s σ H _ I h) fun u0 s0 r0 => ?_)
  obtain ⟨v0, H0, J0, isA, q0⟩ := r0
  refine Calls.spliced_cons (thn (h2.run pins s0 σ H0 _ J0 q0) fun u1 s1 r1 => Calls.spliced_nil ?_)
  obtain ⟨v1, H1, J, isB, a, b, ns, ms, rfl, rfl, sqa, sqb, tab, hC⟩ := r1
  cases isA
  cases isB
  obtain ⟨its, rv, atA, _⟩ := J.list sqa
  obtain ⟨jts, rw_, atB, _⟩ := J.list sqb
  have lenA : ns.length = its.length := List.length_map (f := V.int) ▸ rv.length
  have lenB : ms.length = jts.length := List.length_map (f := V.int) ▸ rw_.length
  obtain ⟨oa, ea, ca, _⟩ := id atA.isList
  obtain ⟨ob, eb, cb, _⟩ := id atB.isList
  have aP : a ≠ P := tab_ne J tab ea (.inl fun z => by rw [ca] at z; cases z)
  have bP : b ≠ P := tab_ne J tab eb (.inl fun z => by rw [cb] at z; cases z)
  have lP : P < s1.heap.objs.size := tab.elim fun _ x => Heap.lt_size (show s1.heap.get? P = _ from J.hok P _ x.1)
  refine call_zip_2 atA.isList atB.isList fun h' isZ isT isO itA itB size keep => wpAny_pyIter_zip isZ ?_
  have up : ∀ j, j < 5 → s1.heap.objs.size + j < h'.objs.size ∧ s1.heap.objs.size + j ≠ P := fun j lj => ⟨size ▸ Nat.add_lt_add_left lj _, Nat.ne_of_gt (Nat.lt_of_lt_of_le lP (Nat.le_add_right _ j))⟩
  have W := fun (A' : Around) (calm : A'.handled = none) => (WalksT.zip2 (prog := X.prog) (w := X.w) calm (s1.heap.objs.size + 4) (s1.heap.objs.size + 2) (s1.heap.objs.size + 3) s1.heap.objs.size (s1.heap.objs.size + 1) a b (PySem.W.ktu_apart s1.heap.objs.size a b atA.lt atB.lt) its.toArray jts.toArray).toU
  have grown : s1.heap.objs.size ≤ h'.objs.size := Nat.le_of_lt (up 0 (by decide)).1
  refine ⟨_, _, _, _, _, _, _, F ns ms, pins, σ, H1, s1, rfl, ⟨J, tab, ⟨_, _, rfl⟩, keep, grown, fun d hd => ?_, fun d hd => ?_⟩, W, fun i vals x => ?_, ⟨isZ, isT, ⟨_, _, isO⟩, itA, itB, atA.isList.at fun o x => keep a o x, atB.isList.at fun o x => keep b o x⟩, ?_, ?_⟩
  · simp only [List.mem_cons, List.not_mem_nil, or_false] at hd
    rcases hd with rfl | rfl | rfl | rfl | rfl | rfl | rfl
    · exact up 4 (by decide)
    · exact up 2 (by decide)
    · exact up 3 (by decide)
    · exact up 0 (by decide)
    · exact up 1 (by decide)
    · exact ⟨Nat.lt_of_lt_of_le atA.lt grown, aP⟩
    · exact ⟨Nat.lt_of_lt_of_le atB.lt grown, bP⟩
  · simp only [List.mem_cons, List.not_mem_nil, or_false] at hd
    rcases hd with rfl | rfl | rfl | rfl
    · exact Nat.le_add_right _ _
    · exact Nat.le_add_right _ _
    · exact Nat.le_refl _
    · exact Nat.le_add_right _ _
  · exact x.elim fun _ x => x.elim fun _ x => ⟨_, _, x.2.2⟩
  · intro cenv A' E' i va vb u m T at_ nsm ma mb
    obtain ⟨x, y, hx, hy, e'⟩ := at_
    obtain ⟨rfl, rfl⟩ : va = x ∧ vb = y := by simpa using congrArg Array.toList e'
    have inA : its[i]? = some va := by simpa using hx
    have inB : jts[i]? = some vb := by simpa using hy
    have li : i < ns.length := lenA ▸ (List.getElem?_eq_some_iff.mp inA).1
    have lj : i < ms.length := lenB ▸ (List.getElem?_eq_some_iff.mp inB).1
    obtain ⟨w, hw, t, rfl⟩ := rv.get (getD_ints li)
    obtain ⟨w', hw', t', rfl⟩ := rw_.get (getD_ints lj)
    cases inA.symm.trans hw
    cases inB.symm.trans hw'
    exact turn ns ms H1 hC cenv A' E' i u m li lj t t' T.own nsm ma mb
  · intro g s5 x
    rw [List.size_toArray, List.size_toArray, ← lenA, ← lenB] at x
    exact out ns ms H1 g s5 hC x
/-- both names of such an expression are read from its frame -/
theorem read_two {sc scope : Scope} {cenv : Env} {A' : Around} {E' : Value → Shared → Prop} {u : Shared} {m : Str → Option Value} {xa xb : Str} {va vb : Value} {p q : Pos} {M : Model} (S : GenS2 sc scope xa xb) (own : cenv.scope = scope) (ns : u.heap.Ns cenv.locals m) (ma : m xa = some va) (mb : m xb = some vb)
    (hda : (xa == ("__debug__" : Str)) = false) (hdb : (xb == ("__debug__" : Str)) = false) :
    (∀ {Q : Value → Shared → Prop}, Q va u → wpAny M A' (eval (.Name xa p) cenv) Q E' u) ∧ ∀ {Q : Value → Shared → Prop}, Q vb u → wpAny M A' (eval (.Name xb q) cenv) Q E' u := by
  subst own
  exact ⟨fun h => wpAny_Name (wpAny_loadName_local S.kind S.la ns ma h) hda, fun h => wpAny_Name (wpAny_loadName_local S.kind S.lb ns mb h) hdb⟩
theorem at_getD {ns : List Int} {i : Nat} (li : i < ns.length) : ns.getD i 0 = ns[i] := by
  rw [List.getD_eq_getElem?_getD, List.getElem?_eq_getElem li]
  rfl
end
/-! ### all(a < b for a, b in zip(list, list)) -/
def tAllZ (K : PySem.W.Frag) (P : Addr) (t1 t2 : TE) : TE := fun σ H Q => t1 σ H fun v H1 => t2 σ H1 fun u H2 => ∃ (a b : Addr) (ns ms : List Int), v = .ref a ∧ u = .ref b ∧ SqL K H2 a (ns.map V.int) ∧ SqL K H2 b (ms.map V.int) ∧ GxR.TabG H2 P ∧
  ∀ H3, GxR.Tabbed P H2 H3 → Q (.bl ((List.range (min ns.length ms.length)).all fun i => decide (ns.getD i 0 < ms.getD i 0))) H3
section
variable {X : Cx}
theorem pe_allZip {c P : Addr} {e1 e2 : Expr} {xa xb : Str} {pa pb' pt p pos gpos epos ep q1 q2 q3 : Pos} {kt : Nat} {scope : Scope} {t1 t2 : TE} {k : Nat}
    (hr : Room k X.A) (hg : Gl X "all") (hm : X.mg "all" = none) (hb : bootBuiltins "all" = some (.builtin "all")) (hge : Gl X "zip") (hme : X.mg "zip" = none) (TB : GxR.TabB X.base X.mg c P) (hcode : X.env.code = .ref c) (S : GenS2 X.env.scope scope xa xb) (h1 : PE X e1 t1) (h2 : PE X e2 t2)
    (hda : (xa == ("__debug__" : Str)) = false) (hdb : (xb == ("__debug__" : Str)) = false)
    (hs : ∀ v, genFold (.Call (.Name "zip" ep) [e1, e2] [] epos) X.env v = pure v := by intro _; rfl)
    (hs1 : starEach [e1, e2] X.env = (false, eval e1 X.env) :: starEach [e2] X.env := by rfl) (hs2 : starEach [e2] X.env = (false, eval e2 X.env) :: starEach [] X.env := by rfl) (hpl : (backTo epos (starEach [e2] X.env)).any (·.1) = false := by rfl)
    (he : starEach [.GeneratorExp (.Compare (.Name xa q1) [.Lt] [.Name xb q2] q3) [⟨.Tuple [.Name xa pa, .Name xb pb'] kt pt, .Call (.Name "zip" ep) [e1, e2] [] epos, [], 0⟩] scope gpos] X.env = (false, eval (.GeneratorExp (.Compare (.Name xa q1) [.Lt] [.Name xb q2] q3) [⟨.Tuple [.Name xa pa, .Name xb pb'] kt pt, .Call (.Name "zip" ep) [e1, e2] [] epos, [], 0⟩] scope gpos) X.env) :: starEach [] X.env := by rfl) :
    PE X (.Call (.Name "all" p) [.GeneratorExp (.Compare (.Name xa q1) [.Lt] [.Name xb q2] q3) [⟨.Tuple [.Name xa pa, .Name xb pb'] kt pt, .Call (.Name "zip" ep) [e1, e2] [] epos, [], 0⟩] scope gpos] [] pos) (tAllZ X.K P t1 t2) := by
  refine ⟨fun pins s σ H Q I h => call_gen hg hm hb he I (gen_zip (C := fun ns ms H2 => ∀ H3, GxR.Tabbed P H2 H3 → Q (.bl ((List.range (min ns.length ms.length)).all fun i => decide (ns.getD i 0 < ms.getD i 0))) H3) (F := fun ns ms i y => y = .bool (decide (ns.getD i 0 < ms.getD i 0)))
    hr hge hme TB hcode S h1 h2 hs hs1 hs2 hpl (by rfl) I h ?_ ?_)⟩
  · intro ns ms H2 _ cenv A' E' i u m li lj t t' own nsm ma mb
    have two := read_two (M := model X.prog X.w) (A' := A') (E' := E') (p := q1) (q := q2) S own nsm ma mb hda hdb
    refine wpAny_Compare1 (two.1 (two.2 (lt_int ⟨?_, GxR.keeps_refl _⟩))) (nomark _)
    rw [at_getD li, at_getD lj]
  · rintro ns ms H2 g s5 q ⟨fp, wr, G, F', St, W, st, _, say, held⟩
    refine call_all_walkS (W.self 0 _ _ _ st ⟨g, fp, wr, G, _, F', St, _, rfl, W, st, truth_of say, fun s' mv => ?_⟩)
    obtain ⟨H3, grown, J⟩ := held s' mv
    exact ⟨.bl _, H3, J, rfl, q H3 grown⟩
end
/-! ### what stays where tables of code may grow -/
def Tb (T : List Addr) (H : Hp) : Prop := ∀ t ∈ T, GxR.TabG H t
structure Ext (T : List Addr) (H H' : Hp) : Prop where
  ext : ∀ b o, H b = some o → (∀ ps, o ≠ .tbl ps) → H' b = some o
  t0 : Tb T H
  t1 : Tb T H'
  free : ∀ b, H' b = none → H b = none
section
variable {T : List Addr} {H H1 H2 : Hp}
theorem Ext.refl (h : Tb T H) : Ext T H H := ⟨fun _ _ e _ => e, h, h, fun _ e => e⟩
theorem Ext.trans (a : Ext T H H1) (b : Ext T H1 H2) : Ext T H H2 := ⟨fun c o e n => b.ext c o (a.ext c o e n) n, a.t0, b.t1, fun c e => a.free c (b.free c e)⟩
theorem Ext.lst (a : Ext T H H1) {p : Addr} {xs : List V} (h : H p = some (.lst xs)) : H1 p = some (.lst xs) := a.ext _ _ h fun _ z => nomatch z
theorem Ext.tup (a : Ext T H H1) {p : Addr} {xs : List V} (h : H p = some (.tup xs)) : H1 p = some (.tup xs) := a.ext _ _ h fun _ z => nomatch z
theorem Ext.same (s : Same H H1) (h : Tb T H) : Ext T H H1 := ⟨fun b o e _ => s b o e, h, fun t ht => by
  obtain ⟨ps, h1, h2⟩ := h t ht
  exact ⟨ps, s _ _ h1, h2⟩, fun b e => s.free e⟩
theorem Ext.new (a : Ext T H H1) {p : Addr} {o : HO} (hp : H p = none) : Ext T H (upd H1 p o) := by
  refine ⟨fun b u e n => ?_, a.t0, fun t ht => ?_, fun b e => ?_⟩
  · rw [upd_ne (ne_of_none e hp)]
    exact a.ext b u e n
  · obtain ⟨ps, h1, h2⟩ := a.t1 t ht
    obtain ⟨qs, h3, _⟩ := a.t0 t ht
    exact ⟨ps, by rw [upd_ne (ne_of_none h3 hp)]; exact h1, h2⟩
  · by_cases z : b = p
    · subst z
      exact hp
    · rw [upd_ne z] at e
      exact a.free b e
theorem Ext.tabbed {t : Addr} (h : Tb T H) (x : GxR.Tabbed t H H1) (ht : t ∈ T) : Ext T H H1 := by
  refine ⟨fun b o e n => ?_, h, fun u hu => ?_, fun b e => ?_⟩
  · obtain ⟨ps, h1, _⟩ := h t ht
    rw [x.2 b (fun z => by rw [z, h1] at e; exact n ps (Option.some.inj e).symm)]
    exact e
  · by_cases z : u = t
    · rw [z]
      exact x.1
    · obtain ⟨ps, h1, h2⟩ := h u hu
      exact ⟨ps, by rw [x.2 u z]; exact h1, h2⟩
  · by_cases z : b = t
    · obtain ⟨ps, h1, _⟩ := x.1
      rw [z, h1] at e
      cases e
    · rw [x.2 b z] at e
      exact e
end
/-! ### shops -/
inductive Ofr where
  | pack (c : List Int) (p : Int)
  | many (c : List Int) (ts : List (Int × Int))
  | add (c : List Int) (p k : Int)
def Ofr.cont : Ofr → List Int
  | .pack c _ => c
  | .many c _ => c
  | .add c _ _ => c
def Ofr.word : Ofr → Str
  | .pack _ _ => "pack"
  | .many _ _ => "many"
  | .add _ _ _ => "add"
def TiersAt (H : Hp) (a : Addr) (ts : List (Int × Int)) : Prop := ∃ us : List Addr, H a = some (.lst (us.map V.ref)) ∧ us.length = ts.length ∧ ∀ (i : Nat) u (t : Int × Int), us[i]? = some u → ts[i]? = some t → H u = some (.tup [.int t.1, .int t.2])
def OfrAt (H : Hp) (a : Addr) : Ofr → Prop
  | .pack c p => ∃ b, H a = some (.tup [.str "pack", .ref b, .int p]) ∧ H b = some (LI c)
  | .many c ts => ∃ b t, H a = some (.tup [.str "many", .ref b, .ref t]) ∧ H b = some (LI c) ∧ TiersAt H t ts
  | .add c p k => ∃ b, H a = some (.tup [.str "add", .ref b, .int p, .int k]) ∧ H b = some (LI c)
def ShopAt (H : Hp) (a : Addr) (os : List Ofr) : Prop := ∃ vs : List Addr, H a = some (.lst (vs.map V.ref)) ∧ vs.length = os.length ∧ ∀ (i : Nat) v o, vs[i]? = some v → os[i]? = some o → OfrAt H v o
section
variable {T : List Addr} {H H1 : Hp} (e : Ext T H H1)
include e
theorem TiersAt.ext {a : Addr} {ts : List (Int × Int)} (h : TiersAt H a ts) : TiersAt H1 a ts := by
  obtain ⟨us, h1, h2, h3⟩ := h
  exact ⟨us, e.lst h1, h2, fun i u t a b => e.tup (h3 i u t a b)⟩
theorem OfrAt.ext {a : Addr} : ∀ {o : Ofr}, OfrAt H a o → OfrAt H1 a o
  | .pack c p, ⟨b, h1, h2⟩ => ⟨b, e.tup h1, e.lst h2⟩
  | .many c ts, ⟨b, t, h1, h2, h3⟩ => ⟨b, t, e.tup h1, e.lst h2, h3.ext e⟩
  | .add c p k, ⟨b, h1, h2⟩ => ⟨b, e.tup h1, e.lst h2⟩
theorem ShopAt.ext {a : Addr} {os : List Ofr} (h : ShopAt H a os) : ShopAt H1 a os := by
  obtain ⟨vs, h1, h2, h3⟩ := h
  exact ⟨vs, e.lst h1, h2, fun i v o a b => (h3 i v o a b).ext e⟩
end
/-- the offer's word and its content, whatever it is -/
theorem OfrAt.head {H : Hp} {a : Addr} : ∀ {o : Ofr}, OfrAt H a o → ∃ b r, H a = some (.tup (.str o.word :: .ref b :: r)) ∧ H b = some (LI o.cont)
  | .pack c p, ⟨b, h1, h2⟩ => ⟨b, _, h1, h2⟩
  | .many c ts, ⟨b, t, h1, h2, h3⟩ => ⟨b, _, h1, h2⟩
  | .add c p k, ⟨b, h1, h2⟩ => ⟨b, _, h1, h2⟩
theorem ShopAt.get {H : Hp} {a : Addr} {os : List Ofr} {vs : List Addr} (h : vs.length = os.length) {i : Nat} (hi : i < os.length) : ∃ v o, vs[i]? = some v ∧ os[i]? = some o ∧ (vs.map V.ref)[i]? = some (.ref v) := by
  refine ⟨vs[i]'(by omega), os[i], List.getElem?_eq_getElem (by omega), List.getElem?_eq_getElem hi, ?_⟩
  rw [List.getElem?_map, List.getElem?_eq_getElem (by omega)]
  rfl
structure GoodT (ts : List (Int × Int)) : Prop where
  pos : 1 ≤ ts.length
  few : ts.length ≤ 4
  one : ∀ t, ts[0]? = some t → t.1 = 1
  most : ∀ t ∈ ts, t.1 ≤ 12
  rise : ∀ (i : Nat) a b, ts[i]? = some a → ts[i + 1]? = some b → a.1 < b.1
def GoodO (os : List Ofr) (i : Nat) : Ofr → Prop
  | .pack _ _ => True
  | .many _ ts => GoodT ts
  | .add _ _ k => ∃ j : Nat, k = (j : Int) ∧ j < i ∧ ∃ c p, os[j]? = some (.pack c p)
def Good (os : List Ofr) : Prop := os.length ≤ 8 ∧ ∀ (i : Nat) o, os[i]? = some o → GoodO os i o
/-- F.ok with the code object told -/
theorem okc {P : Program} {w : World} {K : PySem.W.Frag} {mg : Str → Option Value} {base : Heap} {x qual : Str} {st : Stmt} {f c : Addr} {fd : FuncData} {N ps : List Str} {k : Nat} {sp : Sp} (F : Fun K x qual st f fd) (hc : fd.code = .ref c) (S : FnScope N ps (defScope st)) (len : ∀ vs H Q E, sp vs H Q E → vs.length = ps.length)
    (hbody : ∀ (cdv : Value) (A : Around) (outer : List Env) (s : Shared) (H : Hp) (vs : List V) (Q : VK) (E : XK), cdv = .ref c → Room k (A.deeper (envOfC qual (defScope st) s.heap.objs.size f cdv)) → sp vs H Q E →
      ∃ t, PSs (cxOf CX0 P w K mg base N qual (defScope st) f cdv A outer s H E).nox (defBody st) t ∧ t { nx := fun _ H' => Q .non H', rt := Q } (start N vs) H) : FnOk P w K mg base CX0 (k + 1) f fd ps sp := by
  obtain ⟨oc, od, kV, doc, pm, an, cdv, ct, osl, rfl, lk, hcd⟩ := F.ex
  refine fn_of lk hcd S len fun A outer s H vs Q E hr hsp => ?_
  obtain ⟨t, h, q⟩ := hbody cdv A outer s H vs Q E hc hr hsp
  exact ⟨t, h.nox, q⟩
/-- a list without its first -/
theorem cut1 (l : List V) : cutV l (some 1) none = l.drop 1 := by
  have a : HT.sIx l.length 0 (some ((1 : Nat) : Int)) = min 1 l.length := HT.sIx_nat _ _ _
  show (l.drop (HT.sIx l.length 0 (some ((1 : Nat) : Int)))).take (l.length - HT.sIx l.length 0 (some ((1 : Nat) : Int))) = l.drop 1
  rw [a]
  rcases Nat.eq_zero_or_pos l.length with z | z
  · rw [List.eq_nil_of_length_eq_zero z]
    rfl
  · rw [Nat.min_eq_left z]
    exact List.take_of_length_le (by rw [List.length_drop]; exact Nat.le_refl _)
/-! ### names_pack, good_tiers, can_stand, look -/
abbrev s_names_pack : Stmt := topS 6
abbrev N_names_pack : List Str := ["shop", "at", "place"]
theorem sc_names_pack : FnScope N_names_pack ["shop", "at"] (defScope s_names_pack) := ⟨rfl, rfl, rfl, by decide +kernel, rfl, by decide +kernel, by decide +kernel⟩

abbrev s_good_tiers : Stmt := topS 7
abbrev N_good_tiers : List Str := ["tiers", "begins", "begin", "price", "low", "high"]
theorem sc_good_tiers : FnScope N_good_tiers ["tiers"] (defScope s_good_tiers) := ⟨rfl, rfl, rfl, by decide +kernel, rfl, by decide +kernel, by decide +kernel⟩

abbrev s_can_stand : Stmt := topS 8
abbrev N_can_stand : List Str := ["shop", "at", "kind"]
theorem sc_can_stand : FnScope N_can_stand ["shop", "at"] (defScope s_can_stand) := ⟨rfl, rfl, rfl, by decide +kernel, rfl, by decide +kernel, by decide +kernel⟩

abbrev s_look : Stmt := topS 9
abbrev N_look : List Str := ["shop", "at"]
theorem sc_look : FnScope N_look ["shop"] (defScope s_look) := ⟨rfl, rfl, rfl, by decide +kernel, rfl, by decide +kernel, by decide +kernel⟩

def sp_names_pack : Sp := fun vs H Q _ => ∃ (a : Addr) (os : List Ofr) (i j : Nat) (c c' : List Int) (p p' : Int), vs = [.ref a, .int i] ∧ ShopAt H a os ∧ os[i]? = some (.add c p j) ∧ j < i ∧ os[j]? = some (.pack c' p') ∧ Q (.bl true) H
def sp_good_tiers (T : List Addr) : Sp := fun vs H Q _ => ∃ (a : Addr) (ts : List (Int × Int)), vs = [.ref a] ∧ TiersAt H a ts ∧ GoodT ts ∧ Tb T H ∧ ∀ H', Ext T H H' → Q (.bl true) H'
def sp_can_stand (T : List Addr) : Sp := fun vs H Q _ => ∃ (a : Addr) (os : List Ofr) (i : Nat), vs = [.ref a, .int i] ∧ ShopAt H a os ∧ Good os ∧ i < os.length ∧ Tb T H ∧ ∀ H', Ext T H H' → Q (.bl true) H'
def sp_look (T : List Addr) : Sp := fun vs H Q _ => ∃ (a : Addr) (os : List Ofr), vs = [.ref a] ∧ ShopAt H a os ∧ Good os ∧ Tb T H ∧ ∀ H', Ext T H H' → Q .non H'
section
variable {P : Program} {w : World} {K : PySem.W.Frag} {mg : Str → Option Value} {base : Heap} {T : List Addr}
theorem ok_names_pack {f : Addr} {fd : FuncData} {k : Nat} (D : Def K mg "names_pack" s_names_pack ["shop", "at"] f fd) : FnOk P w K mg base CX0 (k + 1) f fd ["shop", "at"] sp_names_pack := by
  refine D.F.ok sc_names_pack (fun vs H Q E h => ?_) (fun cdv A outer s H vs Q E hr h => ?_)
  · obtain ⟨a, os, i, j, c, c', p, p', rfl, _⟩ := h
    rfl
  · obtain ⟨a, os, i, j, c, c', p, p', rfl, ⟨vs, h1, h2, h3⟩, hi, hj, hp, q⟩ := h
    have li : i < os.length := (List.getElem?_eq_some_iff.mp hi).1
    obtain ⟨v, o, g1, g2, g3⟩ := ShopAt.get (H := H) (a := a) h2 li
    cases Option.some.inj (g2.symm.trans hi)
    obtain ⟨b, hb, _⟩ := h3 i v _ g1 g2
    obtain ⟨v', o', g4, g5, g6⟩ := ShopAt.get (H := H) (a := a) h2 (show j < os.length by omega)
    cases Option.some.inj (g5.symm.trans hp)
    obtain ⟨b', hb', _⟩ := h3 j v' _ g4 g5
    refine ⟨_, (pss_cons (ps_set (i := 2) sc_names_pack.nd rfl (Or.inl rfl) (pe_ix ix_tup (pe_ix ix_list (pv 0) (pv 1) (fun _ _ => rfl)) pe_int (fun _ _ => rfl)))
  (pss_one (ps_ret (pe_and (pe_chain op_le op_lt pe_int (pv 2) (pv 1)) (pe_one (pe_cmpR op_eq (pe_ix ix_tup (pe_ix ix_list (pv 0) (pv 2) (fun _ _ => rfl)) pe_int (fun _ _ => rfl)) pe_str (nomark _))))))), ?_⟩
    refine ⟨_, rfl, _, rfl, a, _, _, _, rfl, rfl, SqL.of h1, atI_nat g3, v, _, _, _, rfl, rfl, SqT.of hb, atI_nat (j := 3) rfl, ?_⟩
    refine ⟨_, rfl, _, _, rfl, rfl, true, (by show V.bl _ = V.bl _; rw [decide_eq_true (by omega)]), _, rfl, _, _, rfl, rfl, true, (by show V.bl _ = V.bl _; rw [decide_eq_true (by omega)]), ?_⟩
    refine ⟨_, rfl, _, rfl, a, _, _, _, rfl, rfl, SqL.of h1, atI_nat g6, v', _, _, _, rfl, rfl, SqT.of hb', atI_nat (j := 0) rfl, rfl, q⟩
theorem ok_good_tiers {f c t : Addr} {fd : FuncData} {k : Nat} (M : Names mg) (D : Def K mg "good_tiers" s_good_tiers ["tiers"] f fd) (hc : fd.code = .ref c) (TB : GxR.TabB base mg c t) (ht : t ∈ T) : FnOk P w K mg base CX0 (k + 1) f fd ["tiers"] (sp_good_tiers T) := by
  obtain ⟨t4, m_MOST_TIERS⟩ := M.c_MOST_TIERS
  obtain ⟨t12, m_MOST_PIECES⟩ := M.c_MOST_PIECES
  refine okc D.F hc sc_good_tiers (fun vs H Q E h => ?_) (fun cdv A outer s H vs Q E ec hr h => ?_)
  · obtain ⟨a, ts, rfl, _⟩ := h
    rfl
  · obtain ⟨a, ts, rfl, ⟨us, h1, h2, h3⟩, gd, hT, q⟩ := h
    refine ⟨_, (pss_cons (ps_setLc (i := 1) (own := [("begin", 2), ("price", 3)]) (by rfl) sc_good_tiers.nd rfl rfl (sw_true rfl rfl rfl (by decide +kernel)) (pi_list (pv 0)) (blkOk_by (own := [("begin", 2), ("price", 3)]) (N := N_good_tiers) (sc := defScope s_good_tiers) (by decide +kernel)) (fun _ _ _ _ _ => (pg_tupK (K := K) (n := 2) rfl rfl (pgs_cons (pg_name (i := 2) sc_good_tiers.nd rfl (Or.inl rfl)) (pgs_cons (pg_name (i := 3) sc_good_tiers.nd rfl (Or.inl rfl)) pgs_nil)))) (fun _ _ _ _ _ => pts_nil) (fun _ _ _ _ _ => (pv 2)))
  (pss_cons (ps_if (pt_not (pt_chain op_le op_le pe_int (pe_callB call_len_seq (by rfl) M.len (by decide +kernel) (pa_cons (pv 1) pa_nil)) (pe_glob (v := .int 4) (by rfl) m_MOST_TIERS ⟨_, rfl⟩)))
   (pss_one (ps_ret pe_bl))
   pss_nil)
  (pss_cons (ps_if (PW.pt (pw_or (pt_cmpR op_ne (pe_ix ix_list (pv 1) pe_int (fun _ _ => rfl)) pe_int (nomark _)) (pw_or1 (pt_cmpR op_gt (pe_ix ix_list (pv 1) (pe_un un_neg pe_int) (fun _ _ => rfl)) (pe_glob (v := .int 12) (by rfl) m_MOST_PIECES ⟨_, rfl⟩) (nomark _)))))
   (pss_one (ps_ret pe_bl))
   pss_nil)
  (pss_one (ps_ret (pe_allZip hr (by rfl) M.all (by decide +kernel) (by rfl) M.zip TB ec ⟨rfl, rfl, by decide +kernel, rfl, rfl, rfl, by decide, (by show ∀ y : Str × NameKind, y ∈ _ → y.2 = .free → (defScope s_good_tiers).names.lookup y.1 = some .cell; decide +kernel)⟩ (pv 1) (pe_slice sl_list (pv 1) (po_some pe_int) po_none) (by decide) (by decide))))))), ?_⟩
    have pos := gd.pos
    have few := gd.few
    refine ⟨_, rfl, a, rfl, ⟨_, SqL.of h1⟩, fun B nB => lc_list (xs := us.map V.ref) (fun i H' => Same H H' ∧ H' B = some (LI ((ts.take i).map (·.1)))) ⟨same_upd nB, upd_same⟩ (fun i H' _ hp => SqL.of (hp.1 _ _ h1)) (fun i x H1 hx hp => ?_) (fun H1 hp => ?_)⟩
    · obtain ⟨s1, hB⟩ := hp
      rw [List.getElem?_map] at hx
      cases hu : us[i]? with
      | none => rw [hu] at hx; cases hx
      | some u =>
        rw [hu] at hx
        cases Option.some.inj hx
        have hi : i < ts.length := by
          have := (List.getElem?_eq_some_iff.mp hu).1
          omega
        have gt := List.getElem?_eq_getElem hi
        refine ⟨u, _, rfl, SqT.of (s1 _ _ (h3 i u _ hu gt)), rfl, _, _, rfl, _, _, rfl, rfl, rfl, _, rfl, _, hB, szL' (by rw [List.length_map, List.length_map, List.length_take]; omega), sm_new s1 nB, ?_⟩
        rw [take_succ_at gt, List.map_append]
        exact at_app
    · obtain ⟨s1, hB⟩ := hp
      rw [List.length_map, h2, List.take_length] at hB
      generalize hbs : ts.map (·.1) = bs at hB
      have lbs : bs.length = ts.length := by rw [← hbs, List.length_map]
      have gbs : ∀ (i : Nat) t, ts[i]? = some t → bs[i]? = some t.1 := fun i t h => by rw [← hbs, List.getElem?_map, h]; rfl
      have gbs0 : ∀ i, i < bs.length → ∃ t, ts[i]? = some t ∧ bs[i]? = some t.1 := fun i hi => ⟨ts[i]'(by omega), List.getElem?_eq_getElem (by omega), gbs _ _ (List.getElem?_eq_getElem (by omega))⟩
      have hE : Ext T H H1 := .same s1 hT
      -- not 1 <= len(begins) <= MOST_TIERS
      refine ⟨_, rfl, B, _, rfl, .inl (SqL.of hB), _, _, rfl, rfl, true, (by show V.bl _ = V.bl _; rw [decide_eq_true (by rw [List.length_map]; omega)]), _, _, rfl, rfl, true, (by show V.bl _ = V.bl _; rw [decide_eq_true (by rw [List.length_map]; omega)]), ?_⟩
      -- begins[0] != 1 or begins[-1] > MOST_PIECES
      obtain ⟨x0, k1, k2⟩ := gbs0 0 (by omega)
      have e1 : x0.1 = 1 := gd.one _ k1
      refine ⟨_, rfl, B, _, _, _, rfl, rfl, SqL.of hB, atI_nat (j := 0) (get_ints k2), rfl, _, rfl, iteNS (by rw [e1]) ?_⟩
      obtain ⟨x1, k3, k4⟩ := gbs0 (bs.length - 1) (by omega)
      have hneg : atI (bs.map V.int) (-1) = some (.int x1.1) := by
        have e : bs.map V.int = (bs.map V.int).take (bs.length - 1) ++ [.int x1.1] := by
          rw [← take_succ_at (get_ints k4), show bs.length - 1 + 1 = bs.length by omega]
          exact (List.take_of_length_le (by rw [List.length_map]; exact Nat.le_refl _)).symm
        rw [e]
        exact atI_last _ _
      have hm := gd.most x1 (List.mem_of_getElem? k3)
      refine ⟨_, rfl, 1, rfl, B, _, -1, _, rfl, rfl, SqL.of hB, hneg, _, _, rfl, rfl, _, rfl, ?_⟩
      rw [decide_eq_false (by omega)]
      -- all(..)
      refine ⟨_, rfl, _, rfl, 1, rfl, B, _, rfl, SqL.of hB, fun z nz => ⟨B, z, bs, bs.drop 1, rfl, rfl, SqL.of ((same_upd nz) _ _ hB), SqL.of (by rw [upd_same]; congr 2; rw [List.map_drop]; exact cut1 _), (hE.new (s1.free nz)).t1 t ht, fun H3 t3 => ?_⟩⟩
      have all1 : ((List.range (min bs.length (bs.drop 1).length)).all fun i => decide (bs.getD i 0 < (bs.drop 1).getD i 0)) = true := by
        rw [List.all_eq_true]
        intro i hi
        have hi2 := List.mem_range.mp hi
        rw [List.length_drop] at hi2
        obtain ⟨y0, z1, z2⟩ := gbs0 i (by omega)
        obtain ⟨y1, z3, z4⟩ := gbs0 (i + 1) (by omega)
        have := gd.rise i y0 y1 z1 z3
        refine decide_eq_true ?_
        rw [List.getD_eq_getElem?_getD, z2, List.getD_eq_getElem?_getD, List.getElem?_drop, Nat.add_comm 1 i, z4]
        exact this
      rw [all1]
      exact q H3 ((hE.new (s1.free nz)).trans (.tabbed (hE.new (s1.free nz)).t1 t3 ht))
theorem ok_can_stand {f f1 f2 c t : Addr} {fd fd1 fd2 : FuncData} {k : Nat} (M : Names mg) (D : Def K mg "can_stand" s_can_stand ["shop", "at"] f fd) (D_names_pack : Def K mg "names_pack" s_names_pack ["shop", "at"] f1 fd1) (D_good_tiers : Def K mg "good_tiers" s_good_tiers ["tiers"] f2 fd2)
    (hc : fd2.code = .ref c) (TB : GxR.TabB base mg c t) (ht : t ∈ T) : FnOk P w K mg base CX0 (k + 2) f fd ["shop", "at"] (sp_can_stand T) := by
  have G_names_pack : FnOk P w K mg base CX0 (k + 1) f1 fd1 ["shop", "at"] sp_names_pack := ok_names_pack D_names_pack
  have G_good_tiers : FnOk P w K mg base CX0 (k + 1) f2 fd2 ["tiers"] (sp_good_tiers T) := ok_good_tiers M D_good_tiers hc TB ht
  refine D.F.ok sc_can_stand (fun vs H Q E h => ?_) (fun cdv A outer s H vs Q E hr h => ?_)
  · obtain ⟨a, os, i, rfl, _⟩ := h
    rfl
  · obtain ⟨a, os, i, rfl, ⟨vs, h1, h2, h3⟩, gd, hi, hT, q⟩ := h
    obtain ⟨v, o, g1, g2, g3⟩ := ShopAt.get (H := H) (a := a) h2 hi
    have ho := h3 i v o g1 g2
    have hg := gd.2 i o g2
    refine ⟨_, (pss_cons (ps_set (i := 2) sc_can_stand.nd rfl (Or.inl rfl) (pe_ix ix_tup (pe_ix ix_list (pv 0) (pv 1) (fun _ _ => rfl)) pe_int (fun _ _ => rfl)))
  (pss_cons (ps_if (pt_cmpR op_eq (pv 2) pe_str (nomark _))
   (pss_one (ps_ret (pe_call G_names_pack hr (by rfl) D_names_pack.g D_names_pack.F.kp D_names_pack.b .nil pass0 (pa_cons (pv 0) (pa_cons (pv 1) pa_nil)))))
   pss_nil)
  (pss_cons (ps_if (pt_cmpR op_eq (pv 2) pe_str (nomark _))
   (pss_one (ps_ret (pe_call G_good_tiers hr (by rfl) D_good_tiers.g D_good_tiers.F.kp D_good_tiers.b .nil pass0 (pa_cons (pe_ix ix_tup (pe_ix ix_list (pv 0) (pv 1) (fun _ _ => rfl)) pe_int (fun _ _ => rfl)) pa_nil))))
   pss_nil)
  (pss_one (ps_ret pe_bl))))), ?_⟩
    cases o with
    | pack c p =>
      obtain ⟨b, hb, _⟩ := ho
      refine ⟨_, rfl, _, rfl, a, _, _, _, rfl, rfl, SqL.of h1, atI_nat g3, v, _, _, _, rfl, rfl, SqT.of hb, atI_nat (j := 0) rfl, ?_⟩
      refine ⟨_, rfl, rfl, false, rfl, ?_⟩
      refine ⟨_, rfl, rfl, false, rfl, ?_⟩
      exact q H (.refl hT)
    | many c ts =>
      obtain ⟨b, t', hb, _, hts⟩ := ho
      refine ⟨_, rfl, _, rfl, a, _, _, _, rfl, rfl, SqL.of h1, atI_nat g3, v, _, _, _, rfl, rfl, SqT.of hb, atI_nat (j := 0) rfl, ?_⟩
      refine ⟨_, rfl, rfl, false, rfl, ?_⟩
      refine ⟨_, rfl, rfl, true, rfl, ?_⟩
      exact ⟨_, rfl, _, rfl, a, _, _, _, rfl, rfl, SqL.of h1, atI_nat g3, v, _, _, _, rfl, rfl, SqT.of hb, atI_nat (j := 2) rfl, t', ts, rfl, hts, hg, hT, q⟩
    | add c p kk =>
      obtain ⟨b, hb, _⟩ := ho
      obtain ⟨j, rfl, hj, c', p', hp⟩ := hg
      refine ⟨_, rfl, _, rfl, a, _, _, _, rfl, rfl, SqL.of h1, atI_nat g3, v, _, _, _, rfl, rfl, SqT.of hb, atI_nat (j := 0) rfl, ?_⟩
      refine ⟨_, rfl, rfl, true, rfl, ?_⟩
      exact ⟨_, rfl, _, rfl, a, os, i, j, c, c', p, p', rfl, ⟨vs, h1, h2, h3⟩, g2, hj, hp, q H (.refl hT)⟩
theorem ok_look {f f0 f1 f2 c t : Addr} {fd fd0 fd1 fd2 : FuncData} {k : Nat} (M : Names mg) (D : Def K mg "look" s_look ["shop"] f fd) (D_can_stand : Def K mg "can_stand" s_can_stand ["shop", "at"] f0 fd0) (D_names_pack : Def K mg "names_pack" s_names_pack ["shop", "at"] f1 fd1) (D_good_tiers : Def K mg "good_tiers" s_good_tiers ["tiers"] f2 fd2)
    (hc : fd2.code = .ref c) (TB : GxR.TabB base mg c t) (ht : t ∈ T) : FnOk P w K mg base CX0 (k + 3) f fd ["shop"] (sp_look T) := by
  have G_can_stand : FnOk P w K mg base CX0 (k + 2) f0 fd0 ["shop", "at"] (sp_can_stand T) := ok_can_stand M D_can_stand D_names_pack D_good_tiers hc TB ht
  refine D.F.ok sc_look (fun vs H Q E h => ?_) (fun cdv A outer s H vs Q E hr h => ?_)
  · obtain ⟨a, os, rfl, _⟩ := h
    rfl
  · obtain ⟨a, os, rfl, hS, gd, hT, q⟩ := h
    obtain ⟨vs, h1, h2, h3⟩ := id hS
    have l100 := gd.1
    refine ⟨_, (pss_one (ps_for PassesOwn.never rfl (pi_range1 (by rfl) M.range (pa_cons (pe_callB call_len_seq (by rfl) M.len (by decide +kernel) (pa_cons (pv 0) pa_nil)) pa_nil)) (pg_name (i := 1) sc_look.nd rfl (Or.inl rfl))
   (pss_one (ps_if (pt_not (pt_val (pe_call G_can_stand hr (by rfl) D_can_stand.g D_can_stand.F.kp D_can_stand.b .nil pass0 (pa_cons (pv 0) (pa_cons (pv 1) pa_nil)))))
   (pss_one ps_never)
   pss_nil)))), ?_⟩
    refine ⟨_, rfl, a, _, rfl, .inl (SqL.of h1), _, rfl, by omega, by rw [List.length_map]; omega, for_range (n := (((vs.map V.ref).length : Nat) : Int).toNat) (fun i σ H' => ∃ y1, σ = [some (.ref a), y1] ∧ Ext T H H') ⟨none, rfl, .refl hT⟩ (fun i σ H1 hi hp => ?_) (fun σ H1 hp => ?_)⟩
    · obtain ⟨y1, rfl, e1⟩ := hp
      rw [Int.toNat_natCast, List.length_map] at hi
      refine ⟨_, rfl, _, rfl, a, os, i, by show [V.ref a, V.int (0 + (i : Int))] = _; rw [Int.zero_add], hS.ext e1, gd, by omega, e1.t1, fun H2 e2 => ⟨true, rfl, ?_⟩⟩
      exact ⟨_, rfl, e1.trans e2⟩
    · obtain ⟨y1, rfl, e1⟩ := hp
      exact q H1 e1
end
/-! ### lines, as lists -/
/-- place by place -/
def Al {α : Type} (R : Addr → α → Prop) : List Addr → List α → Prop
  | [], [] => True
  | a :: as, x :: xs => R a x ∧ Al R as xs
  | _, _ => False
section
variable {α : Type} {R R' : Addr → α → Prop}
theorem Al.len : ∀ {as : List Addr} {xs : List α}, Al R as xs → as.length = xs.length
  | [], [], _ => rfl
  | [], _ :: _, h => h.elim
  | _ :: _, [], h => h.elim
  | _ :: _, _ :: _, h => by rw [List.length_cons, List.length_cons, Al.len h.2]
theorem Al.app : ∀ {as bs : List Addr} {xs ys : List α}, Al R as xs → Al R bs ys → Al R (as ++ bs) (xs ++ ys)
  | [], _, [], _, _, k => k
  | [], _, _ :: _, _, h, _ => h.elim
  | _ :: _, _, [], _, h, _ => h.elim
  | _ :: _, _, _ :: _, _, h, k => ⟨h.1, Al.app h.2 k⟩
theorem Al.imp (f : ∀ a x, R a x → R' a x) : ∀ {as : List Addr} {xs : List α}, Al R as xs → Al R' as xs
  | [], [], _ => True.intro
  | [], _ :: _, h => h.elim
  | _ :: _, [], h => h.elim
  | _ :: _, _ :: _, h => ⟨f _ _ h.1, Al.imp f h.2⟩
theorem Al.impM : ∀ {as : List Addr} {xs : List α}, (∀ a x, a ∈ as → R a x → R' a x) → Al R as xs → Al R' as xs
  | [], [], _, _ => True.intro
  | [], _ :: _, _, h => h.elim
  | _ :: _, [], _, h => h.elim
  | _ :: _, _ :: _, f, h => ⟨f _ _ List.mem_cons_self h.1, Al.impM (fun a x m => f a x (List.mem_cons_of_mem _ m)) h.2⟩
theorem Al.get : ∀ {as : List Addr} {xs : List α} {i : Nat} {a : Addr}, Al R as xs → as[i]? = some a → ∃ x, xs[i]? = some x ∧ R a x
  | [], [], _, _, _, e => by simp at e
  | [], _ :: _, _, _, h, _ => h.elim
  | _ :: _, [], _, _, h, _ => h.elim
  | _ :: _, x :: _, 0, _, h, e => by cases Option.some.inj e; exact ⟨x, rfl, h.1⟩
  | _ :: _, _ :: _, i + 1, _, h, e => Al.get (i := i) h.2 e
theorem Al.drop1 : ∀ {as : List Addr} {xs : List α}, Al R as xs → Al R (as.drop 1) xs.tail
  | [], [], _ => True.intro
  | [], _ :: _, h => h.elim
  | _ :: _, [], h => h.elim
  | _ :: _, _ :: _, h => h.2
theorem Al.one {a : Addr} {x : α} (h : R a x) : Al R [a] [x] := ⟨h, True.intro⟩
end
/-- a new list of ints, apart from C -/
def RowB (H0 H : Hp) (C : Addr) (a : Addr) (r : List Int) : Prop := H a = some (LI r) ∧ H0 a = none ∧ a ≠ C
def RowF (H0 H : Hp) (a : Addr) (r : List Int) : Prop := H a = some (LI r) ∧ H0 a = none
theorem RowB.keep {H0 H H' : Hp} {C a : Addr} {r : List Int} (s : SameBut C H H') (h : RowB H0 H C a r) : RowB H0 H' C a r := ⟨s _ _ h.2.2 h.1, h.2⟩
theorem RowF.keep {H0 H H' : Hp} {a : Addr} {r : List Int} (s : Same H H') (h : RowF H0 H a r) : RowF H0 H' a r := ⟨s _ _ h.1, h.2⟩
theorem RowB.toF {H0 H : Hp} {C a : Addr} {r : List Int} (h : RowB H0 H C a r) : RowF H0 H a r := ⟨h.1, h.2.1⟩
structure Ln where
  p : Int
  c : Int
  as : List Int
/-- a line, its tuple and its list new -/
def LineF (H0 H : Hp) (a : Addr) (l : Ln) : Prop := ∃ b, H a = some (.tup [.int l.p, .int l.c, .ref b]) ∧ H b = some (LI l.as) ∧ H0 a = none ∧ H0 b = none
def LineB (H0 H : Hp) (B : Addr) (a : Addr) (l : Ln) : Prop := ∃ b, H a = some (.tup [.int l.p, .int l.c, .ref b]) ∧ H b = some (LI l.as) ∧ H0 a = none ∧ H0 b = none ∧ a ≠ B ∧ b ≠ B
theorem LineB.keep {H0 H H' : Hp} {B a : Addr} {l : Ln} (s : SameBut B H H') (h : LineB H0 H B a l) : LineB H0 H' B a l := by
  obtain ⟨b, h1, h2, h3, h4, h5, h6⟩ := h
  exact ⟨b, s _ _ h5 h1, s _ _ h6 h2, h3, h4, h5, h6⟩
theorem LineB.toF {H0 H : Hp} {B a : Addr} {l : Ln} (h : LineB H0 H B a l) : LineF H0 H a l := by
  obtain ⟨b, h1, h2, h3, h4, _⟩ := h
  exact ⟨b, h1, h2, h3, h4⟩
theorem LineF.toB {H0 H1 H : Hp} {B a : Addr} {l : Ln} (h : LineF H1 H a l) (f : ∀ b, H1 b = none → H0 b = none) (hB : H1 B ≠ none) : LineB H0 H B a l := by
  obtain ⟨b, h1, h2, h3, h4⟩ := h
  exact ⟨b, h1, h2, f _ h3, f _ h4, fun z => hB (by rw [← z]; exact h3), fun z => hB (by rw [← z]; exact h4)⟩
def LinesF (H0 H : Hp) (q : Addr) (ls : List Ln) : Prop := ∃ as : List Addr, H q = some (.lst (as.map V.ref)) ∧ Al (LineF H0 H) as ls
def isAdd (os : List Ofr) (p : Int) (i : Nat) : Bool := match os[i]? with
  | some (.add _ _ k) => decide (k = p)
  | _ => false
def addsN (os : List Ofr) (p : Int) (n : Nat) : List Int := ((List.range n).filter (isAdd os p)).map fun (i : Nat) => (i : Int)
def addsM (os : List Ofr) (p : Int) : List Int := addsN os p os.length
theorem addsN_len (os : List Ofr) (p : Int) (n : Nat) : (addsN os p n).length ≤ n := by
  unfold addsN
  rw [List.length_map]
  exact Nat.le_trans (List.length_filter_le _ _) (by rw [List.length_range]; exact Nat.le_refl _)
theorem addsN_yes {os : List Ofr} {p : Int} {n : Nat} (h : isAdd os p n = true) : addsN os p (n + 1) = addsN os p n ++ [(n : Int)] := by
  unfold addsN
  rw [List.range_succ, List.filter_append, List.map_append]
  simp [h]
theorem addsN_no {os : List Ofr} {p : Int} {n : Nat} (h : isAdd os p n = false) : addsN os p (n + 1) = addsN os p n := by
  unfold addsN
  rw [List.range_succ, List.filter_append, List.map_append]
  simp [h]
def choicesM : List Int → List (List Int)
  | [] => [[]]
  | p :: ps => ([[]] ++ (choicesM ps).map (p :: ·)) ++ (choicesM ps).tail
theorem choicesM_len : ∀ ps : List Int, (choicesM ps).length = 2 ^ ps.length
  | [] => rfl
  | p :: ps => by
    have ih := choicesM_len ps
    have pos : 0 < 2 ^ ps.length := Nat.pow_pos (by decide)
    show (([[]] ++ (choicesM ps).map (p :: ·)) ++ (choicesM ps).tail).length = 2 ^ (ps.length + 1)
    rw [List.length_append, List.length_append, List.length_map, List.length_tail, ih, Nat.pow_succ]
    show 1 + 2 ^ ps.length + (2 ^ ps.length - 1) = _
    omega
theorem choicesM_le {ps : List Int} (h : ps.length ≤ 8) : (choicesM ps).length ≤ 256 := by
  rw [choicesM_len]
  exact Nat.le_trans (Nat.pow_le_pow_right (by decide) h) (by decide)
def linesAtM (os : List Ofr) (p : Nat) : List Ln := match os[p]? with
  | some (.pack _ _) => (choicesM (addsM os p)).map fun c => ⟨p, 1, c⟩
  | some (.many _ _) => (List.range 12).map fun i => ⟨p, 1 + (i : Nat), []⟩
  | _ => []
def linesM (os : List Ofr) : List Ln := (List.range os.length).flatMap (linesAtM os)
theorem linesAtM_len {os : List Ofr} (h : os.length ≤ 8) (p : Nat) : (linesAtM os p).length ≤ 256 := by
  unfold linesAtM
  split
  · rw [List.length_map]
    exact choicesM_le (Nat.le_trans (addsN_len _ _ _) h)
  · rw [List.length_map, List.length_range]
    decide
  · decide
theorem linesN_len {os : List Ofr} (h : os.length ≤ 8) : ∀ n : Nat, ((List.range n).flatMap (linesAtM os)).length ≤ n * 256
  | 0 => by simp
  | n + 1 => by
    have ih := linesN_len h n
    have := linesAtM_len h n
    rw [List.range_succ, List.flatMap_append, List.length_append, List.flatMap_singleton]
    omega
theorem OfrAt.same {H H' : Hp} (s : Same H H') {a : Addr} : ∀ {o : Ofr}, OfrAt H a o → OfrAt H' a o
  | .pack c p, ⟨b, h1, h2⟩ => ⟨b, s _ _ h1, s _ _ h2⟩
  | .many c ts, ⟨b, t, h1, h2, us, h3, h4, h5⟩ => ⟨b, t, s _ _ h1, s _ _ h2, us, s _ _ h3, h4, fun i u t a b => s _ _ (h5 i u t a b)⟩
  | .add c p k, ⟨b, h1, h2⟩ => ⟨b, s _ _ h1, s _ _ h2⟩
theorem ShopAt.same {H H' : Hp} (s : Same H H') {a : Addr} {os : List Ofr} (h : ShopAt H a os) : ShopAt H' a os := by
  obtain ⟨vs, h1, h2, h3⟩ := h
  exact ⟨vs, s _ _ h1, h2, fun i v o a b => (h3 i v o a b).same s⟩
/-! ### sum(number for x in list): a generator expression over a list -/
def tSumN (K : PySem.W.Frag) (P : Addr) (R : L2.St → Hp → List V → (Nat → Int) → Prop) (te : TE) : TE := fun σ H Q => te σ H fun v H1 => ∃ (a : Addr) (xs : List V) (val : Nat → Int), v = .ref a ∧ SqL K H1 a xs ∧ GxR.TabG H1 P ∧ R σ H1 xs val ∧
  (∀ j, j < xs.length → InLong (val j) ∧ InLong (preSum val (j + 1))) ∧ ∀ H2, GxR.Tabbed P H1 H2 → Q (.int (preSum val xs.length)) H2
def EltN (X : Cx) (P : Addr) (scope : Scope) (x : Str) (elt : Expr) (R : L2.St → Hp → List V → (Nat → Int) → Prop) : Prop :=
  ∀ (pins : List (Addr × Obj)) (σ : L2.St) (H1 : Hp) (s1 : Shared) (xs : List V) (val : Nat → Int), Inv X pins σ H1 s1 → GxR.TabG H1 P → R σ H1 xs val →
    ∀ (cenv : Env) (A' : Around) (E' : Value → Shared → Prop) (i : Nat) (v : V) (va : Value) (s₂ : Shared) (m₂ : Str → Option Value), cenv.scope = scope → cenv.cells = cloFrom X.env.cells scope.names [] → cenv.globals = mainGlobals → cenv.builtins = builtinsNs →
      A'.handled = none → xs[i]? = some v → RelV v va → s₂.heap.Ns cenv.locals m₂ → m₂ x = some va → (∀ b o, b ≠ P → s1.heap.get? b = some o → s₂.heap.get? b = some o) →
      wpAny (model X.prog X.w) A' (eval elt cenv) (fun y s₃ => (∃ t, y = .int (val i) t) ∧ Keeps s₂ s₃) E' s₂
section
variable {X : Cx}
theorem pe_sumList {c P : Addr} {elt e : Expr} {x : Str} {px p pos gpos : Pos} {scope : Scope} {te : TE} {k : Nat} {R : L2.St → Hp → List V → (Nat → Int) → Prop}
    (hr : Room k X.A) (hg : Gl X "sum") (hm : X.mg "sum" = none) (hb : bootBuiltins "sum" = some (.builtin "sum")) (TB : GxR.TabB X.base X.mg c P) (hcode : X.env.code = .ref c) (S : GenS1 X.env.scope scope x) (hi : PE X e te)
    (hel : EltN X P scope x elt R)
    (hs : ∀ v, genFold e X.env v = pure v := by intro _; rfl)
    (he : starEach [.GeneratorExp elt [⟨.Name x px, e, [], 0⟩] scope gpos] X.env = (false, eval (.GeneratorExp elt [⟨.Name x px, e, [], 0⟩] scope gpos) X.env) :: starEach [] X.env := by rfl) :
    PE X (.Call (.Name "sum" p) [.GeneratorExp elt [⟨.Name x px, e, [], 0⟩] scope gpos] [] pos) (tSumN X.K P R te) := by
  refine ⟨fun pins s σ H Q I h => call_gen hg hm hb he I (gen_ones hr TB hcode S hs I (thn (hi.run pins s σ H _ I h) fun u0 s1 r => ?_))⟩
  obtain ⟨_, H1, J, isRef, a, xs, val, rfl, sq, tab, hR, fit, q⟩ := r
  cases isRef
  obtain ⟨its, rv, at_, _⟩ := J.list sq
  have many : its.toArray.size = xs.length := List.size_toArray.trans rv.length.symm
  have la : a < s1.heap.objs.size := at_.lt
  obtain ⟨oa, ea, ca, _⟩ := id at_.isList
  have aP : a ≠ P := tab_ne J tab ea (.inl fun z => by rw [ca] at z; cases z)
  have lP : P < s1.heap.objs.size := tab.elim fun _ x => Heap.lt_size (show s1.heap.get? P = _ from J.hok P _ x.1)
  refine wpAny_pyIter_list at_.isList ?_
  refine ⟨_, _, _, _, _, _, fun i y => ∃ t, y = .int (val i) t, pins, σ, H1, s1, rfl, ⟨J, tab, ⟨_, s1.toks, rfl⟩, fun b o e => Heap.get?_push_of_some _ e, by rw [Heap.size_push]; exact Nat.le_succ _, fun b hb => ?_, fun b hb => ?_⟩,
    fun A' calm => Walks.list calm s1.heap.objs.size a (Nat.ne_of_lt la) its.toArray, ⟨⟨_, Heap.get?_push_size _ rfl, rfl, rfl⟩, at_.isList.push _⟩, ?_, ?_⟩
  · rw [Heap.size_push]
    simp only [List.mem_cons, List.not_mem_nil, or_false] at hb
    rcases hb with rfl | rfl
    · exact ⟨Nat.lt_succ_self _, Nat.ne_of_gt lP⟩
    · exact ⟨Nat.lt_succ_of_lt la, aP⟩
  · exact Nat.le_of_eq (List.mem_singleton.mp hb).symm
  · intro cenv A' E' i va u m T hPt ns ma
    have there : its[i]? = some va := by simpa using hPt
    obtain ⟨v, hv⟩ : ∃ v, xs[i]? = some v := ⟨_, List.getElem?_eq_getElem (rv.length.symm ▸ (List.getElem?_eq_some_iff.mp there).1)⟩
    obtain ⟨w, hw, rw_⟩ := rv.get hv
    cases there.symm.trans hw
    exact hel pins σ H1 s1 xs val J tab hR cenv A' E' i v _ u m T.own T.cells T.glob T.blt T.calm hv rw_ ns ma T.still
  · rintro g s5 ⟨fp, wr, G, F', St, W, st, low, say, held⟩
    refine call_sum_walkS (W.self 0 _ _ _ st ⟨g, fp, wr, G, _, F', St, val, rfl, W, st, low, say, fun j lj => fit j (many ▸ lj), fun s' t' mv => ?_⟩)
    obtain ⟨H2, grown, J2⟩ := held s' mv
    exact ⟨.int _, H2, J2, ⟨t', rfl⟩, many ▸ q H2 grown⟩
end
/-! ### lines: what they hold and cost, as lists -/
def togM (a b : List Int) : List Int := List.zipWith (· + ·) a b
theorem togM_get {a b : List Int} {i : Nat} {x y : Int} (h : a[i]? = some x) (h2 : b[i]? = some y) : (togM a b)[i]? = some (x + y) := by
  unfold togM
  rw [List.getElem?_zipWith, h, h2]
theorem togM_len (a b : List Int) : (togM a b).length = min a.length b.length := by
  unfold togM
  rw [List.length_zipWith]
def contAt (os : List Ofr) (x : Int) : List Int := match os[x.toNat]? with
  | some o => o.cont
  | none => []
def contM (os : List Ofr) (l : Ln) : List Int := l.as.foldl (fun acc x => togM acc (contAt os x)) ((contAt os l.p).map (l.c * ·))
def pieceL (ts : List (Int × Int)) (c : Int) : List Int := (ts.filter fun t => decide (t.1 ≤ c)).map (·.2)
def pieceM (ts : List (Int × Int)) (c : Int) : Int := (pieceL ts c).getLastD 0
def addPr (os : List Ofr) (x : Int) : Int := match os[x.toNat]? with
  | some (.add _ p _) => p
  | some (.pack _ p) => p
  | _ => 0
def priceM (os : List Ofr) (l : Ln) : Int := match os[l.p.toNat]? with
  | some (.many _ ts) => l.c * pieceM ts l.c
  | some (.pack _ p) => p + (l.as.map (addPr os)).sum
  | _ => 0
/-- l is a line of os -/
def LineOk (os : List Ofr) (l : Ln) : Prop := ∃ p : Nat, l.p = (p : Int) ∧ ((∃ c ts, os[p]? = some (.many c ts) ∧ GoodT ts ∧ 1 ≤ l.c ∧ l.c ≤ 12 ∧ l.as = []) ∨
  (∃ c pr, os[p]? = some (.pack c pr) ∧ l.c = 1 ∧ l.as.length ≤ 8 ∧ ∀ x ∈ l.as, ∃ j : Nat, x = (j : Int) ∧ ∃ c' pr' k, os[j]? = some (.add c' pr' k)))
/-- contents are short, prices of adds within bounds -/
def Fit (os : List Ofr) : Prop := ∀ o ∈ os, o.cont.length ≤ 1000 ∧ ∀ c p k, o = .add c p k → -10000000000000000 ≤ p ∧ p ≤ 10000000000000000
def LineAt (H : Hp) (a : Addr) (l : Ln) : Prop := ∃ b, H a = some (.tup [.int l.p, .int l.c, .ref b]) ∧ H b = some (LI l.as)
theorem LineF.at {H0 H : Hp} {a : Addr} {l : Ln} (h : LineF H0 H a l) : LineAt H a l := by
  obtain ⟨b, h1, h2, _⟩ := h
  exact ⟨b, h1, h2⟩
theorem LineAt.ext {T : List Addr} {H H' : Hp} {a : Addr} {l : Ln} (e : Ext T H H') (h : LineAt H a l) : LineAt H' a l := by
  obtain ⟨b, h1, h2⟩ := h
  exact ⟨b, e.tup h1, e.lst h2⟩
theorem contAt_get {os : List Ofr} {j : Nat} {o : Ofr} (h : os[j]? = some o) : contAt os (j : Int) = o.cont := by
  unfold contAt
  rw [Int.toNat_natCast, h]
theorem pieceL_take {ts : List (Int × Int)} {c : Int} {i : Nat} {t : Int × Int} (h : ts[i]? = some t) : pieceL (ts.take (i + 1)) c = if t.1 ≤ c then pieceL (ts.take i) c ++ [t.2] else pieceL (ts.take i) c := by
  unfold pieceL
  rw [take_succ_at h, List.filter_append, List.map_append]
  by_cases z : t.1 ≤ c
  · rw [if_pos z]
    simp [z]
  · rw [if_neg z]
    simp [z]
/-! ### together, content_of, piece_price -/
abbrev s_together : Stmt := topS 10
abbrev N_together : List Str := ["content", "other", "number", "more"]
theorem sc_together : FnScope N_together ["content", "other"] (defScope s_together) := ⟨rfl, rfl, rfl, by decide +kernel, rfl, by decide +kernel, by decide +kernel⟩

abbrev s_content_of : Stmt := topS 11
abbrev N_content_of : List Str := ["shop", "line", "content", "add", "adds", "place", "count", "number"]
theorem sc_content_of : FnScope N_content_of ["shop", "line"] (defScope s_content_of) := ⟨rfl, rfl, rfl, by decide +kernel, rfl, by decide +kernel, by decide +kernel⟩

abbrev s_piece_price : Stmt := topS 12
abbrev N_piece_price : List Str := ["tiers", "count", "begin", "price"]
theorem sc_piece_price : FnScope N_piece_price ["tiers", "count"] (defScope s_piece_price) := ⟨rfl, rfl, rfl, by decide +kernel, rfl, by decide +kernel, by decide +kernel⟩

abbrev s_price_of : Stmt := topS 13
abbrev N_price_of : List Str := ["shop", "line", "offer", "place", "count", "adds", "add"]
theorem sc_price_of : FnScope N_price_of ["shop", "line"] (defScope s_price_of) := ⟨rfl, rfl, rfl, by decide +kernel, rfl, by decide +kernel, by decide +kernel⟩

def sp_together : Sp := fun vs H Q _ => ∃ (a b : Addr) (xs ys : List Int), vs = [.ref a, .ref b] ∧ H a = some (LI xs) ∧ H b = some (LI ys) ∧ xs.length ≤ 1000 ∧ ∀ H' q, Same H H' → H q = none → H' q = some (LI (togM xs ys)) → Q (.ref q) H'
def sp_content_of : Sp := fun vs H Q _ => ∃ (a la : Addr) (os : List Ofr) (l : Ln), vs = [.ref a, .ref la] ∧ ShopAt H a os ∧ LineAt H la l ∧ LineOk os l ∧ Fit os ∧ ∀ H' q, Same H H' → H q = none → H' q = some (LI (contM os l)) → Q (.ref q) H'
def sp_piece_price : Sp := fun vs H Q _ => ∃ (a : Addr) (ts : List (Int × Int)) (c : Int), vs = [.ref a, .int c] ∧ TiersAt H a ts ∧ GoodT ts ∧ 1 ≤ c ∧ ∀ H', Same H H' → Q (.int (pieceM ts c)) H'
def sp_price_of (T : List Addr) : Sp := fun vs H Q _ => ∃ (a la : Addr) (os : List Ofr) (l : Ln), vs = [.ref a, .ref la] ∧ ShopAt H a os ∧ LineAt H la l ∧ LineOk os l ∧ Fit os ∧ Tb T H ∧ ∀ H', Ext T H H' → Q (.int (priceM os l)) H'
section
variable {P : Program} {w : World} {K : PySem.W.Frag} {mg : Str → Option Value} {base : Heap} {T : List Addr}
theorem ok_together {f : Addr} {fd : FuncData} {k : Nat} (M : Names mg) (D : Def K mg "together" s_together ["content", "other"] f fd) : FnOk P w K mg base CX0 (k + 1) f fd ["content", "other"] sp_together := by
  refine D.F.ok sc_together (fun vs H Q E h => ?_) (fun cdv A outer s H vs Q E hr h => ?_)
  · obtain ⟨a, b, xs, ys, rfl, _⟩ := h
    rfl
  · obtain ⟨a, b, xs, ys, rfl, ha, hb, hl, q⟩ := h
    refine ⟨_, (pss_one (ps_ret (pe_lc (own := [("number", 2), ("more", 3)]) (by rfl) sc_together.nd (pi_zip (by rfl) M.zip (pa_cons (pv 0) (pa_cons (pv 1) pa_nil))) (blkOk_by (own := [("number", 2), ("more", 3)]) (N := N_together) (sc := defScope s_together) (by decide +kernel)) (fun _ _ _ _ _ => (pg_tupK (K := K) (n := 2) rfl rfl (pgs_cons (pg_name (i := 2) sc_together.nd rfl (Or.inl rfl)) (pgs_cons (pg_name (i := 3) sc_together.nd rfl (Or.inl rfl)) pgs_nil)))) (fun _ _ _ _ _ => pts_nil) (fun _ _ _ _ _ => (pe_op op_add (pv 2) (pv 3)))))), ?_⟩
    refine ⟨_, rfl, _, rfl, a, b, _, _, rfl, SqL.of ha, SqL.of hb, fun B nB => lc_it (walk_zip (xs := xs.map V.int) (ys := ys.map V.int) rfl) (fun i H' => Same H H' ∧ H' B = some (LI ((togM xs ys).take i))) ⟨same_upd nB, upd_same⟩ (fun i H' _ hp => ⟨SqL.of (hp.1 _ _ ha), SqL.of (hp.1 _ _ hb)⟩) (fun i x H1 H2 hi hp hy => ?_) (fun H1 hp => ?_)⟩
    · obtain ⟨s1, hB⟩ := hp
      obtain ⟨Tt, x1, x2, rfl, nT, rfl, e1, e2⟩ := hy
      obtain ⟨n, hn, rfl⟩ := of_get_ints e1
      obtain ⟨m, hm, rfl⟩ := of_get_ints e2
      rw [List.length_map, List.length_map] at hi
      have hB2 := (same_upd (o := .tup [.int n, .int m]) nT) _ _ hB
      refine ⟨Tt, _, rfl, SqT.of upd_same, rfl, _, _, rfl, _, _, rfl, rfl, rfl, _, rfl, _, rfl, _, _, rfl, rfl, _, hB2, szL' (by rw [List.length_map, List.length_take]; omega), sm_new (s1.trans (same_upd nT)) nB, ?_⟩
      rw [take_succ_at (togM_get hn hm)]
      exact at_app
    · obtain ⟨s1, hB⟩ := hp
      rw [List.length_map, List.length_map, List.take_of_length_le (by rw [togM_len]; exact Nat.le_refl _)] at hB
      exact q H1 B s1 nB hB
theorem ok_content_of {f f1 : Addr} {fd fd1 : FuncData} {k : Nat} (M : Names mg) (D : Def K mg "content_of" s_content_of ["shop", "line"] f fd) (D_together : Def K mg "together" s_together ["content", "other"] f1 fd1) : FnOk P w K mg base CX0 (k + 2) f fd ["shop", "line"] sp_content_of := by
  have G_together : FnOk P w K mg base CX0 (k + 1) f1 fd1 ["content", "other"] sp_together := ok_together M D_together
  refine D.F.ok sc_content_of (fun vs H Q E h => ?_) (fun cdv A outer s H vs Q E hr h => ?_)
  · obtain ⟨a, la, os, l, rfl, _⟩ := h
    rfl
  · obtain ⟨a, la, os, l, rfl, hS, ⟨b, hl1, hl2⟩, lok, fit, q⟩ := h
    obtain ⟨vs, h1, h2, h3⟩ := id hS
    obtain ⟨p, ep, ways⟩ := lok
    have main : ∃ o, os[p]? = some o ∧ -1000 ≤ l.c ∧ l.c ≤ 1000 ∧ ∀ x ∈ l.as, ∃ j : Nat, x = (j : Int) ∧ j < os.length := by
      rcases ways with ⟨c, ts, w1, _, w2, w3, w4⟩ | ⟨c, pr, w1, w2, w3, w4⟩
      · exact ⟨_, w1, by omega, by omega, fun x hx => by rw [w4] at hx; cases hx⟩
      · refine ⟨_, w1, by omega, by omega, fun x hx => ?_⟩
        obtain ⟨j, ej, c', pr', k', hj⟩ := w4 x hx
        exact ⟨j, ej, (List.getElem?_eq_some_iff.mp hj).1⟩
    obtain ⟨o, ho, hc1, hc2, hadds⟩ := main
    have hp : p < os.length := (List.getElem?_eq_some_iff.mp ho).1
    obtain ⟨v, o', g1, g2, g3⟩ := ShopAt.get (H := H) (a := a) h2 hp
    cases Option.some.inj (g2.symm.trans ho)
    obtain ⟨bc, r, hv, hbc⟩ := (h3 p v _ g1 g2).head
    have fo := (fit _ (List.mem_of_getElem? ho)).1
    refine ⟨_, (pss_cons (ps_asg (pv 1) (pg_tup rfl (pgs_cons (pg_name (i := 5) sc_content_of.nd rfl (Or.inl rfl)) (pgs_cons (pg_name (i := 6) sc_content_of.nd rfl (Or.inr rfl)) (pgs_cons (pg_name (i := 4) sc_content_of.nd rfl (Or.inl rfl)) pgs_nil)))))
  (pss_cons (ps_setLc (i := 2) (own := [("number", 7)]) (by rfl) sc_content_of.nd rfl rfl (sw_true rfl rfl rfl (by decide +kernel)) (pi_list (pe_ix ix_tup (pe_ix ix_list (pv 0) (pv 5) (fun _ _ => rfl)) pe_int (fun _ _ => rfl))) (blkOk_by (own := [("number", 7)]) (N := N_content_of) (sc := defScope s_content_of) (by decide +kernel)) (fun _ _ _ _ _ => (pg_name (i := 7) sc_content_of.nd rfl (Or.inl rfl))) (fun _ _ _ _ _ => pts_nil) (fun _ _ _ _ _ => (pe_op op_mul (pv 6) (pv 7))))
  (pss_cons (ps_for PassesOwn.never rfl (pi_list (pv 4)) (pg_name (i := 3) sc_content_of.nd rfl (Or.inl rfl))
   (pss_one (ps_set (i := 2) sc_content_of.nd rfl (Or.inl rfl) (pe_call G_together hr (by rfl) D_together.g D_together.F.kp D_together.b .nil pass0 (pa_cons (pv 2) (pa_cons (pe_ix ix_tup (pe_ix ix_list (pv 0) (pv 3) (fun _ _ => rfl)) pe_int (fun _ _ => rfl)) pa_nil))))))
  (pss_one (ps_ret (pv 2)))))), ?_⟩
    refine ⟨_, rfl, la, _, rfl, SqT.of hl1, rfl, _, _, rfl, _, _, rfl, _, _, rfl, rfl, ?_⟩
    refine ⟨_, rfl, _, rfl, a, _, _, _, rfl, rfl, SqL.of h1, at_of ep g3, v, _, _, _, rfl, rfl, SqT.of hv, atI_nat (j := 1) rfl, bc, rfl, ⟨_, SqL.of hbc⟩, fun B nB => lc_list (xs := o.cont.map V.int) (fun j H' => Same H H' ∧ H' B = some (LI ((o.cont.take j).map (l.c * ·)))) ⟨same_upd nB, upd_same⟩ (fun j H' _ hp => SqL.of (hp.1 _ _ hbc)) (fun j x H1 hx hp => ?_) (fun H1 hp => ?_)⟩
    · obtain ⟨s1, hB⟩ := hp
      obtain ⟨n, hn, rfl⟩ := of_get_ints hx
      have hj := (List.getElem?_eq_some_iff.mp hn).1
      refine ⟨rfl, _, rfl, _, rfl, _, _, rfl, rfl, .inl ⟨by omega, by omega⟩, _, hB, szL' (by rw [List.length_map, List.length_map, List.length_take]; omega), sm_new s1 nB, ?_⟩
      rw [take_succ_at hn, List.map_append]
      exact at_app
    · obtain ⟨s1, hB⟩ := hp
      rw [List.length_map, List.take_length] at hB
      have e0 : contAt os l.p = o.cont := by rw [ep]; exact contAt_get ho
      refine ⟨_, rfl, b, rfl, ⟨_, SqL.of (s1 _ _ hl2)⟩, for_list (xs := l.as.map V.int) (fun j σ H' => ∃ (cq : Addr) (y3 : Option V), σ = [some (.ref a), some (.ref la), some (.ref cq), y3, some (.ref b), some (.int l.p), some (.int l.c), none] ∧ Same H H' ∧ H cq = none ∧ H' cq = some (LI ((l.as.take j).foldl (fun acc x => togM acc (contAt os x)) (o.cont.map (l.c * ·)))) ∧ ((l.as.take j).foldl (fun acc x => togM acc (contAt os x)) (o.cont.map (l.c * ·))).length ≤ 1000) ⟨B, _, rfl, s1, nB, hB, by rw [List.take_zero]; show (o.cont.map _).length ≤ _; rw [List.length_map]; exact fo⟩ (fun j σ H' _ hp => ?_) (fun j x σ H2 hx hp => ?_) (fun σ H2 hp => ?_)⟩
      · obtain ⟨_, _, _, s2, _⟩ := hp
        exact SqL.of (s2 _ _ hl2)
      · obtain ⟨cq, y3, rfl, s2, ncq, hcq, hlen⟩ := hp
        obtain ⟨n, hn, rfl⟩ := of_get_ints hx
        obtain ⟨j2, rfl, hj2⟩ := hadds n (List.mem_of_getElem? hn)
        obtain ⟨v2, o2, k1, k2, k3⟩ := ShopAt.get (H := H) (a := a) h2 hj2
        obtain ⟨b2, r2, hv2, hb2⟩ := (h3 j2 v2 _ k1 k2).head
        refine ⟨_, rfl, _, rfl, _, rfl, a, _, _, _, rfl, rfl, SqL.of (s2 _ _ h1), atI_nat k3, v2, _, _, _, rfl, rfl, SqT.of (s2 _ _ hv2), atI_nat (j := 1) rfl, cq, b2, _, _, rfl, hcq, s2 _ _ hb2, hlen, fun H3 q3 s3 nq3 hq3 => ?_⟩
        refine ⟨q3, _, rfl, s2.trans s3, s2.free nq3, ?_, ?_⟩
        · rw [take_succ_at hn, List.foldl_append]
          show H3 q3 = some (LI (togM _ (contAt os (j2 : Int))))
          rw [contAt_get k2]
          exact hq3
        · rw [take_succ_at hn, List.foldl_append]
          show (togM _ _).length ≤ 1000
          rw [togM_len]
          omega
      · obtain ⟨cq, y3, rfl, s2, ncq, hcq, hlen⟩ := hp
        rw [List.length_map, List.take_length] at hcq
        refine ⟨_, rfl, q H2 cq s2 ncq ?_⟩
        unfold contM
        rw [e0]
        exact hcq
theorem ok_piece_price {f : Addr} {fd : FuncData} {k : Nat} (M : Names mg) (D : Def K mg "piece_price" s_piece_price ["tiers", "count"] f fd) : FnOk P w K mg base CX0 (k + 1) f fd ["tiers", "count"] sp_piece_price := by
  refine D.F.ok sc_piece_price (fun vs H Q E h => ?_) (fun cdv A outer s H vs Q E hr h => ?_)
  · obtain ⟨a, ts, c, rfl, _⟩ := h
    rfl
  · obtain ⟨a, ts, c, rfl, ⟨us, h1, h2, h3⟩, gd, hc, q⟩ := h
    have few := gd.few
    have pos := gd.pos
    refine ⟨_, (pss_one (ps_ret (pe_ix ix_list (pe_lc (own := [("begin", 2), ("price", 3)]) (by rfl) sc_piece_price.nd (pi_list (pv 0)) (blkOk_by (own := [("begin", 2), ("price", 3)]) (N := N_piece_price) (sc := defScope s_piece_price) (by decide +kernel)) (fun _ _ _ _ _ => (pg_tupK (K := K) (n := 2) rfl rfl (pgs_cons (pg_name (i := 2) sc_piece_price.nd rfl (Or.inl rfl)) (pgs_cons (pg_name (i := 3) sc_piece_price.nd rfl (Or.inl rfl)) pgs_nil)))) (fun _ _ _ _ _ => (pts_one (pt_cmpR op_le (pv 2) (pv 1) (nomark _)))) (fun _ _ _ _ _ => (pv 3))) (pe_un un_neg pe_int) (fun _ _ => rfl)))), ?_⟩
    refine ⟨_, rfl, a, rfl, ⟨_, SqL.of h1⟩, fun B nB => lc_list (xs := us.map V.ref) (fun i H' => Same H H' ∧ H' B = some (LI (pieceL (ts.take i) c)) ∧ (pieceL (ts.take i) c).length ≤ i) ⟨same_upd nB, upd_same, Nat.le_refl _⟩ (fun i H' _ hp => SqL.of (hp.1 _ _ h1)) (fun i x H1 hx hp => ?_) (fun H1 hp => ?_)⟩
    · obtain ⟨s1, hB, hlen⟩ := hp
      rw [List.getElem?_map] at hx
      cases hu : us[i]? with
      | none => rw [hu] at hx; cases hx
      | some u =>
        rw [hu] at hx
        cases Option.some.inj hx
        have hi : i < ts.length := by
          have := (List.getElem?_eq_some_iff.mp hu).1
          omega
        have gt := List.getElem?_eq_getElem hi
        refine ⟨u, _, rfl, SqT.of (s1 _ _ (h3 i u _ hu gt)), rfl, _, _, rfl, _, _, rfl, rfl, rfl, _, rfl, _, rfl, _, _, rfl, rfl, _, rfl, ite2 (fun z => ?_) (fun z => ?_)⟩
        · have z2 := of_decide_eq_true z
          refine ⟨_, rfl, _, hB, szL' (by rw [List.length_map]; omega), sm_new s1 nB, ?_, ?_⟩
          · rw [pieceL_take gt, if_pos z2]
            exact at_app
          · rw [pieceL_take gt, if_pos z2, List.length_append, List.length_singleton]
            omega
        · have z2 : ¬ (ts[i]).1 ≤ c := fun y => z (decide_eq_true y)
          refine ⟨s1, ?_, ?_⟩
          · rw [pieceL_take gt, if_neg z2]
            exact hB
          · rw [pieceL_take gt, if_neg z2]
            omega
    · obtain ⟨s1, hB, hlen⟩ := hp
      rw [List.length_map, h2, List.take_length] at hB
      have ne : pieceL ts c ≠ [] := by
        have g0 := List.getElem?_eq_getElem (show 0 < ts.length by omega)
        have e1 := gd.one _ g0
        have hm : (ts[0]'(by omega)) ∈ ts.filter fun t => decide (t.1 ≤ c) := List.mem_filter.mpr ⟨List.getElem_mem _, decide_eq_true (by omega)⟩
        intro z
        unfold pieceL at z
        rw [List.map_eq_nil_iff] at z
        rw [z] at hm
        cases hm
      have hneg : atI ((pieceL ts c).map V.int) (-1) = some (.int (pieceM ts c)) := by
        have e : pieceL ts c = (pieceL ts c).dropLast ++ [pieceM ts c] := by
          unfold pieceM
          rw [List.getLastD_eq_getLast?, List.getLast?_eq_getLast ne]
          exact (List.dropLast_concat_getLast ne).symm
        rw [e, List.map_append]
        exact atI_last _ _
      exact ⟨1, rfl, B, _, -1, _, rfl, rfl, SqL.of hB, hneg, q H1 s1⟩
end
/-! ### price_of -/
/-- the element: shop[add][2] -/
def RPr (H0 : Hp → Prop) : L2.St → Hp → List V → (Nat → Int) → Prop := fun σ H xs val => ∃ (a : Addr) (os : List Ofr) (as : List Int), σ[0]? = some (some (.ref a)) ∧ ShopAt H a os ∧ xs = as.map V.int ∧ (∀ x ∈ as, ∃ j : Nat, x = (j : Int) ∧ ∃ c p k, os[j]? = some (.add c p k)) ∧ val = fun i => addPr os (as.getD i 0)
theorem preSum_map (os : List Ofr) (as : List Int) : ∀ n, n ≤ as.length → preSum (fun i => addPr os (as.getD i 0)) n = ((as.take n).map (addPr os)).sum
  | 0, _ => rfl
  | n + 1, h => by
    have ih := preSum_map os as n (by omega)
    have g := List.getElem?_eq_getElem (show n < as.length by omega)
    show preSum _ n + addPr os (as.getD n 0) = _
    rw [ih, take_succ_at g, List.map_append, List.sum_append, List.getD_eq_getElem?_getD, g]
    simp
theorem sum_bound (os : List Ofr) : ∀ (as : List Int), (∀ x ∈ as, -10000000000000000 ≤ addPr os x ∧ addPr os x ≤ 10000000000000000) → -(10000000000000000 * (as.length : Int)) ≤ (as.map (addPr os)).sum ∧ (as.map (addPr os)).sum ≤ 10000000000000000 * (as.length : Int)
  | [], _ => by simp
  | a :: r, h => by
    have ih := sum_bound os r fun x hx => h x (List.mem_cons_of_mem _ hx)
    have h1 := h a List.mem_cons_self
    rw [List.map_cons, List.sum_cons, List.length_cons]
    omega
section
variable {P : Program} {w : World} {K : PySem.W.Frag} {mg : Str → Option Value} {base : Heap} {T : List Addr}
theorem ok_price_of {f f1 c t : Addr} {fd fd1 : FuncData} {k : Nat} (M : Names mg) (D : Def K mg "price_of" s_price_of ["shop", "line"] f fd) (hc : fd.code = .ref c) (TB : GxR.TabB base mg c t) (ht : t ∈ T) (D_piece_price : Def K mg "piece_price" s_piece_price ["tiers", "count"] f1 fd1) : FnOk P w K mg base CX0 (k + 2) f fd ["shop", "line"] (sp_price_of T) := by
  have G_piece_price : FnOk P w K mg base CX0 (k + 1) f1 fd1 ["tiers", "count"] sp_piece_price := ok_piece_price M D_piece_price
  refine okc D.F hc sc_price_of (fun vs H Q E h => ?_) (fun cdv A outer s H vs Q E ec hr h => ?_)
  · obtain ⟨a, la, os, l, rfl, _⟩ := h
    rfl
  · obtain ⟨a, la, os, l, rfl, hS, ⟨b, hl1, hl2⟩, lok, fit, hT, q⟩ := h
    obtain ⟨vs, h1, h2, h3⟩ := id hS
    obtain ⟨p, ep, ways⟩ := lok
    refine ⟨_, (pss_cons (ps_asg (pv 1) (pg_tup rfl (pgs_cons (pg_name (i := 3) sc_price_of.nd rfl (Or.inl rfl)) (pgs_cons (pg_name (i := 4) sc_price_of.nd rfl (Or.inl rfl)) (pgs_cons (pg_name (i := 5) sc_price_of.nd rfl (Or.inl rfl)) pgs_nil)))))
  (pss_cons (ps_set (i := 2) sc_price_of.nd rfl (Or.inl rfl) (pe_ix ix_list (pv 0) (pv 3) (fun _ _ => rfl)))
  (pss_cons (ps_if (pt_cmpR op_eq (pe_ix ix_tup (pv 2) pe_int (fun _ _ => rfl)) pe_str (nomark _))
   (pss_one (ps_ret (pe_op op_mul (pv 4) (pe_call G_piece_price hr (by rfl) D_piece_price.g D_piece_price.F.kp D_piece_price.b .nil pass0 (pa_cons (pe_ix ix_tup (pv 2) pe_int (fun _ _ => rfl)) (pa_cons (pv 4) pa_nil))))))
   pss_nil)
  (pss_one (ps_ret (pe_op op_add (pe_ix ix_tup (pv 2) pe_int (fun _ _ => rfl)) (pe_sumList (R := RPr (fun _ => True)) hr (by rfl) M.sum (by decide +kernel) TB ec ⟨rfl, rfl, by decide +kernel, rfl, rfl, (by show ∀ y : Str × NameKind, y ∈ _ → y.2 = .free → (defScope s_price_of).names.lookup y.1 = some .cell; decide +kernel)⟩ (pv 5) ?el))))))), ?_⟩
    case el =>
      intro pins σ H1 s1 xs val I1 hT1 hR cenv A' E' i v va s₂ m₂ c1 c2 c3 c4 c5 hv rva hn hma hk
      obtain ⟨a1, os1, as1, e0, ⟨vs1, k1, k2, k3⟩, rfl, hadds, rfl⟩ := hR
      obtain ⟨n, hnn, rfl⟩ := of_get_ints hv
      obtain ⟨t2, rfl⟩ := rva
      obtain ⟨j, rfl, cc', pp, kk, hj⟩ := hadds n (List.mem_of_getElem? hnn)
      have lj : j < os1.length := (List.getElem?_eq_some_iff.mp hj).1
      obtain ⟨v1, o1, g1, g2, g3⟩ := ShopAt.get (H := H1) (a := a1) k2 lj
      cases Option.some.inj (g2.symm.trans hj)
      obtain ⟨b1, hv1, _⟩ := k3 j v1 _ g1 g2
      obtain ⟨m1, hns1, hl1'⟩ := I1.loc
      obtain ⟨u, ru, lk⟩ := hl1' 0 "shop" _ rfl e0 (.inr (.inl rfl))
      cases ru
      rcases lk with ⟨kk', _⟩ | ⟨_, cc, hcc, hcell⟩
      · exact absurd (show (defScope s_price_of).names.lookup ("shop" : Str) = some .local from kk') (by decide +kernel)
      · obtain ⟨its, rv, pl, hz⟩ := I1.list (SqL.of k1)
        obtain ⟨itst, rvt, plt, hzt⟩ := I1.tuple (SqT.of hv1)
        obtain ⟨oc, eoc, doc⟩ := id hcell
        have ncP : cc ≠ t := tab_ne I1 hT1 eoc (.inr fun vs z => by rw [doc] at z; cases z)
        obtain ⟨oa, ea, ca, na, da⟩ := id pl.isList
        have naP : a1 ≠ t := tab_ne I1 hT1 ea (.inl (by rw [ca]; exact fun z => nomatch z))
        obtain ⟨ot, et, ct, nt, dt⟩ := id plt
        have nvP : v1 ≠ t := tab_ne I1 hT1 et (.inl (by rw [ct]; exact fun z => nomatch z))
        have hcell2 : s₂.heap.IsCell cc (some (.ref a1)) := ⟨oc, hk _ _ ncP eoc, doc⟩
        have hL2 : s₂.heap.IsList a1 its.toArray := pl.isList.at fun o e => hk _ _ naP e
        have hT2 : IsTup s₂.heap v1 itst.toArray := ⟨ot, hk _ _ nvP et, ct, nt, dt⟩
        have hcl : cenv.cells.lookup ("shop" : Str) = some cc := by
          rw [c2]
          show some (((envOfC "price_of" (defScope s_price_of) s.heap.objs.size f cdv).cells.lookup ("shop" : Str)).getD 0) = some cc
          rw [show (envOfC "price_of" (defScope s_price_of) s.heap.objs.size f cdv).cells.lookup ("shop" : Str) = some cc from hcc]
          rfl
        have sk : cenv.scope.kind = .function := by rw [c1]
        have hn63 := line63
        obtain ⟨uj, hu1, ru1⟩ := rv.get g3
        cases ru1
        obtain ⟨up, hu2, ru2⟩ := rvt.get (show ([V.str "add", V.ref b1, V.int pp, V.int kk] : List V)[2]? = some (.int pp) from rfl)
        obtain ⟨tp, rfl⟩ := ru2
        have lv := rv.length
        have lvt := rvt.length
        rw [List.length_map] at lv
        have l4 : itst.length = 4 := by rw [← lvt]; rfl
        refine Subscript_ (Subscript_ (wpAny_Name (wpAny_loadName_free sk (by show cenv.scope.names.lookup ("shop" : Str) = _; rw [c1]; rfl) hcl hcell2 (wpAny_Name (wpAny_loadName_local sk (by show cenv.scope.names.lookup ("add" : Str) = _; rw [c1]; rfl) hn hma ?_)))))
        have hz' : os1.length ≤ sizeLine := by
          have := hz
          rw [List.length_map, k2] at this
          exact this
        have hj63 : (j : Int) < 2 ^ 63 := by omega
        refine item_listR hL2 (by omega) hj63 (x := .ref v1) (by rw [Int.toNat_natCast]; simpa using hu1) ?_
        refine wpAny_Constant_int ?_
        refine subscriptTail_builtinR (x := .int pp tp) hT2.typeIs slot_tuple_getitem.lookup (getItem_tuple (s := { s₂ with toks := s₂.toks + 1 }) (j := 2) (Q := fun r s' => r = .int pp tp ∧ (∃ t, r = .int (addPr os1 (as1.getD i 0)) t) ∧ Keeps s₂ s') hT2 (by decide) (by decide) (by rw [List.size_toArray, l4]; exact (ixN_seq (ixN_nat (n := 4) (j := 2) (by decide))).1) (by simpa using hu2) ⟨rfl, ⟨tp, ?_⟩, GxR.keeps_tok _ _⟩) rfl
        rw [show as1.getD i 0 = ((j : Nat) : Int) by rw [List.getD_eq_getElem?_getD, hnn]; rfl]
        unfold addPr
        rw [Int.toNat_natCast, hj]
    refine ⟨_, rfl, la, _, rfl, SqT.of hl1, rfl, _, _, rfl, _, _, rfl, _, _, rfl, rfl, ?_⟩
    rcases ways with ⟨c0, ts, w1, w0, w2, w3, w4⟩ | ⟨c0, pr, w1, w2, w3, w4⟩
    · have hp : p < os.length := (List.getElem?_eq_some_iff.mp w1).1
      obtain ⟨v, o', g1, g2, g3⟩ := ShopAt.get (H := H) (a := a) h2 hp
      cases Option.some.inj (g2.symm.trans w1)
      obtain ⟨bc, tt, hv, hbc, hts⟩ := h3 p v _ g1 g2
      refine ⟨_, rfl, _, rfl, a, _, _, _, rfl, rfl, SqL.of h1, at_of ep g3, ?_⟩
      refine ⟨_, rfl, v, _, _, _, rfl, rfl, SqT.of hv, atI_nat (j := 0) rfl, rfl, true, rfl, ?_⟩
      refine ⟨_, rfl, _, rfl, v, _, _, _, rfl, rfl, SqT.of hv, atI_nat (j := 2) rfl, _, rfl, tt, ts, l.c, rfl, hts, w0, w2, fun H1 s1 => ⟨_, _, rfl, rfl, .inl ⟨by omega, by omega⟩, ?_⟩⟩
      have e := q H1 (.same s1 hT)
      unfold priceM at e
      rw [ep, Int.toNat_natCast, w1] at e
      exact e
    · have hp : p < os.length := (List.getElem?_eq_some_iff.mp w1).1
      obtain ⟨v, o', g1, g2, g3⟩ := ShopAt.get (H := H) (a := a) h2 hp
      cases Option.some.inj (g2.symm.trans w1)
      obtain ⟨bc, hv, hbc⟩ := h3 p v _ g1 g2
      have bnd : ∀ x ∈ l.as, -10000000000000000 ≤ addPr os x ∧ addPr os x ≤ 10000000000000000 := fun x hx => by
        obtain ⟨j, rfl, c', p', k', hj⟩ := w4 x hx
        have := (fit _ (List.mem_of_getElem? hj)).2 c' p' k' rfl
        unfold addPr
        rw [Int.toNat_natCast, hj]
        exact this
      have bsub : ∀ n, n ≤ l.as.length → InLong (((l.as.take n).map (addPr os)).sum) := fun n hn => by
        have := sum_bound os (l.as.take n) fun x hx => bnd x (List.mem_of_mem_take hx)
        rw [List.length_take, Nat.min_eq_left hn] at this
        unfold InLong
        omega
      refine ⟨_, rfl, _, rfl, a, _, _, _, rfl, rfl, SqL.of h1, at_of ep g3, ?_⟩
      refine ⟨_, rfl, v, _, _, _, rfl, rfl, SqT.of hv, atI_nat (j := 0) rfl, rfl, false, rfl, ?_⟩
      refine ⟨_, rfl, v, _, _, _, rfl, rfl, SqT.of hv, atI_nat (j := 2) rfl, _, rfl, b, _, (fun i => addPr os (l.as.getD i 0)), rfl, SqL.of hl2, hT t ht, ⟨a, os, l.as, rfl, hS, rfl, w4, rfl⟩, fun j hj => ?_, fun H2 t2 => ⟨_, _, rfl, rfl, ?_⟩⟩
      · rw [List.length_map] at hj
        refine ⟨?_, ?_⟩
        · have := bnd _ (List.getElem_mem hj)
          show InLong (addPr os (l.as.getD j 0))
          rw [show l.as.getD j 0 = l.as[j] by rw [List.getD_eq_getElem?_getD, List.getElem?_eq_getElem hj]; rfl]
          unfold InLong
          omega
        · rw [preSum_map os l.as (j + 1) (by omega)]
          exact bsub _ (by omega)
      · rw [List.length_map, preSum_map os l.as _ (Nat.le_refl _), List.take_length]
        have e := q H2 (.tabbed hT t2 ht)
        unfold priceM at e
        rw [ep, Int.toNat_natCast, w1] at e
        exact e
end
/-! ### _law_pop -/
abbrev s_law_pop : Stmt := topS 17
abbrev N_law_pop : List Str := ["_law_draws_here"]
theorem sc_law_pop : FnScope N_law_pop ["_law_draws_here"] (defScope s_law_pop) := ⟨rfl, rfl, rfl, by decide +kernel, rfl, by decide +kernel, by decide +kernel⟩

def sp_pop : Sp := fun vs H Q _ => ∃ (a : Addr) (ns : List Int), vs = [.ref a] ∧ H a = some (LI ns) ∧ ∀ H', SameBut a H H' → H' a = some (LI ns.tail) → Q (.int (ns.headD 0)) H'
section
variable {P : Program} {w : World} {K : PySem.W.Frag} {mg : Str → Option Value} {base : Heap}
theorem ok_pop {f : Addr} {fd : FuncData} {k : Nat} (D : Def K mg "_law_pop" s_law_pop ["_law_draws_here"] f fd) : FnOk P w K mg base CX0 (k + 1) f fd ["_law_draws_here"] sp_pop := by
  refine D.F.ok sc_law_pop (fun vs H Q E h => ?_) (fun cdv A outer s H vs Q E hr h => ?_)
  · obtain ⟨a, ns, rfl, _⟩ := h
    rfl
  · obtain ⟨a, ns, rfl, ha, q⟩ := h
    refine ⟨_, (pss_cons (ps_if (pt_cmpR (op_eqD hr.units) (pv 0) (pe_lst pa_nil) (nomark _))
   (pss_one (ps_ret pe_int))
   pss_nil)
  (pss_one (ps_ret (pe_bm PySem.F.plainAttrs_list PySem.F.slot_list_pop PySem.F.type_list_pop mt_popAt (pv 0) (pa_cons pe_int pa_nil))))), ?_⟩
    refine ⟨.ref a, rfl, Nat.zero_le _, fun p np => ?_⟩
    have ne : a ≠ p := ne_of_none ha np
    have ha1 : upd H p (.lst []) a = some (LI ns) := by rw [upd_ne ne]; exact ha
    have s1 : SameBut a H (upd H p (.lst [])) := .of (same_upd np)
    refine ⟨_, _, dp_ints (SqL.of ha1), dp_ints (ns := []) (SqL.of upd_same), shaped_ints _, shaped_ints _, _, rfl, ite2 (fun e => ?_) (fun e => ?_)⟩
    · rw [eqv_ints] at e
      have e2 : ns = [] := of_decide_eq_true e
      subst e2
      exact q _ s1 ha1
    · rw [eqv_ints] at e
      cases ns with
      | nil => exact absurd (decide_eq_true rfl) e
      | cons n r =>
        refine ⟨.ref a, rfl, .inl ⟨rfl, _, SqL.of ha1⟩, a, _, 0, 0, .int n, rfl, rfl, ha1, by decide, by decide, ?_, rfl, ?_⟩
        · rw [List.length_map, List.length_cons]
          exact (ixN_seq (ixN_nat (Nat.succ_pos _))).1
        · exact q _ (s1.trans .upd) upd_same
end
/-! ### _law_cases -/
abbrev s_law_cases : Stmt := topS 21
abbrev N_law_cases : List Str := ["_law_want_here", "_law_found", "_law_number"]
theorem sc_law_cases : FnScope N_law_cases ["_law_want_here"] (defScope s_law_cases) := ⟨rfl, rfl, rfl, by decide +kernel, rfl, by decide +kernel, by decide +kernel⟩

def casesM (ws : List Int) : Int := ws.foldl (fun p w => p * (w + 1)) 1
theorem casesM_take {ws : List Int} {i : Nat} {x : Int} (h : ws[i]? = some x) : casesM (ws.take (i + 1)) = casesM (ws.take i) * (x + 1) := by
  unfold casesM
  rw [take_succ_at h, List.foldl_append]
  rfl
def sp_cases (K : PySem.W.Frag) : Sp := fun vs H Q _ => ∃ (a : Addr) (ws : List Int), vs = [.ref a] ∧ SqL K H a (ws.map V.int) ∧ (∀ w ∈ ws, -1000000 ≤ w ∧ w ≤ 1000000) ∧ Q (.int (casesM ws)) H
section
variable {P : Program} {w : World} {K : PySem.W.Frag} {mg : Str → Option Value} {base : Heap}
theorem ok_cases {f : Addr} {fd : FuncData} {k : Nat} (D : Def K mg "_law_cases" s_law_cases ["_law_want_here"] f fd) : FnOk P w K mg base CX0 (k + 1) f fd ["_law_want_here"] (sp_cases K) := by
  refine D.F.ok sc_law_cases (fun vs H Q E h => ?_) (fun cdv A outer s H vs Q E hr h => ?_)
  · obtain ⟨a, ns, rfl, _⟩ := h
    rfl
  · obtain ⟨a, ws, rfl, ha, hw, q⟩ := h
    refine ⟨_, (pss_cons (ps_set (i := 1) sc_law_cases.nd rfl (Or.inl rfl) pe_int)
  (pss_cons (ps_for PassesOwn.never rfl (pi_list (pv 0)) (pg_name (i := 2) sc_law_cases.nd rfl (Or.inl rfl))
   (pss_one (ps_set (i := 1) sc_law_cases.nd rfl (Or.inl rfl) (pe_op op_mul (pv 1) (pe_op op_add (pv 2) pe_int)))))
  (pss_one (ps_ret (pv 1))))), ?_⟩
    refine ⟨.ref a, rfl, a, rfl, ⟨_, ha⟩, for_list (xs := ws.map V.int) (fun i σ H' => ∃ y, σ = [some (.ref a), some (.int (casesM (ws.take i))), y] ∧ H' = H) ⟨none, rfl, rfl⟩ (fun i σ H' _ hp => ?_) (fun i x σ H' hx hp => ?_) (fun σ H' hp => ?_)⟩
    · obtain ⟨y, _, rfl⟩ := hp
      exact ha
    · obtain ⟨y, rfl, rfl⟩ := hp
      obtain ⟨n, hn, rfl⟩ := of_get_ints hx
      have b := hw n (List.mem_of_getElem? hn)
      refine ⟨_, rfl, _, rfl, _, _, rfl, rfl, _, _, rfl, rfl, .inr ⟨by omega, by omega⟩, some (.int n), ?_, rfl⟩
      rw [casesM_take hn]
      rfl
    · obtain ⟨y, rfl, rfl⟩ := hp
      refine ⟨_, rfl, ?_⟩
      rw [List.length_map, List.take_length]
      exact q
end
/-! ### _law_draws -/
abbrev s_law_draws : Stmt := topS 16
abbrev N_law_draws : List Str := ["_law_script", "_law_turn", "_law_many", "_law_cells", "_law_found", "_law_k", "_law_left", "_law_place", "_law_number", "_law_at", "_law_cell"]
theorem sc_law_draws : FnScope N_law_draws ["_law_script", "_law_turn", "_law_many"] (defScope s_law_draws) := ⟨rfl, rfl, rfl, by decide +kernel, rfl, by decide +kernel, by decide +kernel⟩

theorem cut_to (ns : List Int) (k : Nat) : cutV (ns.map V.int) none (some (k : Int)) = (ns.take k).map V.int := by
  unfold cutV
  rw [HT.sIx_nat, HT.sIx_none, List.drop_zero, Nat.sub_zero, List.map_take]
  exact (List.take_eq_take_iff).mpr (by omega)
def sp_draws (K : PySem.W.Frag) : Sp := fun vs H Q _ => ∃ (a : Addr) (ns : List Int) (t m : Nat), vs = [.ref a, .int t, .int m] ∧ SqL K H a (ns.map V.int) ∧ ns.length ≤ 1000 ∧ t ≤ 1000 ∧ m ≤ 1000 ∧
  ∀ H' p ds, Same H H' → H p = none → H' p = some (LI ds) → Q (.ref p) H'
section
variable {P : Program} {w : World} {K : PySem.W.Frag} {mg : Str → Option Value} {base : Heap}
theorem ok_draws {f : Addr} {fd : FuncData} {k : Nat} (M : Names mg) (D : Def K mg "_law_draws" s_law_draws ["_law_script", "_law_turn", "_law_many"] f fd) :
    FnOk P w K mg base CX0 (k + 1) f fd ["_law_script", "_law_turn", "_law_many"] (sp_draws K) := by
  refine D.F.ok sc_law_draws (fun vs H Q E h => ?_) (fun cdv A outer s H vs Q E hr h => ?_)
  · obtain ⟨a, ns, t, m, rfl, _⟩ := h
    rfl
  · obtain ⟨a, ns, t, m, rfl, hS, hl, ht, hm, q⟩ := h
    refine ⟨_, (pss_cons (ps_set (i := 3) sc_law_draws.nd rfl (Or.inl rfl) (pe_op op_cat (pe_slice sl_list (pv 0) po_none (po_some pe_int)) (pe_lst (pa_cons (pv 1) pa_nil))))
  (pss_cons (ps_set (i := 4) sc_law_draws.nd rfl (Or.inl rfl) (pe_lst pa_nil))
  (pss_cons (ps_if (pt_cmpR op_eq (pe_op op_mod (pe_op op_fdiv (pe_ix ix_list (pv 3) pe_int (fun _ _ => rfl)) pe_int) pe_int) pe_int (nomark _))
   (pss_cons (ps_setLc (i := 6) (own := [("_law_cell", 10)]) (by rfl) sc_law_draws.nd rfl rfl (sw_true rfl rfl rfl (by decide +kernel)) (pi_list (pv 3)) (blkOk_by (own := [("_law_cell", 10)]) (N := N_law_draws) (sc := defScope s_law_draws) (by decide +kernel)) (fun _ _ _ _ _ => (pg_name (i := 10) sc_law_draws.nd rfl (Or.inl rfl))) (fun _ _ _ _ _ => pts_nil) (fun _ _ _ _ _ => (pe_op op_fdiv (pv 10) pe_int)))
  (pss_cons (ps_for PassesOwn.never rfl (pi_range1 (by rfl) M.range (pa_cons (pe_op op_add (pv 1) (pv 2)) pa_nil)) (pg_name (i := 5) sc_law_draws.nd rfl (Or.inl rfl))
   (pss_cons (ps_set (i := 9) sc_law_draws.nd rfl (Or.inl rfl) (pe_op op_mod (pv 5) (pe_callB call_len_seq (by rfl) M.len (by decide +kernel) (pa_cons (pv 6) pa_nil))))
  (pss_cons (ps_if (pt_cmpR op_ge (pv 5) (pv 1) (nomark _))
   (pss_one (ps_expr (pe_bm PySem.F.plainAttrs_list PySem.F.slot_list_append PySem.F.type_list_append mt_append (pv 4) (pa_cons (pe_op op_mod (pe_ix ix_list (pv 6) (pv 9) (fun _ _ => rfl)) pe_int) pa_nil))))
   pss_nil)
  (pss_one (ps_asg (pe_op op_fdivW (pe_ix ix_list (pv 6) (pv 9) (fun _ _ => rfl)) pe_int) (pg_sub (pv 6) (pv 9) set_list))))))
  (pss_one (ps_ret (pv 4)))))
   pss_nil)
  (pss_cons (ps_for PassesOwn.never rfl (pi_range1 (by rfl) M.range (pa_cons (pv 2) pa_nil)) (pg_name (i := 5) sc_law_draws.nd rfl (Or.inl rfl))
   (pss_cons (ps_set (i := 7) sc_law_draws.nd rfl (Or.inl rfl) (pe_op op_add (pe_op op_mul (pe_op op_mul (pe_op op_add (pv 5) (pv 1)) (pe_op op_add (pv 5) (pv 1))) pe_int) pe_int))
  (pss_cons (ps_set (i := 8) sc_law_draws.nd rfl (Or.inl rfl) (pe_op op_mod (pe_op op_mul (pe_op op_add (pe_op op_mod (pe_ix ix_list (pv 3) (pe_op op_mod (pv 5) (pe_callB call_len_seq (by rfl) M.len (by decide +kernel) (pa_cons (pv 3) pa_nil))) (fun _ _ => rfl)) pe_int) (pv 7)) pe_int) pe_int))
  (pss_cons (ps_set (i := 8) sc_law_draws.nd rfl (Or.inl rfl) (pe_op op_mod (pe_op op_add (pe_op op_mul (pv 8) (pv 8)) (pe_op op_mul pe_int (pv 5))) pe_int))
  (pss_one (ps_expr (pe_bm PySem.F.plainAttrs_list PySem.F.slot_list_append PySem.F.type_list_append mt_append (pv 4) (pa_cons (pe_op op_mod (pe_op op_mul (pv 8) (pv 8)) pe_int) pa_nil))))))))
  (pss_one (ps_ret (pv 4))))))), ?_⟩
    refine ⟨.ref a, rfl, 63, rfl, a, ns.map V.int, rfl, hS, fun c nc => ?_⟩
    refine ⟨.int t, rfl, by show 1 ≤ sizeLine; decide, fun u nu => ?_⟩
    have hcu : c ≠ u := ne_of_none upd_same nu
    have hc : (upd (upd H c (.lst (cutV (ns.map V.int) none (some 63)))) u (.lst [.int (t : Int)])) c = some (.lst (cutV (ns.map V.int) none (some 63))) := by
      rw [upd_ne hcu]
      exact upd_same
    have hlen := cutV_length (ns.map V.int) none (some 63)
    rw [List.length_map] at hlen
    refine ⟨c, u, _, _, rfl, rfl, hc, upd_same, szL (by rw [show ([V.int (t : Int)] : List V).length = 1 from rfl]; omega), fun e ne => ?_⟩
    obtain ⟨cs, ecs, hcs1, hcs2⟩ : ∃ cs : List Int, cutV (ns.map V.int) none (some 63) ++ [V.int (t : Int)] = cs.map V.int ∧ 0 < cs.length ∧ cs.length ≤ 2000 := by
      refine ⟨ns.take 63 ++ [(t : Int)], ?_, ?_, ?_⟩
      · rw [show (63 : Int) = ((63 : Nat) : Int) from rfl, cut_to, List.map_append]
        rfl
      · rw [List.length_append]
        exact Nat.succ_pos _
      · rw [List.length_append, List.length_take, List.length_singleton]
        omega
    have s1 : Same H (upd (upd (upd H c (.lst (cutV (ns.map V.int) none (some 63)))) u (.lst [.int (t : Int)])) e (.lst (cutV (ns.map V.int) none (some 63) ++ [.int (t : Int)]))) :=
      ((same_upd nc).trans (same_upd nu)).trans (same_upd ne)
    have he1 : (upd (upd (upd H c (.lst (cutV (ns.map V.int) none (some 63)))) u (.lst [.int (t : Int)])) e (.lst (cutV (ns.map V.int) none (some 63) ++ [.int (t : Int)]))) e = some (LI cs) := by
      rw [upd_same, ecs]
    generalize (upd (upd (upd H c (.lst (cutV (ns.map V.int) none (some 63)))) u (.lst [.int (t : Int)])) e (.lst (cutV (ns.map V.int) none (some 63) ++ [.int (t : Int)]))) = H1 at s1 he1 ⊢
    -- found = []
    refine ⟨Nat.zero_le _, fun o no => ?_⟩
    have hoe : e ≠ o := ne_of_none he1 no
    have s2 : Same H (upd H1 o (.lst [])) := s1.trans (same_upd no)
    have noH : H o = none := s1.free no
    have he2 : (upd H1 o (.lst [])) e = some (LI cs) := by rw [upd_ne hoe]; exact he1
    have ho2 : (upd H1 o (.lst [])) o = some (LI []) := upd_same
    generalize (upd H1 o (.lst [])) = H2 at s2 he2 ho2 ⊢
    -- cells[0] // 50000 % 2 == 1
    refine ⟨.ref e, rfl, e, _, 0, .int cs[0], rfl, rfl, SqL.of he2, atI_nat (j := 0) (getD_ints hcs1), _, _, rfl, rfl, ⟨by decide, by decide⟩, _, _, rfl, rfl, (by show (0 : Int) < _; decide), rfl, _, rfl, ite2 (fun _ => ?_) (fun _ => ?_)⟩
    · -- left = [cell // 100000 for cell in cells]
      refine ⟨.ref e, rfl, e, rfl, ⟨_, SqL.of he2⟩, fun B nB => lc_list (xs := cs.map V.int) (fun i H' => Same H2 H' ∧ ∃ ls : List Int, H' B = some (LI ls) ∧ ls.length = i) ⟨same_upd nB, [], upd_same, rfl⟩ (fun i H' _ hp => SqL.of (hp.1 _ _ he2)) (fun i x H' hx hp => ?_) (fun H3 hp => ?_)⟩
      · obtain ⟨s3, ls, hB, hls⟩ := hp
        obtain ⟨n, hn, rfl⟩ := of_get_ints hx
        have hi : i < cs.length := (List.getElem?_eq_some_iff.mp hn).1
        refine ⟨rfl, _, rfl, _, _, rfl, rfl, ⟨by decide, by decide⟩, _, hB, szL' (by rw [List.length_map]; omega), sm_new s3 nB, ls ++ [n / 100000], ?_, by rw [List.length_append, hls]; rfl⟩
        exact at_app
      · obtain ⟨s3, ls, hB, hls⟩ := hp
        rw [List.length_map] at hls
        have s3' := s2.trans s3
        have ho3 := s3 _ _ ho2
        have noB : o ≠ B := ne_of_none ho2 nB
        have nBH : H B = none := s2.free nB
        -- for k in range(turn + many)
        refine ⟨_, rfl, _, rfl, _, _, rfl, rfl, _, rfl, by omega, by omega, for_range (n := ((t : Int) + (m : Int)).toNat) (fun i σ H' => ∃ y5 y9, σ = [some (.ref a), some (.int t), some (.int m), some (.ref e), some (.ref o), y5, some (.ref B), none, none, y9, none] ∧ Same H H' ∧
          (∃ ds : List Int, H' o = some (LI ds) ∧ ds.length ≤ i) ∧ ∃ ls : List Int, H' B = some (LI ls) ∧ ls.length = cs.length) ⟨none, none, rfl, s3', ⟨[], ho3, Nat.zero_le _⟩, ls, hB, hls⟩ (fun i σ H4 hi hp => ?_) (fun σ H4 hp => ?_)⟩
        · obtain ⟨y5, y9, rfl, s4, ⟨ds, ho4, hds⟩, ls, hB4, hls⟩ := hp
          obtain ⟨j, hj, ej⟩ := mod_at (i := (0 : Int) + (i : Nat)) (n := (ls.map V.int).length) (by rw [List.length_map]; omega)
          rw [List.length_map] at hj
          refine ⟨_, rfl, _, rfl, B, _, rfl, .inl (SqL.of hB4), _, _, rfl, rfl, by rw [List.length_map]; omega, ?_⟩
          refine ⟨_, rfl, _, rfl, _, _, rfl, rfl, _, rfl, ite2 (fun _ => ?_) (fun _ => ?_)⟩
          · refine ⟨_, rfl, .inl ⟨rfl, _, SqL.of ho4⟩, _, rfl, _, rfl, B, _, _, _, rfl, rfl, SqL.of hB4, at_of ej (getD_ints hj), _, _, rfl, rfl, (by show (0 : Int) < _; decide), o, _, _, rfl, rfl, ho4, szL' (by rw [List.length_map]; omega), ?_⟩
            have hB5 : upd H4 o (.lst (ds.map V.int ++ [V.int (ls[j] % 2147483587)])) B = some (LI ls) := by rw [upd_ne noB.symm]; exact hB4
            refine ⟨_, rfl, _, rfl, B, _, _, _, rfl, rfl, SqL.of hB5, at_of ej (getD_ints hj), _, _, rfl, rfl, wide_div (b := 32) (by decide) (by decide) (by decide) (by decide), _, rfl, _, rfl, B, _, _, j, rfl, rfl, hB5, by rw [ej, List.length_map]; exact ixN_nat hj, ?_⟩
            refine ⟨_, _, rfl, sm_new (sm_new s4 noH) nBH, ⟨ds ++ [ls[j] % 2147483587], ?_, by rw [List.length_append, List.length_singleton]; omega⟩, ls.set j (ls[j] / 2147483587), ?_, by rw [List.length_set]; exact hls⟩
            · rw [upd_ne noB]
              exact at_app
            · exact at_set
          · refine ⟨_, rfl, _, rfl, B, _, _, _, rfl, rfl, SqL.of hB4, at_of ej (getD_ints hj), _, _, rfl, rfl, wide_div (b := 32) (by decide) (by decide) (by decide) (by decide), _, rfl, _, rfl, B, _, _, j, rfl, rfl, hB4, by rw [ej, List.length_map]; exact ixN_nat hj, ?_⟩
            refine ⟨_, _, rfl, sm_new s4 nBH, ⟨ds, ?_, by omega⟩, ls.set j (ls[j] / 2147483587), ?_, by rw [List.length_set]; exact hls⟩
            · rw [upd_ne noB]
              exact ho4
            · exact at_set
        · obtain ⟨y5, y9, rfl, s4, ⟨ds, ho4, hds⟩, _⟩ := hp
          exact ⟨_, rfl, q H4 o ds s4 noH ho4⟩
    · -- for k in range(many)
      refine ⟨_, rfl, _, rfl, by omega, by omega, for_range (n := (m : Int).toNat) (fun i σ H' => ∃ y5 y7 y8, σ = [some (.ref a), some (.int t), some (.int m), some (.ref e), some (.ref o), y5, none, y7, y8, none, none] ∧ Same H H' ∧ H' e = some (LI cs) ∧
        (∃ ds : List Int, H' o = some (LI ds) ∧ ds.length ≤ i)) ⟨none, none, none, rfl, s2, he2, [], ho2, Nat.zero_le _⟩ (fun i σ H4 hi hp => ?_) (fun σ H4 hp => ?_)⟩
      · obtain ⟨y5, y7, y8, rfl, s4, he4, ds, ho4, hds⟩ := hp
        have hi2 : i < m := by omega
        obtain ⟨j, hj, ej⟩ := mod_at (i := (0 : Int) + (i : Nat)) (n := (cs.map V.int).length) (by rw [List.length_map]; omega)
        rw [List.length_map] at hj
        -- place
        refine ⟨_, rfl, _, rfl, _, _, rfl, rfl, _, rfl, _, rfl, _, _, rfl, rfl, _, _, rfl, rfl, .inl ⟨by omega, by omega⟩, _, _, rfl, rfl, .inr ⟨by decide, by decide⟩, _, _, rfl, rfl, ?_⟩
        -- number
        refine ⟨_, rfl, _, rfl, _, rfl, e, _, rfl, .inl (SqL.of he4), _, _, rfl, rfl, by rw [List.length_map]; omega, e, _, _, _, rfl, rfl, SqL.of he4, at_of ej (getD_ints hj), _, _, rfl, rfl, (by show (0 : Int) < _; decide), _, rfl, _, _, rfl, rfl, _, _, rfl, rfl, .inr ⟨by decide, by decide⟩, _, _, rfl, rfl, (by show (0 : Int) < _; decide), ?_⟩
        have mb : ∀ z : Int, -(2 ^ 64) < z % 2147483647 ∧ z % 2147483647 < 2 ^ 64 := fun z => by omega
        have mb2 : ∀ z : Int, -(2 ^ 64) < z % 2147483629 ∧ z % 2147483629 < 2 ^ 64 := fun z => by omega
        refine ⟨_, rfl, _, rfl, _, _, rfl, rfl, .inl (mb _), _, rfl, _, _, rfl, rfl, .inl ⟨by decide, by decide⟩, _, _, rfl, rfl, _, _, rfl, rfl, (by show (0 : Int) < _; decide), ?_⟩
        refine ⟨_, rfl, .inl ⟨rfl, _, SqL.of ho4⟩, _, rfl, _, rfl, _, _, rfl, rfl, .inl (mb2 _), _, _, rfl, rfl, (by show (0 : Int) < _; decide), o, _, _, rfl, rfl, ho4, szL' (by rw [List.length_map]; omega), ?_⟩
        refine ⟨_, _, _, rfl, sm_new s4 noH, ?_, _, at_app, by rw [List.length_append, List.length_singleton]; omega⟩
        rw [upd_ne hoe]
        exact he4
      · obtain ⟨y5, y7, y8, rfl, s4, _, ds, ho4, hds⟩ := hp
        exact ⟨_, rfl, q H4 o ds s4 noH ho4⟩
end
/-! ### _law_want -/
abbrev s_law_want : Stmt := topS 20
abbrev N_law_want : List Str := ["_law_draws_here", "_law_many", "_law_number", "_law_found", "_law_k"]
theorem sc_law_want : FnScope N_law_want ["_law_draws_here", "_law_many"] (defScope s_law_want) := ⟨rfl, rfl, rfl, by decide +kernel, rfl, by decide +kernel, by decide +kernel⟩

theorem menu8 {j : Nat} (h : j < 8) : ∃ v : Int, ([V.int 0, V.int 1, V.int 2, V.int 9, V.int 4, V.int 5, V.int 3, V.int 1] : List V)[j]? = some (.int v) ∧ 0 ≤ v ∧ v ≤ 9 :=
  match j, h with
  | 0, _ => ⟨0, rfl, by decide, by decide⟩
  | 1, _ => ⟨1, rfl, by decide, by decide⟩
  | 2, _ => ⟨2, rfl, by decide, by decide⟩
  | 3, _ => ⟨9, rfl, by decide, by decide⟩
  | 4, _ => ⟨4, rfl, by decide, by decide⟩
  | 5, _ => ⟨5, rfl, by decide, by decide⟩
  | 6, _ => ⟨3, rfl, by decide, by decide⟩
  | 7, _ => ⟨1, rfl, by decide, by decide⟩
theorem shl_ok {i : Nat} (h : i < 4) : (0 : Int) < 1 * 2 ^ (3 * (0 + (i : Int))).toNat ∧ (1 : Int) * 2 ^ (3 * (0 + (i : Int))).toNat < 1073741824 :=
  match i, h with
  | 0, _ => by decide
  | 1, _ => by decide
  | 2, _ => by decide
  | 3, _ => by decide
theorem first_at : ∀ {l : List Int} {x : Int}, x ∈ l → ∃ j : Nat, l[j]? = some x ∧ ∀ (m : Nat) y, m < j → l[m]? = some y → y ≠ x
  | a :: r, x, h => by
    by_cases e : a = x
    · subst e
      exact ⟨0, rfl, fun m y hm => absurd hm (Nat.not_lt_zero _)⟩
    · obtain ⟨j, h1, h2⟩ := first_at (l := r) ((List.mem_cons.mp h).resolve_left fun z => e z.symm)
      refine ⟨j + 1, h1, fun m y hm hy => ?_⟩
      cases m with
      | zero =>
        have : a = y := Option.some.inj hy
        rw [← this]
        exact e
      | succ m => exact h2 m y (by omega) hy
theorem casesM_zero : ∀ (ws : List Int) (p : Int), (∀ w ∈ ws, w = 0) → ws.foldl (fun p w => p * (w + 1)) p = p
  | [], _, _ => rfl
  | a :: r, p, h => by
    have e : a = 0 := h a List.mem_cons_self
    subst e
    show r.foldl (fun p w => p * (w + 1)) (p * (0 + 1)) = p
    rw [casesM_zero r _ fun w hw => h w (List.mem_cons_of_mem _ hw)]
    omega
theorem sum_nonneg : ∀ {ws : List Int}, (∀ w ∈ ws, 0 ≤ w) → 0 ≤ ws.sum
  | [], _ => by decide
  | a :: r, h => by
    have h1 := h a List.mem_cons_self
    have h2 := sum_nonneg (ws := r) fun w hw => h w (List.mem_cons_of_mem _ hw)
    rw [List.sum_cons]
    omega
theorem sum_get : ∀ {ws : List Int} {j : Nat} {x : Int}, (∀ w ∈ ws, 0 ≤ w) → ws[j]? = some x → x ≤ ws.sum
  | [], j, x, _, h => by simp at h
  | a :: r, 0, x, hh, h => by
    have e : a = x := Option.some.inj h
    have := sum_nonneg (ws := r) fun w hw => hh w (List.mem_cons_of_mem _ hw)
    rw [List.sum_cons]
    omega
  | a :: r, j + 1, x, hh, h => by
    have h1 := hh a List.mem_cons_self
    have h2 := sum_get (ws := r) (j := j) (x := x) (fun w hw => hh w (List.mem_cons_of_mem _ hw)) h
    rw [List.sum_cons]
    omega
def Small (ws : List Int) : Prop := ∀ w ∈ ws, 0 ≤ w ∧ w ≤ 9
theorem Small.app {ws : List Int} {n : Int} (h : Small ws) (h1 : 0 ≤ n) (h2 : n ≤ 9) : Small (ws ++ [n]) := fun w hw => by
  rcases List.mem_append.mp hw with z | z
  · exact h w z
  · rw [List.mem_singleton.mp z]
    exact ⟨h1, h2⟩
theorem Small.big {ws : List Int} (h : Small ws) : ∀ w ∈ ws, -1000000 ≤ w ∧ w ≤ 1000000 := fun w hw => by
  have := h w hw
  omega
def sp_want : Sp := fun vs H Q _ => ∃ (a : Addr) (ns : List Int) (m : Nat), vs = [.ref a, .int m] ∧ H a = some (LI ns) ∧ 1 ≤ m ∧ m ≤ 4 ∧
  ∀ H' p ws ns', SameBut a H H' → H p = none → p ≠ a → H' p = some (LI ws) → H' a = some (LI ns') → ws.length = m → Small ws → casesM ws ≤ 400 → Q (.ref p) H'
section
variable {P : Program} {w : World} {K : PySem.W.Frag} {mg : Str → Option Value} {base : Heap}
theorem ok_want {f fp fc : Addr} {fd fdp fdc : FuncData} {k : Nat} (M : Names mg) (D : Def K mg "_law_want" s_law_want ["_law_draws_here", "_law_many"] f fd) (D_law_pop : Def K mg "_law_pop" s_law_pop ["_law_draws_here"] fp fdp) (D_law_cases : Def K mg "_law_cases" s_law_cases ["_law_want_here"] fc fdc) :
    FnOk P w K mg base CX0 (k + 2) f fd ["_law_draws_here", "_law_many"] sp_want := by
  have G_law_pop : FnOk P w K mg base CX0 (k + 1) fp fdp ["_law_draws_here"] sp_pop := ok_pop D_law_pop
  have G_law_cases : FnOk P w K mg base CX0 (k + 1) fc fdc ["_law_want_here"] (sp_cases K) := ok_cases D_law_cases
  refine D.F.ok sc_law_want (fun vs H Q E h => ?_) (fun cdv A outer s H vs Q E hr h => ?_)
  · obtain ⟨a, ns, m, rfl, _⟩ := h
    rfl
  · obtain ⟨a, ns, m, rfl, ha, hm1, hm4, q⟩ := h
    refine ⟨_, (pss_cons (ps_set (i := 2) sc_law_want.nd rfl (Or.inr rfl) (pe_call G_law_pop hr (by rfl) D_law_pop.g D_law_pop.F.kp D_law_pop.b .nil pass0 (pa_cons (pv 0) pa_nil)))
  (pss_cons (ps_setLc (i := 3) (own := [("_law_k", 4)]) (by rfl) sc_law_want.nd rfl rfl (sw_true rfl rfl rfl (by decide +kernel)) (pi_range1 (by rfl) M.range (pa_cons (pv 1) pa_nil)) (blkOk_by (own := [("_law_k", 4)]) (N := N_law_want) (sc := defScope s_law_want) (by decide +kernel)) (fun _ _ _ _ _ => (pg_name (i := 4) sc_law_want.nd rfl (Or.inl rfl))) (fun _ _ _ _ _ => pts_nil) (fun _ _ _ _ _ => (pe_ix (ix_listK (K := K) rfl) (pe_lst (pa_cons pe_int (pa_cons pe_int (pa_cons pe_int (pa_cons pe_int (pa_cons pe_int (pa_cons pe_int (pa_cons pe_int (pa_cons pe_int pa_nil))))))))) (pe_op op_mod (pe_op op_fdiv (pv 2) (pe_op op_shl pe_int (pe_op op_mul pe_int (pv 4)))) pe_int) (fun _ _ => rfl))))
  (pss_cons (ps_if (pt_cmpR op_eq (pe_op op_mod (pe_op op_fdiv (pv 2) pe_int) pe_int) pe_int (nomark _))
   (pss_one (ps_setLc (i := 3) (own := [("_law_k", 4)]) (by rfl) sc_law_want.nd rfl rfl (sw_true rfl rfl rfl (by decide +kernel)) (pi_range1 (by rfl) M.range (pa_cons (pv 1) pa_nil)) (blkOk_by (own := [("_law_k", 4)]) (N := N_law_want) (sc := defScope s_law_want) (by decide +kernel)) (fun _ _ _ _ _ => (pg_name (i := 4) sc_law_want.nd rfl (Or.inl rfl))) (fun _ _ _ _ _ => pts_nil) (fun _ _ _ _ _ => (pe_op op_mod (pe_call G_law_pop hr (by rfl) D_law_pop.g D_law_pop.F.kp D_law_pop.b .nil pass0 (pa_cons (pv 0) pa_nil)) pe_int))))
   pss_nil)
  (pss_cons (ps_while PassesOwn.never (pt_cmpR op_gt (pe_call G_law_cases hr (by rfl) D_law_cases.g D_law_cases.F.kp D_law_cases.b .nil pass0 (pa_cons (pv 3) pa_nil)) pe_int (nomark _))
   (pss_one (ps_asg (pe_op op_sub (pe_callB (cr_max rfl) (by rfl) M.max (by decide +kernel) (pa_cons (pv 3) pa_nil)) pe_int) (pg_sub (pv 3) (pe_bm PySem.F.plainAttrs_list PySem.F.slot_list_index PySem.F.type_list_index mt_index (pv 3) (pa_cons (pe_callB (cr_max rfl) (by rfl) M.max (by decide +kernel) (pa_cons (pv 3) pa_nil)) pa_nil)) set_list))))
  (pss_one (ps_ret (pv 3))))))), ?_⟩
    -- number = pop(draws)
    refine ⟨.ref a, rfl, a, ns, rfl, ha, fun H1 s1 h1 => ?_⟩
    generalize ns.headD 0 = n0
    generalize ns.tail = ns1 at h1
    -- the menu
    refine ⟨_, rfl, _, rfl, by omega, by omega, fun B nB => lc_range (lo := 0) (n := (m : Int).toNat) (fun i H' => SameBut a H H' ∧ H' a = some (LI ns1) ∧ ∃ ws, H' B = some (LI ws) ∧ ws.length = i ∧ Small ws) ?_ (fun i H' hi hp => ?_) (fun H2 hp => ?_)⟩
    · have nBa : a ≠ B := ne_of_none h1 nB
      refine ⟨?_, ?_, [], upd_same, rfl, fun w hw => nomatch hw⟩
      · exact s1.new (s1.free nB (by rw [h1]; exact fun z => nomatch z))
      · rw [upd_ne nBa]
        exact h1
    · have nBa : a ≠ B := ne_of_none h1 nB
      have nBH : H B = none := s1.free nB (by rw [h1]; exact fun z => nomatch z)
      obtain ⟨s2, h2, ws, hB, hl, sm⟩ := hp
      have hi4 : i < 4 := by omega
      refine ⟨rfl, by show 8 ≤ sizeLine; decide, fun p np => ?_⟩
      have npB : B ≠ p := ne_of_none hB np
      have npa : a ≠ p := ne_of_none h2 np
      obtain ⟨j, hj, ej⟩ := mod_at (i := n0 / (1 * 2 ^ (3 * (0 + (i : Int))).toNat)) (n := 8) (by decide)
      obtain ⟨v, hv, hv1, hv2⟩ := menu8 hj
      refine ⟨_, rfl, _, rfl, _, _, rfl, rfl, .inl ⟨by decide, by decide⟩, _, _, rfl, rfl, ⟨by omega, by omega, by decide⟩, _, _, rfl, rfl, shl_ok hi4, _, _, rfl, rfl, (by show (0 : Int) < _; decide), p, _, _, _, rfl, rfl, SqL.of upd_same, at_of ej hv, ?_⟩
      have hB2 : (upd H' p (.lst [V.int 0, V.int 1, V.int 2, V.int 9, V.int 4, V.int 5, V.int 3, V.int 1])) B = some (LI ws) := by rw [upd_ne npB]; exact hB
      refine ⟨_, hB2, szL' (by rw [List.length_map]; omega), ?_, ?_, _, at_app, by rw [List.length_append, hl]; rfl, sm.app hv1 hv2⟩
      · exact (s2.new (s2.free np (by rw [h2]; exact fun z => nomatch z))).new nBH
      · rw [upd_ne nBa, upd_ne npa]
        exact h2
    · have nBa : a ≠ B := ne_of_none h1 nB
      have nBH : H B = none := s1.free nB (by rw [h1]; exact fun z => nomatch z)
      obtain ⟨s2, h2, ws, hB, hl, sm⟩ := hp
      -- the end: while and return, from any found list
      have fin : ∀ (L : Addr) (σ : L2.St) (H3 : Hp), σ = [some (.ref a), some (.int m), some (.int n0), some (.ref L), none] → H L = none → a ≠ L → SameBut a H H3 → (∃ ns3, H3 a = some (LI ns3)) → (∃ ws, H3 L = some (LI ws) ∧ ws.length = m ∧ Small ws) →
          ∃ W : Nat → L2.St → Hp → Prop, (∃ μ, W μ σ H3) ∧ ∀ μ σ H4, W μ σ H4 → ∃ ws, W μ σ H4 ∧ σ = [some (.ref a), some (.int m), some (.int n0), some (.ref L), none] ∧ SameBut a H H4 ∧ (∃ ns3, H4 a = some (LI ns3)) ∧ H4 L = some (LI ws) ∧ ws.length = m ∧ Small ws ∧ μ = ws.sum.toNat ∧
            ∀ ws' : List Int, ws'.length = m → Small ws' → ws'.sum < ws.sum → ∃ μ', μ' < μ ∧ W μ' σ (upd H4 L (LI ws')) := by
        intro L σ H3 eσ nL naL s3 h3 h4
        refine ⟨fun μ σ H4 => ∃ ws, σ = [some (.ref a), some (.int m), some (.int n0), some (.ref L), none] ∧ SameBut a H H4 ∧ (∃ ns3, H4 a = some (LI ns3)) ∧ H4 L = some (LI ws) ∧ ws.length = m ∧ Small ws ∧ μ = ws.sum.toNat, ?_, ?_⟩
        · obtain ⟨ws, e1, e2, e3⟩ := h4
          exact ⟨_, ws, eσ, s3, h3, e1, e2, e3, rfl⟩
        · intro μ σ H4 hW
          obtain ⟨ws, e1, e2, ⟨ns3, e3⟩, e4, e5, e6, e7⟩ := id hW
          refine ⟨ws, hW, e1, e2, ⟨ns3, e3⟩, e4, e5, e6, e7, fun ws' l1 l2 l3 => ⟨_, ?_, ws', e1, e2.new nL, ⟨ns3, ?_⟩, upd_same, l1, l2, rfl⟩⟩
          · have p1 : 0 ≤ ws'.sum := sum_nonneg fun w hw => (l2 w hw).1
            omega
          · rw [upd_ne naL]
            exact e3
      have body : ∀ (L : Addr) (H4 : Hp) (ws : List Int), H L = none → a ≠ L → SameBut a H H4 → (∃ ns3, H4 a = some (LI ns3)) → H4 L = some (LI ws) → ws.length = m → Small ws → casesM ws > 400 →
          ∀ mx : Int, mx ∈ ws → (∀ y, y ∈ ws → y ≤ mx) → ∃ j : Nat, ws[j]? = some mx ∧ (∀ (m' : Nat) (z' : V), m' < j → (ws.map V.int)[m']? = some z' → eqV z' (.int mx) = false) ∧ j < ws.length ∧ (ws.set j (mx - 1)).length = m ∧ Small (ws.set j (mx - 1)) ∧ (ws.set j (mx - 1)).sum < ws.sum := by
        intro L H4 ws nL naL s4 h3 h4 hl sm hc mx hmx hle
        obtain ⟨j, h1, h2⟩ := first_at hmx
        have pos : 1 ≤ mx := by
          rcases Int.lt_or_le mx 1 with z | z
          · have e : casesM ws = 1 := casesM_zero ws 1 fun w hw => by
              have a1 := hle w hw
              have a2 := sm w hw
              omega
            omega
          · exact z
        have b := sm mx hmx
        refine ⟨j, h1, fun m' z' hm hz => ?_, (List.getElem?_eq_some_iff.mp h1).1, by rw [List.length_set]; exact hl, fun w hw => ?_, ?_⟩
        · obtain ⟨y, hy, rfl⟩ := of_get_ints hz
          have := h2 m' y hm hy
          show (y == mx) = false
          exact beq_eq_false_iff_ne.mpr this
        · rcases List.mem_or_eq_of_mem_set hw with z | z
          · exact sm w z
          · omega
        · rw [sum_set h1]
          omega
      -- number // 4096 % 4 == 0
      refine ⟨_, rfl, _, _, rfl, rfl, ⟨by decide, by decide⟩, _, _, rfl, rfl, (by show (0 : Int) < _; decide), rfl, _, rfl, ite2 (fun _ => ?_) (fun _ => ?_)⟩
      · refine ⟨_, rfl, _, rfl, by omega, by omega, fun L nL => lc_range (lo := 0) (n := (m : Int).toNat) (fun i H' => SameBut a H H' ∧ (∃ ns3, H' a = some (LI ns3)) ∧ ∃ ws, H' L = some (LI ws) ∧ ws.length = i ∧ Small ws) ?_ (fun i H' hi hp => ?_) (fun H3 hp => ?_)⟩
        · have naL : a ≠ L := ne_of_none h2 nL
          refine ⟨s2.new (s2.free nL (by rw [h2]; exact fun z => nomatch z)), ⟨ns1, ?_⟩, [], upd_same, rfl, fun w hw => nomatch hw⟩
          rw [upd_ne naL]
          exact h2
        · have naL : a ≠ L := ne_of_none h2 nL
          have nLH : H L = none := s2.free nL (by rw [h2]; exact fun z => nomatch z)
          obtain ⟨s3, ⟨ns3, h3⟩, ws, hL, hl, sm⟩ := hp
          refine ⟨rfl, .ref a, rfl, a, ns3, rfl, h3, fun H5 s5 h5 => ⟨_, _, rfl, rfl, (by show (0 : Int) < _; decide), _, s5 L _ naL.symm hL, szL' (by rw [List.length_map]; omega), ?_⟩⟩
          refine ⟨(s3.trans s5).new nLH, ⟨_, by rw [upd_ne naL]; exact h5⟩, _, at_app, by rw [List.length_append, hl]; rfl, sm.app (by omega) (by omega)⟩
        · have naL : a ≠ L := ne_of_none h2 nL
          have nLH : H L = none := s2.free nL (by rw [h2]; exact fun z => nomatch z)
          obtain ⟨s3, h3, ws3, hL, hl3, sm3⟩ := hp
          obtain ⟨W, w0, hW⟩ := fin L _ H3 rfl nLH naL s3 h3 ⟨ws3, hL, hl3, sm3⟩
          refine ⟨W, w0, fun μ σ H4 w4 => ?_⟩
          obtain ⟨ws4, _, rfl, s4, ⟨ns4, h4⟩, hL4, hl4, sm4, eμ, step⟩ := hW μ σ H4 w4
          refine ⟨.ref L, rfl, L, ws4, rfl, SqL.of hL4, sm4.big, _, _, rfl, rfl, _, rfl, ite2 (fun c => ?_) (fun c => ?_)⟩
          · have c2 : casesM ws4 > 400 := of_decide_eq_true c
            refine ⟨fun σ' H' => σ' = [some (.ref a), some (.int m), some (.int n0), some (.ref L), none] ∧ ∃ ws' : List Int, ws'.length = m ∧ Small ws' ∧ ws'.sum < ws4.sum ∧ H' = upd H4 L (LI ws'), fun σ' H' hN => ?_, ?_⟩
            · obtain ⟨rfl, ws', l1, l2, l3, rfl⟩ := hN
              exact step ws' l1 l2 l3
            · refine ⟨_, rfl, L, ws4, rfl, SqL.of hL4, by omega, fun mx hmx hle => ⟨_, _, rfl, rfl, _, rfl, _, rfl, .inl ⟨rfl, _, SqL.of hL4⟩, _, rfl, L, ws4, rfl, SqL.of hL4, by omega, fun mx2 hmx2 hle2 => ?_⟩⟩
              have emx : mx2 = mx := Int.le_antisymm (hle mx2 hmx2) (hle2 mx hmx)
              subst emx
              obtain ⟨j, b1, b2, b3, b4, b5, b6⟩ := body L H4 ws4 nLH naL s4 ⟨ns4, h4⟩ hL4 hl4 sm4 c2 mx2 hmx hle
              refine ⟨L, _, _, j, _, rfl, rfl, SqL.of hL4, rfl, by simp [flatV], get_ints b1, by show (mx2 == mx2) = true; exact beq_self_eq_true _, b2, L, _, _, j, rfl, rfl, hL4, by rw [List.length_map]; exact ixN_nat b3, rfl, _, b4, b5, b6, ?_⟩
              rw [← li_set]
          · exact ⟨_, rfl, q H4 L ws4 ns4 s4 nLH naL.symm hL4 h4 hl4 sm4 (Int.not_lt.mp fun z => c (decide_eq_true z))⟩
      · obtain ⟨W, w0, hW⟩ := fin B _ H2 rfl nBH nBa s2 ⟨ns1, h2⟩ ⟨ws, hB, hl, sm⟩
        refine ⟨W, w0, fun μ σ H4 w4 => ?_⟩
        obtain ⟨ws4, _, rfl, s4, ⟨ns4, h4⟩, hL4, hl4, sm4, eμ, step⟩ := hW μ σ H4 w4
        refine ⟨.ref B, rfl, B, ws4, rfl, SqL.of hL4, sm4.big, _, _, rfl, rfl, _, rfl, ite2 (fun c => ?_) (fun c => ?_)⟩
        · have c2 : casesM ws4 > 400 := of_decide_eq_true c
          refine ⟨fun σ' H' => σ' = [some (.ref a), some (.int m), some (.int n0), some (.ref B), none] ∧ ∃ ws' : List Int, ws'.length = m ∧ Small ws' ∧ ws'.sum < ws4.sum ∧ H' = upd H4 B (LI ws'), fun σ' H' hN => ?_, ?_⟩
          · obtain ⟨rfl, ws', l1, l2, l3, rfl⟩ := hN
            exact step ws' l1 l2 l3
          · refine ⟨_, rfl, B, ws4, rfl, SqL.of hL4, by omega, fun mx hmx hle => ⟨_, _, rfl, rfl, _, rfl, _, rfl, .inl ⟨rfl, _, SqL.of hL4⟩, _, rfl, B, ws4, rfl, SqL.of hL4, by omega, fun mx2 hmx2 hle2 => ?_⟩⟩
            have emx : mx2 = mx := Int.le_antisymm (hle mx2 hmx2) (hle2 mx hmx)
            subst emx
            obtain ⟨j, b1, b2, b3, b4, b5, b6⟩ := body B H4 ws4 nBH nBa s4 ⟨ns4, h4⟩ hL4 hl4 sm4 c2 mx2 hmx hle
            refine ⟨B, _, _, j, _, rfl, rfl, SqL.of hL4, rfl, by simp [flatV], get_ints b1, by show (mx2 == mx2) = true; exact beq_self_eq_true _, b2, B, _, _, j, rfl, rfl, hL4, by rw [List.length_map]; exact ixN_nat b3, rfl, _, b4, b5, b6, ?_⟩
            rw [← li_set]
        · exact ⟨_, rfl, q H4 B ws4 ns4 s4 nBH nBa.symm hL4 h4 hl4 sm4 (Int.not_lt.mp fun z => c (decide_eq_true z))⟩
end
/-! ### _law_whole, _law_numbers -/
abbrev s_law_whole : Stmt := topS 18
abbrev N_law_whole : List Str := ["_law_found"]
theorem sc_law_whole : FnScope N_law_whole ["_law_found"] (defScope s_law_whole) := ⟨rfl, rfl, rfl, by decide +kernel, rfl, by decide +kernel, by decide +kernel⟩

abbrev s_law_numbers : Stmt := topS 19
abbrev N_law_numbers : List Str := ["_law_found", "_law_due_here", "_law_one"]
theorem sc_law_numbers : FnScope N_law_numbers ["_law_found", "_law_due_here"] (defScope s_law_numbers) := ⟨rfl, rfl, rfl, by decide +kernel, rfl, by decide +kernel, by decide +kernel⟩

def sp_whole : Sp := fun vs H Q _ => ∃ i : Int, vs = [.int i] ∧ Q (.bl true) H
def sp_numbers (K : PySem.W.Frag) : Sp := fun vs H Q _ => ∃ (a b : Addr) (ns : List Int), vs = [.ref a, .ref b] ∧ H a = some (LI ns) ∧ SqL K H b (ns.map V.int) ∧ ∀ H', Same H H' → Q (.bl true) H'
section
variable {P : Program} {w : World} {K : PySem.W.Frag} {mg : Str → Option Value} {base : Heap}
theorem ok_whole {f : Addr} {fd : FuncData} {k : Nat} (M : Names mg) (D : Def K mg "_law_whole" s_law_whole ["_law_found"] f fd) : FnOk P w K mg base CX0 (k + 1) f fd ["_law_found"] sp_whole := by
  refine D.F.ok sc_law_whole (fun vs H Q E h => ?_) (fun cdv A outer s H vs Q E hr h => ?_)
  · obtain ⟨i, rfl, _⟩ := h
    rfl
  · obtain ⟨i, rfl, q⟩ := h
    refine ⟨_, (pss_one (ps_ret (pe_and (pe_callB call_isi (by rfl) M.isinstance (by decide +kernel) (pa_cons (pv 0) (pa_cons (pe_bltn (v := .ty "int") (by rfl) M.int (by decide +kernel) rfl) pa_nil))) (pe_one (pe_not (pe_callB call_isi (by rfl) M.isinstance (by decide +kernel) (pa_cons (pv 0) (pa_cons (pe_bltn (v := .ty "bool") (by rfl) M.bool (by decide +kernel) rfl) pa_nil)))))))), ?_⟩
    refine ⟨_, rfl, _, _, _, _, true, rfl, .ty "int", .base (.int _), kit_ty (by decide +kernel), true, rfl, ?_⟩
    refine ⟨_, rfl, _, _, _, _, false, rfl, .ty "bool", .base (.int _), kit_ty (by decide +kernel), false, rfl, ?_⟩
    exact q
theorem ok_numbers {f fw : Addr} {fd fdw : FuncData} {k : Nat} (M : Names mg) (D : Def K mg "_law_numbers" s_law_numbers ["_law_found", "_law_due_here"] f fd) (D_law_whole : Def K mg "_law_whole" s_law_whole ["_law_found"] fw fdw) :
    FnOk P w K mg base CX0 (k + 2) f fd ["_law_found", "_law_due_here"] (sp_numbers K) := by
  have G_law_whole : FnOk P w K mg base CX0 (k + 1) fw fdw ["_law_found"] sp_whole := ok_whole M D_law_whole
  refine D.F.ok sc_law_numbers (fun vs H Q E h => ?_) (fun cdv A outer s H vs Q E hr h => ?_)
  · obtain ⟨a, b, ns, rfl, _⟩ := h
    rfl
  · obtain ⟨a, b, ns, rfl, ha, hb, q⟩ := h
    refine ⟨_, (pss_cons (ps_if (PW.pt (pw_or (pt_not (pt_val (pe_callB call_isi (by rfl) M.isinstance (by decide +kernel) (pa_cons (pv 0) (pa_cons (pe_bltn (v := .ty "list") (by rfl) M.list (by decide +kernel) rfl) pa_nil))))) (pw_or1 (pt_cmpR op_gt (pe_callB call_len_seq (by rfl) M.len (by decide +kernel) (pa_cons (pe_lc (own := [("_law_one", 2)]) (by rfl) sc_law_numbers.nd (pi_list (pv 0)) (blkOk_by (own := [("_law_one", 2)]) (N := N_law_numbers) (sc := defScope s_law_numbers) (by decide +kernel)) (fun _ _ _ _ _ => (pg_name (i := 2) sc_law_numbers.nd rfl (Or.inl rfl))) (fun _ _ _ _ _ => (pts_one (pt_not (pt_val (pe_call G_law_whole hr (by rfl) D_law_whole.g D_law_whole.F.kp D_law_whole.b .nil pass0 (pa_cons (pv 2) pa_nil)))))) (fun _ _ _ _ _ => (pv 2))) pa_nil)) pe_int (nomark _)))))
   (pss_one (ps_ret pe_bl))
   pss_nil)
  (pss_one (ps_ret (pe_cmpR (op_eqD hr.units) (pv 0) (pv 1) (nomark _))))), ?_⟩
    refine ⟨_, rfl, _, _, _, _, true, rfl, .ty "list", .base (.lst ha), kit_ty (by decide +kernel), true, rfl, ?_⟩
    refine ⟨_, rfl, a, rfl, ⟨_, SqL.of ha⟩, fun B nB => lc_list (xs := ns.map V.int) (fun i H' => Same H H' ∧ H' B = some (.lst [])) ⟨same_upd nB, upd_same⟩ (fun i H' _ hp => SqL.of (hp.1 _ _ ha)) (fun i x H' hx hp => ?_) (fun H1 hp => ?_)⟩
    · obtain ⟨n, hn, rfl⟩ := of_get_ints hx
      exact ⟨rfl, _, rfl, n, rfl, true, rfl, hp⟩
    · obtain ⟨s1, h1⟩ := hp
      refine ⟨B, _, rfl, .inl (SqL.of h1), _, _, rfl, rfl, _, rfl, ?_⟩
      refine ⟨_, rfl, _, rfl, _, _, dp_ints (SqL.of (s1 _ _ ha)), dp_ints (s1.seq hb), shaped_ints _, shaped_ints _, ?_⟩
      rw [eqv_ints, decide_eq_true rfl]
      exact q _ s1
end
/-! ### tables through calls -/
theorem tabG_same {H H' : Hp} {T : Addr} (s : Same H H') (h : GxR.TabG H T) : GxR.TabG H' T := by
  obtain ⟨ps, h1, h2⟩ := h
  exact ⟨ps, s _ _ h1, h2⟩
theorem tabG_but {H H' : Hp} {T d : Addr} {xs : List V} (s : SameBut d H H') (hd : H d = some (.lst xs)) (h : GxR.TabG H T) : GxR.TabG H' T := by
  obtain ⟨ps, h1, h2⟩ := h
  exact ⟨ps, s _ _ (ne_of h1 hd (fun z => nomatch z)) h1, h2⟩
theorem tabbed_lst {H H' : Hp} {T a : Addr} {xs : List V} (t : GxR.Tabbed T H H') (hT : GxR.TabG H T) (h : H a = some (.lst xs)) : H' a = some (.lst xs) := by
  obtain ⟨ps, h1, h2⟩ := hT
  rw [t.2 a (ne_of h h1 (fun z => nomatch z))]
  exact h
theorem draw4 (x : Int) : ∃ m : Nat, 1 ≤ m ∧ m ≤ 4 ∧ 1 + x % 4 = (m : Int) := ⟨(1 + x % 4).toNat, by omega, by omega, by omega⟩
/-! ### a heap without one address; what is kept apart from tables -/
def cutH (d : Addr) (H : Hp) : Hp := fun b => if b = d then none else H b
section
variable {d : Addr} {H H' : Hp}
theorem cut_at {b : Addr} (h : b ≠ d) : cutH d H b = H b := if_neg h
theorem cut_put {b : Addr} {o : HO} (h : b ≠ d) (e : H b = some o) : cutH d H b = some o := by rw [cut_at h]; exact e
theorem cut_some {b : Addr} {o : HO} (h : cutH d H b = some o) : b ≠ d ∧ H b = some o := by
  unfold cutH at h
  by_cases e : b = d
  · rw [if_pos e] at h
    cases h
  · rw [if_neg e] at h
    exact ⟨e, h⟩
theorem cut_same (s : SameBut d H H') : Same (cutH d H) (cutH d H') := fun b o h => by
  obtain ⟨n, e⟩ := cut_some h
  exact cut_put n (s b o n e)
theorem cut_le : Same (cutH d H) H := fun _ _ h => (cut_some h).2
theorem cut_upd {u : Addr} {o : HO} (h : u ≠ d) : cutH d (upd H u o) = upd (cutH d H) u o := by
  funext b
  by_cases e : b = d
  · rw [e, upd_ne (fun z => h z.symm)]
    unfold cutH
    rw [if_pos rfl, if_pos rfl]
  · rw [cut_at e]
    by_cases e2 : b = u
    · rw [e2, upd_same, upd_same]
    · rw [upd_ne e2, upd_ne e2, cut_at e]
/-- all but tables stay -/
def Ke (H H' : Hp) : Prop := ∀ b o, H b = some o → (∀ ps, o ≠ .tbl ps) → H' b = some o
theorem Ke.refl (H : Hp) : Ke H H := fun _ _ e _ => e
theorem Ke.trans {H1 H2 : Hp} (a : Ke H H1) (b : Ke H1 H2) : Ke H H2 := fun c o e n => b c o (a c o e n) n
theorem Ke.of (s : Same H H') : Ke H H' := fun b o e _ => s b o e
theorem Ke.cut (a : Ke H H') : Ke (cutH d H) (cutH d H') := fun b o e n => by
  obtain ⟨n1, e1⟩ := cut_some e
  exact cut_put n1 (a b o e1 n)
theorem Ke.lst (a : Ke H H') {p : Addr} {xs : List V} (h : H p = some (.lst xs)) : H' p = some (.lst xs) := a _ _ h fun _ z => nomatch z
theorem Ke.tup (a : Ke H H') {p : Addr} {xs : List V} (h : H p = some (.tup xs)) : H' p = some (.tup xs) := a _ _ h fun _ z => nomatch z
theorem Ext.ke {T : List Addr} (e : Ext T H H') : Ke H H' := e.ext
theorem tb_same {T : List Addr} (s : Same H H') (h : Tb T H) : Tb T H' := fun t ht => tabG_same s (h t ht)
theorem tb_but {T : List Addr} {xs : List V} (s : SameBut d H H') (hd : H d = some (.lst xs)) (h : Tb T H) : Tb T H' := fun t ht => tabG_but s hd (h t ht)
theorem TiersAt.ke (e : Ke H H') {a : Addr} {ts : List (Int × Int)} (h : TiersAt H a ts) : TiersAt H' a ts := by
  obtain ⟨us, h1, h2, h3⟩ := h
  exact ⟨us, e.lst h1, h2, fun i u t a b => e.tup (h3 i u t a b)⟩
theorem OfrAt.ke (e : Ke H H') {a : Addr} : ∀ {o : Ofr}, OfrAt H a o → OfrAt H' a o
  | .pack c p, ⟨b, h1, h2⟩ => ⟨b, e.tup h1, e.lst h2⟩
  | .many c ts, ⟨b, t, h1, h2, h3⟩ => ⟨b, t, e.tup h1, e.lst h2, h3.ke e⟩
  | .add c p k, ⟨b, h1, h2⟩ => ⟨b, e.tup h1, e.lst h2⟩
theorem ShopAt.ke (e : Ke H H') {a : Addr} {os : List Ofr} (h : ShopAt H a os) : ShopAt H' a os := by
  obtain ⟨vs, h1, h2, h3⟩ := h
  exact ⟨vs, e.lst h1, h2, fun i v o a b => (h3 i v o a b).ke e⟩
theorem TiersAt.same (s : Same H H') {a : Addr} {ts : List (Int × Int)} (h : TiersAt H a ts) : TiersAt H' a ts := h.ke (.of s)
/-- a tier more -/
theorem TiersAt.push {F u : Addr} {ts : List (Int × Int)} {t : Int × Int} (h : TiersAt H F ts) (nu : H u = none) : ∃ xs, H F = some (.lst xs) ∧ xs.length = ts.length ∧ TiersAt (upd (upd H u (.tup [.int t.1, .int t.2])) F (.lst (xs ++ [.ref u]))) F (ts ++ [t]) := by
  obtain ⟨us, h1, h2, h3⟩ := h
  refine ⟨_, h1, by rw [List.length_map]; exact h2, us ++ [u], ?_, by rw [List.length_append, List.length_append, h2]; rfl, fun i v t' hv ht => ?_⟩
  · rw [upd_same, List.map_append]
    rfl
  · by_cases z : i < us.length
    · rw [List.getElem?_append_left z] at hv
      rw [List.getElem?_append_left (by omega)] at ht
      have e := h3 i v t' hv ht
      rw [upd_ne (ne_of e h1 (fun z => nomatch z)), upd_ne (ne_of_none e nu)]
      exact e
    · rw [List.getElem?_append_right (by omega)] at hv
      rw [List.getElem?_append_right (by omega)] at ht
      rw [← h2] at ht
      have ei : i - us.length = 0 := by
        rcases Nat.eq_zero_or_pos (i - us.length) with z | z
        · exact z
        · rw [List.getElem?_eq_none (by rw [List.length_singleton]; omega)] at hv
          cases hv
      rw [ei] at hv ht
      cases Option.some.inj hv
      cases Option.some.inj ht
      rw [upd_ne (fun z => by rw [z, h1] at nu; cases nu), upd_same]
end
/-! ### _law_content, _law_price, _law_tiers -/
abbrev s_law_content : Stmt := topS 22
abbrev N_law_content : List Str := ["_law_draws_here", "_law_many", "_law_found"]
theorem sc_law_content : FnScope N_law_content ["_law_draws_here", "_law_many"] (defScope s_law_content) := ⟨rfl, rfl, rfl, by decide +kernel, rfl, by decide +kernel, by decide +kernel⟩

abbrev s_law_price : Stmt := topS 23
abbrev N_law_price : List Str := ["_law_draws_here", "_law_number"]
theorem sc_law_price : FnScope N_law_price ["_law_draws_here"] (defScope s_law_price) := ⟨rfl, rfl, rfl, by decide +kernel, rfl, by decide +kernel, by decide +kernel⟩

def sp_content : Sp := fun vs H Q _ => ∃ (a : Addr) (ns : List Int) (m : Nat), vs = [.ref a, .int m] ∧ H a = some (LI ns) ∧ 1 ≤ m ∧ m ≤ 4 ∧
  ∀ H' p ws ns', SameBut a H H' → H p = none → p ≠ a → H' p = some (LI ws) → H' a = some (LI ns') → ws.length = m → Small ws → Q (.ref p) H'
def sp_price : Sp := fun vs H Q _ => ∃ (a : Addr) (ns : List Int), vs = [.ref a] ∧ H a = some (LI ns) ∧ ∀ H' ns' p, SameBut a H H' → H' a = some (LI ns') → 0 ≤ p → p < 1000000000000 → Q (.int p) H'
section
variable {P : Program} {w : World} {K : PySem.W.Frag} {mg : Str → Option Value} {base : Heap}
theorem ok_content {f f1 f2 f3 : Addr} {fd fd1 fd2 fd3 : FuncData} {k : Nat} (M : Names mg) (D : Def K mg "_law_content" s_law_content ["_law_draws_here", "_law_many"] f fd) (D_law_want : Def K mg "_law_want" s_law_want ["_law_draws_here", "_law_many"] f1 fd1) (D_law_pop : Def K mg "_law_pop" s_law_pop ["_law_draws_here"] f2 fd2) (D_law_cases : Def K mg "_law_cases" s_law_cases ["_law_want_here"] f3 fd3) :
    FnOk P w K mg base CX0 (k + 3) f fd ["_law_draws_here", "_law_many"] sp_content := by
  have G_law_want : FnOk P w K mg base CX0 (k + 2) f1 fd1 ["_law_draws_here", "_law_many"] sp_want := ok_want M D_law_want D_law_pop D_law_cases
  have G_law_pop : FnOk P w K mg base CX0 (k + 2) f2 fd2 ["_law_draws_here"] sp_pop := ok_pop D_law_pop
  refine D.F.ok sc_law_content (fun vs H Q E h => ?_) (fun cdv A outer s H vs Q E hr h => ?_)
  · obtain ⟨a, ns, m, rfl, _⟩ := h
    rfl
  · obtain ⟨a, ns, m, rfl, ha, hm1, hm4, q⟩ := h
    refine ⟨_, (pss_cons (ps_set (i := 2) sc_law_content.nd rfl (Or.inl rfl) (pe_call G_law_want hr (by rfl) D_law_want.g D_law_want.F.kp D_law_want.b .nil pass0 (pa_cons (pv 0) (pa_cons (pv 1) pa_nil))))
  (pss_cons (ps_if (pt_cmpR op_eq (pe_callB (cr_sum rfl) (by rfl) M.sum (by decide +kernel) (pa_cons (pv 2) pa_nil)) pe_int (nomark _))
   (pss_one (ps_asg (pe_op op_add pe_int (pe_op op_mod (pe_call G_law_pop hr (by rfl) D_law_pop.g D_law_pop.F.kp D_law_pop.b .nil pass0 (pa_cons (pv 0) pa_nil)) pe_int)) (pg_sub (pv 2) (pe_op op_mod (pe_call G_law_pop hr (by rfl) D_law_pop.g D_law_pop.F.kp D_law_pop.b .nil pass0 (pa_cons (pv 0) pa_nil)) (pv 1)) set_list)))
   pss_nil)
  (pss_one (ps_ret (pv 2))))), ?_⟩
    refine ⟨_, rfl, _, rfl, a, ns, m, rfl, ha, hm1, hm4, fun H1 p ws ns1 s1 np npa hp ha1 hl sm _ => ?_⟩
    refine ⟨_, rfl, p, ws, rfl, SqL.of hp, rfl, _, rfl, ite2 (fun _ => ?_) (fun _ => ?_)⟩
    · refine ⟨_, rfl, a, ns1, rfl, ha1, fun H2 s2 ha2 => ⟨_, _, rfl, rfl, (by show (0 : Int) < _; decide), _, _, rfl, rfl, ?_⟩⟩
      refine ⟨_, rfl, _, rfl, a, _, rfl, ha2, fun H3 s3 ha3 => ?_⟩
      have hp3 := s3 _ _ npa (s2 _ _ npa hp)
      obtain ⟨j, hj, ej⟩ := mod_at (i := ns1.tail.headD 0) (n := m) (by omega)
      refine ⟨_, rfl, _, _, rfl, rfl, (by show (0 : Int) < (m : Int); omega), p, _, _, j, rfl, rfl, hp3, (by rw [ej, List.length_map]; exact ixN_nat (by omega)), _, rfl, ?_⟩
      refine q _ p (ws.set j (1 + ns1.headD 0 % 9)) ns1.tail.tail (((s1.trans s2).trans s3).new np) np npa ?_ ?_ (by rw [List.length_set]; exact hl) (fun x hx => ?_)
      · exact at_set
      · rw [upd_ne npa.symm]
        exact ha3
      · rcases List.mem_or_eq_of_mem_set hx with z | z
        · exact sm x z
        · rw [z]
          omega
    · exact ⟨_, rfl, q H1 p ws ns1 s1 np npa hp ha1 hl sm⟩
theorem menu4 {a b c e : Int} {j : Nat} (h : j < 4) (h1 : 0 ≤ a ∧ a < 1000000000000) (h2 : 0 ≤ b ∧ b < 1000000000000) (h3 : 0 ≤ c ∧ c < 1000000000000) (h4 : 0 ≤ e ∧ e < 1000000000000) : ∃ v : Int, ([V.int a, V.int b, V.int c, V.int e] : List V)[j]? = some (.int v) ∧ 0 ≤ v ∧ v < 1000000000000 :=
  match j, h with
  | 0, _ => ⟨a, rfl, h1⟩
  | 1, _ => ⟨b, rfl, h2⟩
  | 2, _ => ⟨c, rfl, h3⟩
  | 3, _ => ⟨e, rfl, h4⟩
theorem ok_price {f f1 : Addr} {fd fd1 : FuncData} {k : Nat} (D : Def K mg "_law_price" s_law_price ["_law_draws_here"] f fd) (D_law_pop : Def K mg "_law_pop" s_law_pop ["_law_draws_here"] f1 fd1) :
    FnOk P w K mg base CX0 (k + 2) f fd ["_law_draws_here"] sp_price := by
  have G_law_pop : FnOk P w K mg base CX0 (k + 1) f1 fd1 ["_law_draws_here"] sp_pop := ok_pop D_law_pop
  refine D.F.ok sc_law_price (fun vs H Q E h => ?_) (fun cdv A outer s H vs Q E hr h => ?_)
  · obtain ⟨a, ns, rfl, _⟩ := h
    rfl
  · obtain ⟨a, ns, rfl, ha, q⟩ := h
    refine ⟨_, (pss_cons (ps_set (i := 1) sc_law_price.nd rfl (Or.inl rfl) (pe_call G_law_pop hr (by rfl) D_law_pop.g D_law_pop.F.kp D_law_pop.b .nil pass0 (pa_cons (pv 0) pa_nil)))
  (pss_one (ps_ret (pe_ix ix_list (pe_lst (pa_cons (pe_op op_mod (pe_op op_fdiv (pv 1) pe_int) pe_int) (pa_cons (pe_op op_mod (pe_op op_fdiv (pv 1) pe_int) pe_int) (pa_cons pe_int (pa_cons (pe_op op_mod (pe_op op_mul (pv 1) pe_int) (pe_op op_pow pe_int pe_int)) pa_nil))))) (pe_op op_mod (pv 1) pe_int) (fun _ _ => rfl))))), ?_⟩
    refine ⟨_, rfl, a, ns, rfl, ha, fun H1 s1 ha1 => ?_⟩
    generalize ns.headD 0 = n
    refine ⟨_, rfl, _, _, rfl, rfl, ⟨by decide, by decide⟩, _, _, rfl, rfl, (by show (0 : Int) < _; decide), ?_⟩
    refine ⟨_, rfl, _, _, rfl, rfl, ⟨by decide, by decide⟩, _, _, rfl, rfl, (by show (0 : Int) < _; decide), ?_⟩
    refine ⟨_, rfl, _, _, rfl, rfl, .inr ⟨by decide, by decide⟩, _, _, rfl, rfl, ⟨by decide, by decide, by decide⟩, _, _, rfl, rfl, (by show (0 : Int) < _; decide), by show 4 ≤ sizeLine; decide, fun e ne => ?_⟩
    obtain ⟨j, hj, ej⟩ := mod_at (i := n) (n := 4) (by decide)
    have e12 : (10 : Int) ^ (12 : Int).toNat = 1000000000000 := by decide
    obtain ⟨v, hv, hv0, hv1⟩ := menu4 (a := n / 4 % 30) (b := n / 4 % 1000) (c := 0) (e := n * 7919 % 10 ^ (12 : Int).toNat) hj (by omega) (by omega) (by omega) (by rw [e12]; omega)
    refine ⟨_, rfl, _, _, rfl, rfl, (by show (0 : Int) < _; decide), e, _, _, _, rfl, rfl, SqL.of upd_same, at_of ej hv, ?_⟩
    exact q _ _ v (s1.trans (.of (same_upd ne))) (by rw [upd_ne (ne_of_none ha1 ne)]; exact ha1) hv0 hv1
end
/-! ### offers within bounds -/
def PriceT (ts : List (Int × Int)) : Prop := ∀ t ∈ ts, 0 ≤ t.2 ∧ t.2 < 1000000000000
theorem cut_off {d : Addr} {H : Hp} {o : HO} : cutH d (upd H d o) = cutH d H := by
  funext b
  by_cases e : b = d
  · unfold cutH
    rw [if_pos e, if_pos e]
  · rw [cut_at e, cut_at e, upd_ne e]
theorem cut_mono {d : Addr} {H H' : Hp} (s : Same H H') : Same (cutH d H) (cutH d H') := cut_same (.of s)
theorem TiersAt.cut {H : Hp} {S t : Addr} {ts : List (Int × Int)} {xs : List V} (h : TiersAt H t ts) (n : t ≠ S) (hS : H S = some (.lst xs)) : TiersAt (cutH S H) t ts := by
  obtain ⟨us, h1, h2, h3⟩ := h
  refine ⟨us, cut_put n h1, h2, fun i u t a b => ?_⟩
  have e := h3 i u t a b
  exact cut_put (ne_of e hS (fun z => nomatch z)) e
def FitO (m : Nat) : Ofr → Prop
  | .pack c p => c.length = m ∧ Small c ∧ 0 ≤ p ∧ p < 1000000000000
  | .many c ts => c.length = m ∧ Small c ∧ PriceT ts
  | .add c p _ => c.length = m ∧ Small c ∧ 0 ≤ p ∧ p < 1000000000000
def FitS (m : Nat) (os : List Ofr) : Prop := ∀ o ∈ os, FitO m o
theorem FitO.cont {m : Nat} : ∀ {o : Ofr}, FitO m o → o.cont.length = m ∧ Small o.cont
  | .pack _ _, h => ⟨h.1, h.2.1⟩
  | .many _ _, h => ⟨h.1, h.2.1⟩
  | .add _ _ _, h => ⟨h.1, h.2.1⟩
theorem FitS.fit {m : Nat} {os : List Ofr} (hm : m ≤ 4) (h : FitS m os) : Fit os := fun o ho => by
  refine ⟨?_, fun c p k e => ?_⟩
  · have := (h o ho).cont.1
    omega
  · subst e
    have := h _ ho
    exact ⟨by have := this.2.2.1; omega, by have := this.2.2.2; omega⟩
theorem FitS.push {m : Nat} {os : List Ofr} {o : Ofr} (h : FitS m os) (ho : FitO m o) : FitS m (os ++ [o]) := fun x hx => by
  rcases List.mem_append.mp hx with z | z
  · exact h x z
  · rw [List.mem_singleton.mp z]
    exact ho
theorem GoodO.mono {os : List Ofr} {i : Nat} {x : Ofr} : ∀ {o : Ofr}, GoodO os i o → GoodO (os ++ [x]) i o
  | .pack _ _, _ => True.intro
  | .many _ _, h => h
  | .add _ _ _, ⟨j, e, hj, c, p, h⟩ => ⟨j, e, hj, c, p, by rw [List.getElem?_append_left (List.getElem?_eq_some_iff.mp h).1]; exact h⟩
theorem Good.push {os : List Ofr} {o : Ofr} (h : Good os) (h8 : os.length < 8) (ho : GoodO os os.length o) : Good (os ++ [o]) := by
  refine ⟨by rw [List.length_append, List.length_singleton]; omega, fun i x hx => ?_⟩
  by_cases z : i < os.length
  · rw [List.getElem?_append_left z] at hx
    exact (h.2 i x hx).mono
  · have hi := (List.getElem?_eq_some_iff.mp hx).1
    rw [List.length_append, List.length_singleton] at hi
    have ei : i = os.length := by omega
    rw [List.getElem?_append_right (by omega), ei, Nat.sub_self] at hx
    cases Option.some.inj hx
    rw [ei]
    exact ho.mono
/-! ### _law_tiers -/
abbrev s_law_tiers : Stmt := topS 24
abbrev N_law_tiers : List Str := ["_law_draws_here", "_law_found", "_law_at", "_law_k", "_law_number"]
theorem sc_law_tiers : FnScope N_law_tiers ["_law_draws_here"] (defScope s_law_tiers) := ⟨rfl, rfl, rfl, by decide +kernel, rfl, by decide +kernel, by decide +kernel⟩

def sp_tiers : Sp := fun vs H Q _ => ∃ (a : Addr) (ns : List Int), vs = [.ref a] ∧ H a = some (LI ns) ∧
  ∀ H' p ts ns', SameBut a H H' → H p = none → TiersAt (cutH a H') p ts → GoodT ts → PriceT ts → H' a = some (LI ns') → Q (.ref p) H'
structure RiseT (ts : List (Int × Int)) (z : Int) (i : Nat) : Prop where
  few : ts.length ≤ i
  none : ts = [] → z = 1 ∧ i = 0
  one : ∀ t, ts[0]? = some t → t.1 = 1
  most : ∀ t ∈ ts, t.1 ≤ 12 ∧ t.1 < z
  rise : ∀ (i : Nat) a b, ts[i]? = some a → ts[i + 1]? = some b → a.1 < b.1
  pr : PriceT ts
theorem RiseT.push {ts : List (Int × Int)} {z z' p : Int} {i : Nat} (h : RiseT ts z i) (hz : z < 13) (hz' : z < z') (h0 : 0 ≤ p) (h1 : p < 1000000000000) : RiseT (ts ++ [(z, p)]) z' (i + 1) := by
  refine ⟨?_, fun e => ?_, fun t e => ?_, fun t ht => ?_, fun j a b ha hb => ?_, fun t ht => ?_⟩
  · have := h.few
    rw [List.length_append, List.length_singleton]
    omega
  · simp at e
  · cases hts : ts with
    | nil =>
      rw [hts] at e
      cases Option.some.inj e
      exact (h.none hts).1
    | cons x r =>
      rw [hts] at e
      exact h.one t (by rw [hts]; exact e)
  · rcases List.mem_append.mp ht with m | m
    · have := h.most t m
      exact ⟨this.1, by omega⟩
    · rw [List.mem_singleton.mp m]
      exact ⟨by show z ≤ 12; omega, hz'⟩
  · by_cases c : j + 1 < ts.length
    · rw [List.getElem?_append_left (by omega)] at ha
      rw [List.getElem?_append_left c] at hb
      exact h.rise j a b ha hb
    · have hj : j + 1 = ts.length := by
        have := (List.getElem?_eq_some_iff.mp hb).1
        rw [List.length_append, List.length_singleton] at this
        omega
      rw [List.getElem?_append_left (by omega)] at ha
      rw [List.getElem?_append_right (by omega), hj, Nat.sub_self] at hb
      cases Option.some.inj hb
      exact (h.most a (List.mem_of_getElem? ha)).2
  · rcases List.mem_append.mp ht with m | m
    · exact h.pr t m
    · rw [List.mem_singleton.mp m]
      exact ⟨h0, h1⟩
theorem RiseT.pass {ts : List (Int × Int)} {z z' : Int} {i : Nat} (h : RiseT ts z i) (hz : ¬z < 13) (hz' : z < z') : RiseT ts z' (i + 1) := by
  refine ⟨by have := h.few; omega, fun e => ?_, h.one, fun t ht => ?_, h.rise, h.pr⟩
  · have := h.none e
    omega
  · have := h.most t ht
    exact ⟨this.1, by omega⟩
theorem RiseT.good {ts : List (Int × Int)} {z : Int} {i : Nat} (h : RiseT ts z i) (h1 : 1 ≤ i) (h4 : i ≤ 4) : GoodT ts := by
  refine ⟨?_, by have := h.few; omega, h.one, fun t ht => (h.most t ht).1, h.rise⟩
  rcases Nat.eq_zero_or_pos ts.length with z | z
  · have := (h.none (List.eq_nil_of_length_eq_zero z)).2
    omega
  · exact z
theorem menu3 {j : Nat} (h : j < 3) : ∃ v : Int, ([V.int 1, V.int 3, V.int 8] : List V)[j]? = some (.int v) ∧ 0 < v :=
  match j, h with
  | 0, _ => ⟨1, rfl, by decide⟩
  | 1, _ => ⟨3, rfl, by decide⟩
  | 2, _ => ⟨8, rfl, by decide⟩
section
variable {P : Program} {w : World} {K : PySem.W.Frag} {mg : Str → Option Value} {base : Heap}
theorem ok_tiers {f f1 f2 : Addr} {fd fd1 fd2 : FuncData} {k : Nat} (M : Names mg) (D : Def K mg "_law_tiers" s_law_tiers ["_law_draws_here"] f fd) (D_law_price : Def K mg "_law_price" s_law_price ["_law_draws_here"] f1 fd1) (D_law_pop : Def K mg "_law_pop" s_law_pop ["_law_draws_here"] f2 fd2) :
    FnOk P w K mg base CX0 (k + 3) f fd ["_law_draws_here"] sp_tiers := by
  have G_law_price : FnOk P w K mg base CX0 (k + 2) f1 fd1 ["_law_draws_here"] sp_price := ok_price D_law_price D_law_pop
  have G_law_pop : FnOk P w K mg base CX0 (k + 2) f2 fd2 ["_law_draws_here"] sp_pop := ok_pop D_law_pop
  refine D.F.ok sc_law_tiers (fun vs H Q E h => ?_) (fun cdv A outer s H vs Q E hr h => ?_)
  · obtain ⟨a, ns, rfl, _⟩ := h
    rfl
  · obtain ⟨a, ns, rfl, ha, q⟩ := h
    refine ⟨_, (pss_cons (ps_set (i := 1) sc_law_tiers.nd rfl (Or.inl rfl) (pe_lst pa_nil))
  (pss_cons (ps_set (i := 2) sc_law_tiers.nd rfl (Or.inl rfl) pe_int)
  (pss_cons (ps_for PassesOwn.never rfl (pi_range1 (by rfl) M.range (pa_cons (pe_op op_add pe_int (pe_op op_mod (pe_call G_law_pop hr (by rfl) D_law_pop.g D_law_pop.F.kp D_law_pop.b .nil pass0 (pa_cons (pv 0) pa_nil)) pe_int)) pa_nil)) (pg_name (i := 3) sc_law_tiers.nd rfl (Or.inl rfl))
   (pss_cons (ps_set (i := 4) sc_law_tiers.nd rfl (Or.inl rfl) (pe_call G_law_pop hr (by rfl) D_law_pop.g D_law_pop.F.kp D_law_pop.b .nil pass0 (pa_cons (pv 0) pa_nil)))
  (pss_cutI (ps_if (pt_cmpR op_lt (pv 2) pe_int (nomark _))
   (pss_one (ps_expr (pe_bm PySem.F.plainAttrs_list PySem.F.slot_list_append PySem.F.type_list_append mt_append (pv 1) (pa_cons (pe_tup (pa_cons (pv 2) (pa_cons (pe_call G_law_price hr (by rfl) D_law_price.g D_law_price.F.kp D_law_price.b .nil pass0 (pa_cons (pv 0) pa_nil)) pa_nil))) pa_nil))))
   pss_nil)
  (pss_one (ps_set (i := 2) sc_law_tiers.nd rfl (Or.inl rfl) (pe_op op_add (pe_op op_add (pv 2) pe_int) (pe_op op_mod (pv 4) (pe_ix ix_list (pe_lst (pa_cons pe_int (pa_cons pe_int (pa_cons pe_int pa_nil)))) (pe_op op_mod (pe_op op_fdiv (pv 4) pe_int) pe_int) (fun _ _ => rfl)))))))))
  (pss_one (ps_ret (pv 1)))))), ?_⟩
    refine ⟨Nat.zero_le _, fun F nF => ?_⟩
    have naF : F ≠ a := (ne_of_none ha nF).symm
    have ha0 : upd H F (.lst []) a = some (LI ns) := by rw [upd_ne naF.symm]; exact ha
    refine ⟨_, rfl, a, ns, rfl, ha0, fun H1 s1 ha1 => ?_⟩
    have s1' : SameBut a H H1 := (SameBut.of (same_upd nF)).trans s1
    have hF1 : H1 F = some (.lst []) := s1 _ _ naF upd_same
    obtain ⟨m, hm1, hm4, em⟩ := draw4 (ns.headD 0)
    refine ⟨_, _, rfl, rfl, (by show (0 : Int) < _; decide), _, _, rfl, rfl, _, rfl, by omega, by omega, for_range (n := (1 + ns.headD 0 % 4).toNat) (fun i σ H' => ∃ z y3 y4, σ = [some (.ref a), some (.ref F), some (.int z), y3, y4] ∧ SameBut a H H' ∧ (∃ ds, H' a = some (LI ds)) ∧ ∃ ts, TiersAt (cutH a H') F ts ∧ RiseT ts z i) ⟨1, none, none, rfl, s1', ⟨_, ha1⟩, [], ⟨[], cut_put naF hF1, rfl, fun i u t hu => by simp at hu⟩, ⟨Nat.le_refl _, fun _ => ⟨rfl, rfl⟩, fun t e => by simp at e, fun t ht => by simp at ht, fun i a b ha => by simp at ha, fun t ht => by simp at ht⟩⟩ (fun i σ H2 hi hp => ?_) (fun σ H2 hp => ?_)⟩
    · obtain ⟨z, y3, y4, rfl, s2, ⟨ds, ha2⟩, ts, hts, rs⟩ := hp
      refine ⟨_, rfl, a, ds, rfl, ha2, fun H3 s3 ha3 => ?_⟩
      have hts3 := hts.same (cut_same s3)
      generalize ds.headD 0 = n
      refine ⟨fun σ' H' => ∃ ts', σ' = [some (.ref a), some (.ref F), some (.int z), some (.int (0 + (i : Nat))), some (.int n)] ∧ SameBut a H H' ∧ (∃ ds, H' a = some (LI ds)) ∧ TiersAt (cutH a H') F ts' ∧ ∀ z', z < z' → RiseT ts' z' (i + 1), ?_, fun σ6 H6 hI => ?_⟩
      · refine ⟨_, rfl, _, _, rfl, rfl, _, rfl, ite2 (fun c => ?_) (fun c => ?_)⟩
        · have c' : z < 13 := of_decide_eq_true c
          have hF3 : ∃ xs, H3 F = some (.lst xs) := by
            obtain ⟨us, h1, _⟩ := id hts3
            exact ⟨_, (cut_some h1).2⟩
          obtain ⟨xs3, hF3⟩ := hF3
          refine ⟨_, rfl, .inl ⟨rfl, _, SqL.of hF3⟩, _, rfl, _, rfl, a, _, rfl, ha3, fun H4 ns4 p s4 ha4 p0 p1 => ⟨by show 2 ≤ sizeLine; decide, fun u nu => ?_⟩⟩
          have hts4 := hts3.same (cut_same s4)
          have nua : u ≠ a := (ne_of_none ha4 nu).symm
          have nuc : cutH a H4 u = none := by rw [cut_at nua]; exact nu
          obtain ⟨xs, hx, hxl, hpu⟩ := hts4.push (t := (z, p)) nuc
          have hF4 := (cut_some hx).2
          have few := rs.few
          refine ⟨F, _, _, rfl, rfl, (by rw [upd_ne (ne_of_none hF4 nu)]; exact hF4), szL' (by omega), ts ++ [(z, p)], rfl, ?_, ⟨ns4, ?_⟩, ?_, fun z' hz => rs.push c' hz p0 p1⟩
          · exact (((s2.trans s3).trans s4).trans (.of (same_upd nu))).new nF
          · rw [upd_ne naF.symm, upd_ne nua.symm]
            exact ha4
          · rw [cut_upd naF, cut_upd nua]
            exact hpu
        · exact ⟨ts, rfl, s2.trans s3, ⟨_, ha3⟩, hts3, fun z' hz => rs.pass (fun y => c (decide_eq_true y)) hz⟩
      · obtain ⟨ts', rfl, s6, ⟨ds6, ha6⟩, hts6, hr6⟩ := hI
        refine ⟨_, rfl, _, _, rfl, rfl, _, rfl, by show 3 ≤ sizeLine; decide, fun e ne => ?_⟩
        obtain ⟨j, hj, ej⟩ := mod_at (i := n / 8) (n := 3) (by decide)
        obtain ⟨v, hv, hv0⟩ := menu3 hj
        have nea : e ≠ a := (ne_of_none ha6 ne).symm
        refine ⟨_, rfl, _, _, rfl, rfl, ⟨by decide, by decide⟩, _, _, rfl, rfl, (by show (0 : Int) < _; decide), e, _, _, _, rfl, rfl, SqL.of upd_same, at_of ej hv, _, _, rfl, rfl, hv0, _, _, rfl, rfl, ?_⟩
        have := Int.emod_nonneg n (show v ≠ 0 by omega)
        exact ⟨_, _, _, rfl, s6.trans (.of (same_upd ne)), ⟨ds6, by rw [upd_ne nea.symm]; exact ha6⟩, ts', hts6.same (cut_same (.of (same_upd ne))), hr6 _ (by omega)⟩
    · obtain ⟨z, y3, y4, rfl, s2, ⟨ds, ha2⟩, ts, hts, rs⟩ := hp
      exact ⟨_, rfl, q H2 F ts ds s2 nF hts (rs.good (by omega) (by omega)) rs.pr ha2⟩
end
/-! ### lines as data -/
abbrev dInts (ns : List Int) : PyData := .list (ns.map PyData.int)
def dLine (l : Ln) : PyData := .tuple [.int l.p, .int l.c, dInts l.as]
abbrev dLines (ls : List Ln) : PyData := .list (ls.map dLine)
theorem LineAt.dp {K : PySem.W.Frag} {H : Hp} {a : Addr} {l : Ln} (h : LineAt H a l) : Dp K H (.ref a) (dLine l) := by
  obtain ⟨b, h1, h2⟩ := h
  exact .tup (SqT.of h1) (.cons (.int _) (.cons (.int _) (.cons (dp_ints (SqL.of h2)) .nil)))
theorem LineAt.same {H H' : Hp} (s : Same H H') {a : Addr} {l : Ln} (h : LineAt H a l) : LineAt H' a l := by
  obtain ⟨b, h1, h2⟩ := h
  exact ⟨b, s _ _ h1, s _ _ h2⟩
theorem LineAt.ke {H H' : Hp} (s : Ke H H') {a : Addr} {l : Ln} (h : LineAt H a l) : LineAt H' a l := by
  obtain ⟨b, h1, h2⟩ := h
  exact ⟨b, s.tup h1, s.lst h2⟩
theorem dp_lines {K : PySem.W.Frag} {H : Hp} : ∀ {as : List Addr} {ls : List Ln}, Al (LineAt H) as ls → DpAll K H (as.map V.ref) (ls.map dLine)
  | [], [], _ => .nil
  | [], _ :: _, h => h.elim
  | _ :: _, [], h => h.elim
  | _ :: _, _ :: _, h => .cons h.1.dp (dp_lines h.2)
theorem lay_line (l : Ln) : PyData.canLay0 (dLine l) = true := by
  have := lay_ints l.as
  simp [dLine, PyData.canLayAll0, PyData.canLay0, this]
theorem depth_line (l : Ln) : PyData.depth (dLine l) ≤ 2 := by
  have := depth_ints l.as
  simp only [dLine, PyData.depth, PyData.depthAll, this]
  decide
theorem lay_lines : ∀ ls : List Ln, PyData.canLayAll0 (ls.map dLine) = true
  | [] => by simp [PyData.canLayAll0]
  | l :: r => by
    have ih := lay_lines r
    have h1 := lay_line l
    simp [PyData.canLayAll0, ih, h1]
theorem depth_lines : ∀ ls : List Ln, PyData.depthAll (ls.map dLine) ≤ 2
  | [] => by simp [PyData.depthAll]
  | l :: r => by
    have ih := depth_lines r
    have h1 := depth_line l
    simp only [List.map_cons, PyData.depthAll]
    omega
theorem shaped_lines (ls : List Ln) : SeqAt.shaped (dLines ls) = true := by
  unfold SeqAt.shaped
  have h1 : PyData.canLay0 (dLines ls) = true := by
    simp only [PyData.canLay0]
    exact lay_lines ls
  have h2 : PyData.depth (dLines ls) ≤ 64 := by
    have := depth_lines ls
    simp only [PyData.depth]
    omega
  rw [h1, decide_eq_true h2]
  rfl
theorem shaped_line (l : Ln) : SeqAt.shaped (dLine l) = true := by
  unfold SeqAt.shaped
  have h2 : PyData.depth (dLine l) ≤ 64 := Nat.le_trans (depth_line l) (by decide)
  rw [lay_line l, decide_eq_true h2]
  rfl
theorem linesAtM_p {os : List Ofr} {i : Nat} {l : Ln} (h : l ∈ linesAtM os i) : l.p = (i : Int) := by
  unfold linesAtM at h
  split at h
  · obtain ⟨c, _, rfl⟩ := List.mem_map.mp h
    rfl
  · obtain ⟨c, _, rfl⟩ := List.mem_map.mp h
    rfl
  · cases h
theorem flat_one {α : Type} (X : List α) (p : Nat) : ∀ n : Nat, (List.range n).flatMap (fun i => if i = p then X else []) = if p < n then X else []
  | 0 => by simp
  | n + 1 => by
    rw [List.range_succ, List.flatMap_append, flat_one X p n, List.flatMap_singleton]
    by_cases h1 : p < n
    · rw [if_pos h1, if_neg (by omega), if_pos (by omega), List.append_nil]
    · rw [if_neg h1, List.nil_append]
      by_cases h2 : n = p
      · rw [if_pos h2, if_pos (by omega)]
      · rw [if_neg h2, if_neg (by omega)]
theorem lines_filter {os : List Ofr} {p : Nat} (h : p < os.length) : (linesM os).filter (fun l => decide (l.p = (p : Int))) = linesAtM os p := by
  unfold linesM
  rw [List.filter_flatMap]
  have e : ∀ i : Nat, (linesAtM os i).filter (fun l => decide (l.p = (p : Int))) = if i = p then linesAtM os p else [] := fun i => by
    by_cases z : i = p
    · rw [if_pos z, z, List.filter_eq_self]
      exact fun l hl => decide_eq_true (linesAtM_p hl)
    · rw [if_neg z, List.filter_eq_nil_iff]
      intro l hl
      have := linesAtM_p hl
      rw [decide_eq_true_eq]
      omega
  rw [show (fun i => (linesAtM os i).filter (fun l => decide (l.p = (p : Int)))) = fun i => if i = p then linesAtM os p else [] from funext e, flat_one, if_pos h]
/-! ### the tier of a count -/
def stepT (q : Int → Prop) [DecidablePred q] (ts : List (Int × Int)) (e : Int) : Int := ts.foldl (fun e t => if q t.1 then t.2 else e) e
theorem stepT_none {q : Int → Prop} [DecidablePred q] : ∀ {ts : List (Int × Int)} {e : Int}, (∀ t ∈ ts, ¬ q t.1) → stepT q ts e = e
  | [], _, _ => rfl
  | t :: r, e, h => by
    show stepT q r (if q t.1 then t.2 else e) = e
    rw [if_neg (h t List.mem_cons_self)]
    exact stepT_none fun t ht => h t (List.mem_cons_of_mem _ ht)
theorem stepT_split (c : Int) : ∀ (ts : List (Int × Int)) (e : Int), ts.Pairwise (fun a b => a.1 < b.1) → stepT (· = c) ts (stepT (· ≤ c - 1) ts e) = stepT (· ≤ c) ts e
  | [], _, _ => rfl
  | t :: r, e, h => by
    obtain ⟨h1, h2⟩ := List.pairwise_cons.mp h
    show stepT (· = c) r (if t.1 = c then t.2 else stepT (· ≤ c - 1) r (if t.1 ≤ c - 1 then t.2 else e)) = stepT (· ≤ c) r (if t.1 ≤ c then t.2 else e)
    by_cases z1 : t.1 ≤ c - 1
    · rw [if_pos z1, if_neg (by omega), if_pos (by omega)]
      exact stepT_split c r t.2 h2
    · rw [if_neg z1]
      by_cases z2 : t.1 = c
      · rw [if_pos z2, if_pos (by omega), stepT_none (q := (· = c)) fun x hx => by have := h1 x hx; omega, stepT_none (q := (· ≤ c)) fun x hx => by have := h1 x hx; omega]
      · rw [if_neg z2, if_neg (by omega)]
        exact stepT_split c r e h2
theorem pieceM_step (c : Int) : ∀ (ts : List (Int × Int)) (e : Int), (pieceL ts c).getLastD e = stepT (· ≤ c) ts e
  | [], _ => rfl
  | t :: r, e => by
    show _ = stepT (· ≤ c) r (if t.1 ≤ c then t.2 else e)
    rw [← pieceM_step c r]
    unfold pieceL
    by_cases z : t.1 ≤ c
    · rw [if_pos z, List.filter_cons_of_pos (p := fun t : Int × Int => decide (t.1 ≤ c)) (decide_eq_true z), List.map_cons, List.getLastD_cons]
    · rw [if_neg z, List.filter_cons_of_neg (by rw [decide_eq_true_eq]; exact z)]
theorem GoodT.pair {ts : List (Int × Int)} (h : GoodT ts) : ts.Pairwise (fun a b => a.1 < b.1) := by
  have step : ∀ (n i : Nat) (a b : Int × Int), ts[i]? = some a → ts[i + (n + 1)]? = some b → a.1 < b.1 := by
    intro n
    induction n with
    | zero => exact fun i a b ha hb => h.rise i a b ha hb
    | succ n ih =>
      intro i a b ha hb
      have hl := (List.getElem?_eq_some_iff.mp hb).1
      have g := List.getElem?_eq_getElem (show i + (n + 1) < ts.length by omega)
      have h1 := ih i a _ ha g
      have h2 := h.rise (i + (n + 1)) _ b g hb
      omega
  rw [List.pairwise_iff_getElem]
  intro i j hi hj hij
  have := step (j - i - 1) i ts[i] ts[j] (List.getElem?_eq_getElem hi) (by rw [show i + (j - i - 1 + 1) = j by omega]; exact List.getElem?_eq_getElem hj)
  exact this
theorem GoodT.ge1 {ts : List (Int × Int)} (h : GoodT ts) : ∀ t ∈ ts, 1 ≤ t.1 := fun t ht => by
  obtain ⟨i, hi, rfl⟩ := List.getElem_of_mem ht
  have e0 := h.one _ (List.getElem?_eq_getElem (show 0 < ts.length by omega))
  rcases Nat.eq_zero_or_pos i with z | z
  · subst z
    omega
  · have := List.pairwise_iff_getElem.mp h.pair 0 i (by omega) hi z
    omega
theorem pieceM_zero {ts : List (Int × Int)} (h : GoodT ts) : pieceM ts 0 = 0 := by
  unfold pieceM
  rw [pieceM_step]
  exact stepT_none fun t ht => by have := h.ge1 t ht; omega
theorem pieceM_succ {ts : List (Int × Int)} (h : GoodT ts) (c : Int) : stepT (· = c) ts (pieceM ts (c - 1)) = pieceM ts c := by
  unfold pieceM
  rw [pieceM_step, pieceM_step]
  exact stepT_split c ts 0 h.pair
theorem stepT_take {q : Int → Prop} [DecidablePred q] {ts : List (Int × Int)} {i : Nat} {t : Int × Int} {e : Int} (h : ts[i]? = some t) : stepT q (ts.take (i + 1)) e = if q t.1 then t.2 else stepT q (ts.take i) e := by
  unfold stepT
  rw [take_succ_at h, List.foldl_append]
  rfl
/-! ### shops made of offers -/
theorem ShopAt.of_al {H : Hp} {a : Addr} {vs : List Addr} {os : List Ofr} (h : H a = some (.lst (vs.map V.ref))) (al : Al (OfrAt H) vs os) : ShopAt H a os := by
  refine ⟨vs, h, al.len, fun i v o hv ho => ?_⟩
  obtain ⟨x, hx, r⟩ := al.get hv
  rw [ho] at hx
  cases Option.some.inj hx
  exact r
theorem TiersAt.of_al {H : Hp} {a : Addr} {us : List Addr} {ts : List (Int × Int)} (h : H a = some (.lst (us.map V.ref))) (al : Al (fun u (t : Int × Int) => H u = some (.tup [.int t.1, .int t.2])) us ts) : TiersAt H a ts := by
  refine ⟨us, h, al.len, fun i v o hv ho => ?_⟩
  obtain ⟨x, hx, r⟩ := al.get hv
  rw [ho] at hx
  cases Option.some.inj hx
  exact r
theorem ShopAt.al {H : Hp} {a : Addr} {os : List Ofr} (h : ShopAt H a os) : ∃ vs : List Addr, H a = some (.lst (vs.map V.ref)) ∧ Al (OfrAt H) vs os := by
  obtain ⟨vs, h1, h2, h3⟩ := h
  refine ⟨vs, h1, ?_⟩
  clear h1
  induction vs generalizing os with
  | nil =>
    cases os with
    | nil => exact True.intro
    | cons o r => simp at h2
  | cons v vr ih =>
    cases os with
    | nil => simp at h2
    | cons o r => exact ⟨h3 0 v o rfl rfl, ih (by simpa using h2) fun i v o hv ho => h3 (i + 1) v o hv ho⟩
theorem goodT_one (p : Int) : GoodT [(1, p)] := by
  refine ⟨by show 1 ≤ 1; decide, by show 1 ≤ 4; decide, fun t e => ?_, fun t ht => ?_, fun i a b ha hb => by simp at hb⟩
  · cases Option.some.inj e
    rfl
  · rw [List.mem_singleton.mp ht]
    show (1 : Int) ≤ 12
    decide
/-! ### _law_shop -/
abbrev s_law_shop : Stmt := topS 25
abbrev N_law_shop : List Str := ["_law_draws_here", "_law_many", "_law_most", "_law_shop_here", "_law_k", "_law_number", "_law_packs", "_law_content_here", "_law_place"]
theorem sc_law_shop : FnScope N_law_shop ["_law_draws_here", "_law_many", "_law_most"] (defScope s_law_shop) := ⟨rfl, rfl, rfl, by decide +kernel, rfl, by decide +kernel, by decide +kernel⟩

def isPack (os : List Ofr) (i : Nat) : Bool := match os[i]? with
  | some (.pack _ _) => true
  | _ => false
def packsN (os : List Ofr) (n : Nat) : List Int := ((List.range n).filter (isPack os)).map fun (i : Nat) => (i : Int)
theorem packsN_len (os : List Ofr) (n : Nat) : (packsN os n).length ≤ n := by
  unfold packsN
  rw [List.length_map]
  exact Nat.le_trans (List.length_filter_le _ _) (by rw [List.length_range]; exact Nat.le_refl _)
theorem packsN_yes {os : List Ofr} {n : Nat} (h : isPack os n = true) : packsN os (n + 1) = packsN os n ++ [(n : Int)] := by
  unfold packsN
  rw [List.range_succ, List.filter_append, List.map_append]
  simp [h]
theorem packsN_no {os : List Ofr} {n : Nat} (h : isPack os n = false) : packsN os (n + 1) = packsN os n := by
  unfold packsN
  rw [List.range_succ, List.filter_append, List.map_append]
  simp [h]
theorem packsN_mem {os : List Ofr} {n : Nat} {x : Int} (h : x ∈ packsN os n) : ∃ j : Nat, x = (j : Int) ∧ j < n ∧ ∃ c p, os[j]? = some (.pack c p) := by
  obtain ⟨j, hj, rfl⟩ := List.mem_map.mp h
  obtain ⟨h1, h2⟩ := List.mem_filter.mp hj
  refine ⟨j, rfl, List.mem_range.mp h1, ?_⟩
  unfold isPack at h2
  split at h2
  · exact ⟨_, _, by assumption⟩
  · cases h2
def sp_shop : Sp := fun vs H Q _ => ∃ (a : Addr) (ns : List Int) (m most : Nat), vs = [.ref a, .int m, .int most] ∧ H a = some (LI ns) ∧ 1 ≤ m ∧ m ≤ 4 ∧ most ≤ 8 ∧
  ∀ H' p os ns', SameBut a H H' → H p = none → ShopAt (cutH a H') p os → Good os → FitS m os → os.length ≤ most → H' a = some (LI ns') → Q (.ref p) H'
section
variable {P : Program} {w : World} {K : PySem.W.Frag} {mg : Str → Option Value} {base : Heap}
theorem ok_shop {f f1 f2 f3 f4 f5 f6 : Addr} {fd fd1 fd2 fd3 fd4 fd5 fd6 : FuncData} {k : Nat} (M : Names mg) (D : Def K mg "_law_shop" s_law_shop ["_law_draws_here", "_law_many", "_law_most"] f fd) (D_law_content : Def K mg "_law_content" s_law_content ["_law_draws_here", "_law_many"] f1 fd1) (D_law_price : Def K mg "_law_price" s_law_price ["_law_draws_here"] f2 fd2) (D_law_tiers : Def K mg "_law_tiers" s_law_tiers ["_law_draws_here"] f3 fd3)
    (D_law_want : Def K mg "_law_want" s_law_want ["_law_draws_here", "_law_many"] f4 fd4) (D_law_pop : Def K mg "_law_pop" s_law_pop ["_law_draws_here"] f5 fd5) (D_law_cases : Def K mg "_law_cases" s_law_cases ["_law_want_here"] f6 fd6) :
    FnOk P w K mg base CX0 (k + 4) f fd ["_law_draws_here", "_law_many", "_law_most"] sp_shop := by
  have G_law_content : FnOk P w K mg base CX0 (k + 3) f1 fd1 ["_law_draws_here", "_law_many"] sp_content := ok_content M D_law_content D_law_want D_law_pop D_law_cases
  have G_law_price : FnOk P w K mg base CX0 (k + 3) f2 fd2 ["_law_draws_here"] sp_price := ok_price D_law_price D_law_pop
  have G_law_tiers : FnOk P w K mg base CX0 (k + 3) f3 fd3 ["_law_draws_here"] sp_tiers := ok_tiers M D_law_tiers D_law_price D_law_pop
  have G_law_pop : FnOk P w K mg base CX0 (k + 3) f5 fd5 ["_law_draws_here"] sp_pop := ok_pop D_law_pop
  refine D.F.ok sc_law_shop (fun vs H Q E h => ?_) (fun cdv A outer s H vs Q E hr h => ?_)
  · obtain ⟨a, ns, m, most, rfl, _⟩ := h
    rfl
  · obtain ⟨a, ns, m, most, rfl, ha, hm1, hm4, hmost, q⟩ := h
    refine ⟨_, (pss_cons (ps_set (i := 3) sc_law_shop.nd rfl (Or.inr rfl) (pe_lst pa_nil))
  (pss_cons (ps_for PassesOwn.never rfl (pi_range1 (by rfl) M.range (pa_cons (pe_op op_mod (pe_call G_law_pop hr (by rfl) D_law_pop.g D_law_pop.F.kp D_law_pop.b .nil pass0 (pa_cons (pv 0) pa_nil)) (pe_op op_add (pv 2) pe_int)) pa_nil)) (pg_name (i := 4) sc_law_shop.nd rfl (Or.inl rfl))
   (pss_cons (ps_set (i := 5) sc_law_shop.nd rfl (Or.inl rfl) (pe_call G_law_pop hr (by rfl) D_law_pop.g D_law_pop.F.kp D_law_pop.b .nil pass0 (pa_cons (pv 0) pa_nil)))
  (pss_cons (ps_setLc (i := 6) (own := [("_law_place", 8)]) (by rfl) sc_law_shop.nd rfl rfl (sw_true rfl rfl rfl (by decide +kernel)) (pi_range1 (by rfl) M.range (pa_cons (pe_callB call_len_seq (by rfl) M.len (by decide +kernel) (pa_cons (pv 3) pa_nil)) pa_nil)) (blkOk_by (own := [("_law_place", 8)]) (N := N_law_shop) (sc := defScope s_law_shop) (by decide +kernel)) (fun _ _ _ _ _ => (pg_name (i := 8) sc_law_shop.nd rfl (Or.inl rfl))) (fun _ _ _ _ _ => (pts_one (pt_cmpR op_eq (pe_ix (ix_tupK (K := K) rfl) (pe_ix (ix_listK (K := K) rfl) (pv 3) (pv 8) (fun _ _ => rfl)) pe_int (fun _ _ => rfl)) pe_str (nomark _)))) (fun _ _ _ _ _ => (pv 8)))
  (pss_cons (ps_set (i := 7) sc_law_shop.nd rfl (Or.inl rfl) (pe_call G_law_content hr (by rfl) D_law_content.g D_law_content.F.kp D_law_content.b .nil pass0 (pa_cons (pv 0) (pa_cons (pv 1) pa_nil))))
  (pss_one (ps_if (PW.pt (pw_and (pt_cmpR op_gt (pe_op op_mod (pv 5) pe_int) pe_int (nomark _)) (pw_and1 (pt_cmpR (op_neD hr.units) (pv 6) (pe_lst pa_nil) (nomark _)))))
   (pss_one (ps_expr (pe_bm PySem.F.plainAttrs_list PySem.F.slot_list_append PySem.F.type_list_append mt_append (pv 3) (pa_cons (pe_tup (pa_cons pe_str (pa_cons (pv 7) (pa_cons (pe_call G_law_price hr (by rfl) D_law_price.g D_law_price.F.kp D_law_price.b .nil pass0 (pa_cons (pv 0) pa_nil)) (pa_cons (pe_ix ix_list (pv 6) (pe_op op_mod (pe_op op_fdiv (pv 5) pe_int) (pe_callB call_len_seq (by rfl) M.len (by decide +kernel) (pa_cons (pv 6) pa_nil))) (fun _ _ => rfl)) pa_nil))))) pa_nil))))
   (pss_one (ps_if (pt_cmpR op_gt (pe_op op_mod (pv 5) pe_int) pe_int (nomark _))
   (pss_one (ps_expr (pe_bm PySem.F.plainAttrs_list PySem.F.slot_list_append PySem.F.type_list_append mt_append (pv 3) (pa_cons (pe_tup (pa_cons pe_str (pa_cons (pv 7) (pa_cons (pe_call G_law_tiers hr (by rfl) D_law_tiers.g D_law_tiers.F.kp D_law_tiers.b .nil pass0 (pa_cons (pv 0) pa_nil)) pa_nil)))) pa_nil))))
   (pss_one (ps_expr (pe_bm PySem.F.plainAttrs_list PySem.F.slot_list_append PySem.F.type_list_append mt_append (pv 3) (pa_cons (pe_tup (pa_cons pe_str (pa_cons (pv 7) (pa_cons (pe_call G_law_price hr (by rfl) D_law_price.g D_law_price.F.kp D_law_price.b .nil pass0 (pa_cons (pv 0) pa_nil)) pa_nil)))) pa_nil))))))))))))
  (pss_one (ps_ret (pv 3))))), ?_⟩
    refine ⟨Nat.zero_le _, fun S nS => ?_⟩
    have nSa : S ≠ a := (ne_of_none ha nS).symm
    have ha0 : upd H S (.lst []) a = some (LI ns) := by rw [upd_ne nSa.symm]; exact ha
    refine ⟨_, rfl, a, ns, rfl, ha0, fun H1 s1 ha1 => ?_⟩
    have s1' : SameBut a H H1 := (SameBut.of (same_upd nS)).trans s1
    have hS1 : H1 S = some (.lst []) := s1 _ _ nSa upd_same
    obtain ⟨cnt, hcnt, ecnt⟩ := mod_at (i := ns.headD 0) (n := most + 1) (by omega)
    refine ⟨_, rfl, _, _, rfl, rfl, _, _, rfl, rfl, (by show (0 : Int) < (most : Int) + 1; omega), ?_⟩
    refine ⟨(cnt : Int), (by show [V.int (ns.headD 0 % ((most : Int) + 1))] = [V.int (cnt : Int)]; rw [show ns.headD 0 % ((most : Int) + 1) = (cnt : Int) from ecnt]), by omega, by omega, for_range (n := (cnt : Int).toNat) (fun i σ H' => ∃ y4 y5 y6 y7, σ = [some (.ref a), some (.int m), some (.int most), some (.ref S), y4, y5, y6, y7, none] ∧ SameBut a H H' ∧ (∃ ds, H' a = some (LI ds)) ∧ ∃ (vs : List Addr) (os : List Ofr), H' S = some (.lst (vs.map V.ref)) ∧ Al (OfrAt (cutH S (cutH a H'))) vs os ∧ Good os ∧ FitS m os ∧ os.length ≤ i) ⟨none, none, none, none, rfl, s1', ⟨_, ha1⟩, [], [], hS1, True.intro, ⟨by decide, fun i o ho => by simp at ho⟩, fun o ho => by simp at ho, Nat.le_refl _⟩ (fun i σ H2 hi hp => ?_) (fun σ H2 hp => ?_)⟩
    · obtain ⟨y4, y5, y6, y7, rfl, s2, ⟨ds, ha2⟩, vs, os, hS2, al, gd, ft, hlen⟩ := hp
      have hi2 : i < cnt := by omega
      have lal := al.len
      refine ⟨_, rfl, a, ds, rfl, ha2, fun H3 s3 ha3 => ?_⟩
      generalize ds.headD 0 = n
      have s23 := s2.trans s3
      have hS3 := s3 _ _ nSa hS2
      have al3 : Al (OfrAt (cutH S (cutH a H3))) vs os := al.imp fun v o h => h.same (cut_mono (cut_same s3))
      have sh3 : ShopAt H3 S os := ShopAt.of_al hS3 (al3.imp fun v o h => (h.same cut_le).same cut_le)
      obtain ⟨vs3, k1, k2, k3⟩ := id sh3
      -- packs
      refine ⟨_, rfl, S, _, rfl, .inl (SqL.of k1), _, rfl, by rw [List.length_map]; omega, by rw [List.length_map]; omega, fun B nB => lc_range (lo := 0) (n := ((vs3.map V.ref).length : Int).toNat) (fun j H' => Same H3 H' ∧ H' B = some (LI (packsN os j))) ⟨same_upd nB, upd_same⟩ (fun j H4 hj hI => ?_) (fun H4 hI => ?_)⟩
      · obtain ⟨s4, hB⟩ := hI
        have hj2 : j < os.length := by rw [Int.toNat_natCast, List.length_map] at hj; omega
        obtain ⟨v, o, g1, g2, g3⟩ := ShopAt.get (H := H3) (a := S) k2 hj2
        obtain ⟨b, r, hv, _⟩ := (k3 j v o g1 g2).head
        have nlen := packsN_len os j
        refine ⟨rfl, _, rfl, _, rfl, S, _, _, _, rfl, rfl, SqL.of (s4 _ _ k1), at_of (Int.zero_add _) g3, v, _, _, _, rfl, rfl, SqT.of (s4 _ _ hv), atI_nat (j := 0) rfl, rfl, ?_⟩
        cases o with
        | pack c pr =>
          have hn : isPack os j = true := by unfold isPack; rw [g2]
          refine ⟨true, rfl, _, rfl, _, hB, szL' (by rw [List.length_map]; omega), sm_new s4 nB, ?_⟩
          rw [packsN_yes hn, show (0 : Int) + (j : Nat) = (j : Int) from Int.zero_add _]
          exact at_app
        | many c ts =>
          have hn : isPack os j = false := by unfold isPack; rw [g2]
          exact ⟨false, rfl, s4, by rw [packsN_no hn]; exact hB⟩
        | add c pr kk =>
          have hn : isPack os j = false := by unfold isPack; rw [g2]
          exact ⟨false, rfl, s4, by rw [packsN_no hn]; exact hB⟩
      · obtain ⟨s4, hB⟩ := hI
        rw [Int.toNat_natCast, List.length_map, k2] at hB
        have ha4 := s4 _ _ ha3
        have hS4 := s4 _ _ hS3
        have nBa : B ≠ a := (ne_of_none ha3 nB).symm
        have s24 : SameBut a H H4 := s23.trans (.of s4)
        have al4 : Al (OfrAt (cutH S (cutH a H4))) vs os := al3.imp fun v o h => h.same (cut_mono (cut_mono s4))
        -- content
        refine ⟨_, rfl, _, rfl, a, _, m, rfl, ha4, hm1, hm4, fun H5 c ws ns5 s5 nc nca hc ha5 hl sm => ?_⟩
        have s25 := s24.trans s5
        have hS5 := s5 _ _ nSa hS4
        have hB5 := s5 _ _ nBa hB
        have ncS : c ≠ S := fun z => by rw [z, hS4] at nc; cases nc
        have al5 : Al (OfrAt (cutH S (cutH a H5))) vs os := al4.imp fun v o h => h.same (cut_mono (cut_same s5))
        have fin : ∀ (H6 : Hp) (v : Addr) (o : Ofr) (tup : List V) (ns6 : List Int), SameBut a H5 H6 → H6 v = none → H6 a = some (LI ns6) → (OfrAt (cutH S (cutH a (upd H6 v (.tup tup)))) v o) → GoodO os os.length o → FitO m o → upd H6 v (.tup tup) S = some (.lst (vs.map V.ref)) ∧ (vs.map V.ref).length < sizeLine ∧ (∃ y4 y5 y6 y7, [some (V.ref a), some (.int m), some (.int most), some (.ref S), some (.int (0 + (i : Nat))), some (.int n), some (.ref B), some (.ref c), none] = [some (.ref a), some (.int m), some (.int most), some (.ref S), y4, y5, y6, y7, none] ∧ SameBut a H (upd (upd H6 v (.tup tup)) S (.lst (vs.map V.ref ++ [.ref v]))) ∧ (∃ ds, upd (upd H6 v (.tup tup)) S (.lst (vs.map V.ref ++ [.ref v])) a = some (LI ds)) ∧ ∃ (vs' : List Addr) (os' : List Ofr), upd (upd H6 v (.tup tup)) S (.lst (vs.map V.ref ++ [.ref v])) S = some (.lst (vs'.map V.ref)) ∧ Al (OfrAt (cutH S (cutH a (upd (upd H6 v (.tup tup)) S (.lst (vs.map V.ref ++ [.ref v])))))) vs' os' ∧ Good os' ∧ FitS m os' ∧ os'.length ≤ i + 1) := by
          intro H6 v o tup ns6 s6 nv ha6 ho go fo
          have nva : v ≠ a := (ne_of_none ha6 nv).symm
          have hS6 := s6 _ _ nSa hS5
          have hS7 := (same_upd (o := .tup tup) nv) _ _ hS6
          refine ⟨hS7, szL' (by rw [List.length_map]; omega), _, _, _, _, rfl, ?_, ⟨ns6, ?_⟩, vs ++ [v], os ++ [o], ?_, ?_, gd.push (by omega) go, ft.push fo, by rw [List.length_append, List.length_singleton]; omega⟩
          · exact ((s25.trans s6).trans (.of (same_upd nv))).new nS
          · rw [upd_ne nSa.symm, upd_ne nva.symm]
            exact ha6
          · rw [upd_same, List.map_append]
            rfl
          · rw [cut_upd nSa, cut_off]
            refine Al.app (al5.imp fun x y h => h.same (cut_mono (cut_same (s6.trans (.of (same_upd nv)))))) (.one ho)
        have finM := fun (H6 H7 : Hp) (v tt : Addr) (ts : List (Int × Int)) (ns7 : List Int) (s6 : SameBut a H5 H6) (s7 : SameBut a H6 H7) (nt : H6 tt = none) (hts : TiersAt (cutH a H7) tt ts) (gts : GoodT ts) (prt : PriceT ts) (ha7 : H7 a = some (LI ns7)) (nv : H7 v = none) => by
          have hS6 := s6 _ _ nSa hS5
          have hS7 := s7 _ _ nSa hS6
          have nva : v ≠ a := (ne_of_none ha7 nv).symm
          have nvS : v ≠ S := (ne_of_none hS7 nv).symm
          have ntS : tt ≠ S := fun z => by rw [z, hS6] at nt; cases nt
          have hc7 := s7 _ _ nca (s6 _ _ nca hc)
          have hts' : TiersAt (cutH S (cutH a (upd H7 v (.tup [.str "many", .ref c, .ref tt])))) tt ts := (hts.cut ntS (cut_put nSa hS7)).same (cut_mono (cut_mono (same_upd nv)))
          exact fin H7 v (.many ws ts) [.str "many", .ref c, .ref tt] ns7 (s6.trans s7) nv ha7 ⟨c, tt, cut_put nvS (cut_put nva upd_same), cut_put ncS (cut_put nca ((same_upd nv) _ _ hc7)), hts'⟩ gts ⟨hl, sm, prt⟩
        have finP := fun (H6 H7 : Hp) (v : Addr) (ns7 : List Int) (p : Int) (s6 : SameBut a H5 H6) (s7 : SameBut a H6 H7) (ha7 : H7 a = some (LI ns7)) (p0 : 0 ≤ p) (p1 : p < 1000000000000) (nv : H7 v = none) => by
          have hS7 := s7 _ _ nSa (s6 _ _ nSa hS5)
          have nva : v ≠ a := (ne_of_none ha7 nv).symm
          have nvS : v ≠ S := (ne_of_none hS7 nv).symm
          have hc7 := s7 _ _ nca (s6 _ _ nca hc)
          exact fin H7 v (.pack ws p) [.str "pack", .ref c, .int p] ns7 (s6.trans s7) nv ha7 ⟨c, cut_put nvS (cut_put nva upd_same), cut_put ncS (cut_put nca ((same_upd nv) _ _ hc7))⟩ True.intro ⟨hl, sm, p0, p1⟩
        refine ⟨_, rfl, _, _, rfl, rfl, (by show (0 : Int) < _; decide), _, _, rfl, rfl, _, rfl, ite2 (fun _ => ?_) (fun _ => ?_)⟩
        · refine ⟨_, rfl, Nat.zero_le _, fun e ne => ?_⟩
          have se := same_upd (o := .lst []) ne
          have hB6 := se _ _ hB5
          have ha6 := se _ _ ha5
          have hS6 := se _ _ hS5
          have he : upd H5 e (.lst []) e = some (.lst []) := upd_same
          generalize upd H5 e (.lst []) = H6 at se hB6 ha6 hS6 he ⊢
          refine ⟨_, _, dp_ints (SqL.of hB6), dp_ints (ns := []) (SqL.of he), shaped_ints _, shaped_ints _, _, rfl, ite2 (fun z => ?_) (fun z => ?_)⟩
          · have pne : 0 < (packsN os os.length).length := by
              rcases Nat.eq_zero_or_pos (packsN os os.length).length with y | y
              · rw [eqv_ints, List.eq_nil_of_length_eq_zero y, decide_eq_true rfl] at z
                cases z
              · exact y
            obtain ⟨j, hj, ej⟩ := mod_at (i := n / 8) (n := ((packsN os os.length).map V.int).length) (by rw [List.length_map]; exact pne)
            rw [List.length_map] at hj
            refine ⟨_, rfl, .inl ⟨rfl, _, SqL.of hS6⟩, _, rfl, _, rfl, a, _, rfl, ha6, fun H7 ns7 p s7 ha7 p0 p1 => ?_⟩
            have hB7 := s7 _ _ nBa hB6
            refine ⟨_, rfl, _, rfl, _, _, rfl, rfl, ⟨by decide, by decide⟩, _, rfl, B, _, rfl, .inl (SqL.of hB7), _, _, rfl, rfl, (by rw [List.length_map]; omega), B, _, _, _, rfl, rfl, SqL.of hB7, at_of ej (getD_ints hj), by show 4 ≤ sizeLine; decide, fun v nv => ?_⟩
            obtain ⟨jj, ejj, hjj, cc, pp, hpk⟩ := packsN_mem (List.getElem_mem hj)
            have nva : v ≠ a := (ne_of_none ha7 nv).symm
            have hS7 := s7 _ _ nSa hS6
            have nvS : v ≠ S := (ne_of_none hS7 nv).symm
            have hc7 := s7 _ _ nca (se _ _ hc)
            exact ⟨S, _, _, rfl, rfl, fin H7 v (.add ws p ((packsN os os.length)[j])) _ ns7 ((SameBut.of se).trans s7) nv ha7 ⟨c, cut_put nvS (cut_put nva upd_same), cut_put ncS (cut_put nca ((same_upd nv) _ _ hc7))⟩ ⟨jj, ejj, hjj, cc, pp, hpk⟩ ⟨hl, sm, p0, p1⟩⟩
          · refine ⟨_, rfl, _, _, rfl, rfl, (by show (0 : Int) < _; decide), _, _, rfl, rfl, _, rfl, ite2 (fun _ => ?_) (fun _ => ?_)⟩
            · refine ⟨_, rfl, .inl ⟨rfl, _, SqL.of hS6⟩, _, rfl, _, rfl, a, _, rfl, ha6, fun H7 tt ts ns7 s7 nt hts gts prt ha7 => ⟨by show 3 ≤ sizeLine; decide, fun v nv => ?_⟩⟩
              exact ⟨S, _, _, rfl, rfl, finM H6 H7 v tt ts ns7 (.of se) s7 nt hts gts prt ha7 nv⟩
            · refine ⟨_, rfl, .inl ⟨rfl, _, SqL.of hS6⟩, _, rfl, _, rfl, a, _, rfl, ha6, fun H7 ns7 p s7 ha7 p0 p1 => ⟨by show 3 ≤ sizeLine; decide, fun v nv => ?_⟩⟩
              exact ⟨S, _, _, rfl, rfl, finP H6 H7 v ns7 p (.of se) s7 ha7 p0 p1 nv⟩
        · refine ⟨_, rfl, _, _, rfl, rfl, (by show (0 : Int) < _; decide), _, _, rfl, rfl, _, rfl, ite2 (fun _ => ?_) (fun _ => ?_)⟩
          · refine ⟨_, rfl, .inl ⟨rfl, _, SqL.of hS5⟩, _, rfl, _, rfl, a, _, rfl, ha5, fun H7 tt ts ns7 s7 nt hts gts prt ha7 => ⟨by show 3 ≤ sizeLine; decide, fun v nv => ?_⟩⟩
            exact ⟨S, _, _, rfl, rfl, finM H5 H7 v tt ts ns7 (.refl _ _) s7 nt hts gts prt ha7 nv⟩
          · refine ⟨_, rfl, .inl ⟨rfl, _, SqL.of hS5⟩, _, rfl, _, rfl, a, _, rfl, ha5, fun H7 ns7 p s7 ha7 p0 p1 => ⟨by show 3 ≤ sizeLine; decide, fun v nv => ?_⟩⟩
            exact ⟨S, _, _, rfl, rfl, finP H5 H7 v ns7 p (.refl _ _) s7 ha7 p0 p1 nv⟩
    · obtain ⟨y4, y5, y6, y7, rfl, s2, ⟨ds, ha2⟩, vs, os, hS2, al, gd, ft, hlen⟩ := hp
      refine ⟨_, rfl, q H2 S os ds s2 nS (ShopAt.of_al (cut_put nSa hS2) (al.imp fun v o h => h.same cut_le)) gd ft (by omega) ha2⟩
end
/-! ### lines of a good shop -/
theorem choices_mem : ∀ {ps c : List Int}, c ∈ choicesM ps → c.length ≤ ps.length ∧ ∀ x ∈ c, x ∈ ps
  | [], c, h => by
    rw [List.mem_singleton.mp h]
    exact ⟨Nat.le_refl _, fun x hx => by cases hx⟩
  | p :: ps, c, h => by
    rcases List.mem_append.mp h with h | h
    · rcases List.mem_append.mp h with h | h
      · rw [List.mem_singleton.mp h]
        exact ⟨Nat.zero_le _, fun x hx => by cases hx⟩
      · obtain ⟨d, hd, rfl⟩ := List.mem_map.mp h
        obtain ⟨h1, h2⟩ := choices_mem hd
        refine ⟨by rw [List.length_cons, List.length_cons]; omega, fun x hx => ?_⟩
        rcases List.mem_cons.mp hx with rfl | hx
        · exact List.mem_cons_self
        · exact List.mem_cons_of_mem _ (h2 x hx)
    · obtain ⟨h1, h2⟩ := choices_mem (List.mem_of_mem_tail h)
      exact ⟨by rw [List.length_cons]; omega, fun x hx => List.mem_cons_of_mem _ (h2 x hx)⟩
theorem adds_mem {os : List Ofr} {p : Int} {n : Nat} {x : Int} (h : x ∈ addsN os p n) : ∃ j : Nat, x = (j : Int) ∧ j < n ∧ ∃ c pr, os[j]? = some (.add c pr p) := by
  obtain ⟨j, hj, rfl⟩ := List.mem_map.mp h
  obtain ⟨h1, h2⟩ := List.mem_filter.mp hj
  refine ⟨j, rfl, List.mem_range.mp h1, ?_⟩
  unfold isAdd at h2
  split at h2
  · rename_i c pr k e
    have := of_decide_eq_true h2
    subst this
    exact ⟨c, pr, e⟩
  · cases h2
theorem linesAt_ok {os : List Ofr} (gd : Good os) {p : Nat} {l : Ln} (h : l ∈ linesAtM os p) : LineOk os l := by
  unfold linesAtM at h
  split at h
  · rename_i c pr e
    obtain ⟨ch, hch, rfl⟩ := List.mem_map.mp h
    obtain ⟨h1, h2⟩ := choices_mem hch
    have h8 := gd.1
    have hl := addsN_len os (p : Int) os.length
    refine ⟨p, rfl, .inr ⟨c, pr, e, rfl, ?_, fun x hx => ?_⟩⟩
    · have h1' : ch.length ≤ (addsN os (p : Int) os.length).length := h1
      show ch.length ≤ 8
      omega
    · obtain ⟨j, e1, _, c', pr', e2⟩ := adds_mem (h2 x hx)
      exact ⟨j, e1, c', pr', _, e2⟩
  · rename_i c ts e
    obtain ⟨i, hi, rfl⟩ := List.mem_map.mp h
    have hi' := List.mem_range.mp hi
    exact ⟨p, rfl, .inl ⟨c, ts, e, gd.2 p _ e, by show (1 : Int) ≤ 1 + (i : Nat); omega, by show (1 : Int) + (i : Nat) ≤ 12; omega, rfl⟩⟩
  · cases h
theorem lines_ok {os : List Ofr} (gd : Good os) {l : Ln} (h : l ∈ linesM os) : LineOk os l := by
  obtain ⟨p, _, hp⟩ := List.mem_flatMap.mp h
  exact linesAt_ok gd hp
/-- m numbers from nought on -/
def V0 (m : Nat) (c : List Int) : Prop := c.length = m ∧ ∀ x ∈ c, 0 ≤ x
theorem tog_nonneg : ∀ {a b : List Int}, (∀ x ∈ a, 0 ≤ x) → (∀ x ∈ b, 0 ≤ x) → ∀ x ∈ togM a b, 0 ≤ x
  | [], _, _, _, x, h => by simp [togM] at h
  | _ :: _, [], _, _, x, h => by simp [togM] at h
  | a :: r, b :: q, ha, hb, x, h => by
    have h' : x ∈ (a + b) :: togM r q := h
    rcases List.mem_cons.mp h' with rfl | h'
    · have h1 := ha a List.mem_cons_self
      have h2 := hb b List.mem_cons_self
      omega
    · exact tog_nonneg (fun y hy => ha y (List.mem_cons_of_mem _ hy)) (fun y hy => hb y (List.mem_cons_of_mem _ hy)) x h'
theorem V0.tog {m : Nat} {a b : List Int} (ha : V0 m a) (hb : V0 m b) : V0 m (togM a b) := ⟨by rw [togM_len, ha.1, hb.1]; exact Nat.min_self m, tog_nonneg ha.2 hb.2⟩
theorem FitO.v0 {m : Nat} {o : Ofr} (h : FitO m o) : V0 m o.cont := ⟨h.cont.1, fun x hx => (h.cont.2 x hx).1⟩
theorem V0.fold {m : Nat} {α : Type} {f : α → List Int} : ∀ {ls : List α} {acc : List Int}, V0 m acc → (∀ l ∈ ls, V0 m (f l)) → V0 m (ls.foldl (fun acc l => togM acc (f l)) acc)
  | [], _, h, _ => h
  | l :: r, acc, h, hl => V0.fold (ls := r) (h.tog (hl l List.mem_cons_self)) fun x hx => hl x (List.mem_cons_of_mem _ hx)
theorem cont_v0 {m : Nat} {os : List Ofr} {l : Ln} (ft : FitS m os) (lok : LineOk os l) : V0 m (contM os l) := by
  obtain ⟨p, ep, ways⟩ := lok
  unfold contM
  rcases ways with ⟨c, ts, w1, w0, w2, w3, w4⟩ | ⟨c, pr, w1, w2, w3, w4⟩
  · have hf := (ft _ (List.mem_of_getElem? w1)).v0
    refine V0.fold ⟨?_, fun x hx => ?_⟩ (fun x hx => by rw [w4] at hx; cases hx)
    · rw [List.length_map, ep, contAt_get w1]
      exact hf.1
    · rw [ep, contAt_get w1] at hx
      obtain ⟨y, hy, rfl⟩ := List.mem_map.mp hx
      exact Int.mul_nonneg (by omega) (hf.2 y hy)
  · have hf := (ft _ (List.mem_of_getElem? w1)).v0
    refine V0.fold ⟨?_, fun x hx => ?_⟩ (fun x hx => ?_)
    · rw [List.length_map, ep, contAt_get w1]
      exact hf.1
    · rw [ep, contAt_get w1] at hx
      obtain ⟨y, hy, rfl⟩ := List.mem_map.mp hx
      exact Int.mul_nonneg (by omega) (hf.2 y hy)
    · obtain ⟨j, rfl, c', pr', k, hj⟩ := w4 x hx
      rw [contAt_get hj]
      exact (ft _ (List.mem_of_getElem? hj)).v0
/-! ### bought -/
abbrev s_bought : Stmt := topS 14
abbrev N_bought : List Str := ["shop", "purchase", "content", "price", "line"]
theorem sc_bought : FnScope N_bought ["shop", "purchase"] (defScope s_bought) := ⟨rfl, rfl, rfl, by decide +kernel, rfl, by decide +kernel, by decide +kernel⟩

def zerosM (os : List Ofr) : List Int := match os with
  | [] => []
  | o :: _ => List.replicate o.cont.length 0
def bContM (os : List Ofr) (ls : List Ln) : List Int := ls.foldl (fun acc l => togM acc (contM os l)) (zerosM os)
def bPriceM (os : List Ofr) (ls : List Ln) : Int := (ls.map (priceM os)).sum
theorem bCont_take {os : List Ofr} {ls : List Ln} {i : Nat} {l : Ln} (h : ls[i]? = some l) : bContM os (ls.take (i + 1)) = togM (bContM os (ls.take i)) (contM os l) := by
  unfold bContM
  rw [take_succ_at h, List.foldl_append]
  rfl
theorem bPrice_take {os : List Ofr} {ls : List Ln} {i : Nat} {l : Ln} (h : ls[i]? = some l) : bPriceM os (ls.take (i + 1)) = bPriceM os (ls.take i) + priceM os l := by
  unfold bPriceM
  rw [take_succ_at h, List.map_append, List.sum_append]
  simp
theorem zeros_len {os : List Ofr} (h : Fit os) : (zerosM os).length ≤ 1000 := by
  unfold zerosM
  split
  · simp
  · rw [List.length_replicate]
    exact (h _ List.mem_cons_self).1
theorem bfold_len (os : List Ofr) : ∀ (ls : List Ln) (acc : List Int), (ls.foldl (fun acc l => togM acc (contM os l)) acc).length ≤ acc.length
  | [], _ => Nat.le_refl _
  | l :: r, acc => Nat.le_trans (bfold_len os r _) (by rw [togM_len]; exact Nat.min_le_left _ _)
theorem bCont_len {os : List Ofr} (h : Fit os) (ls : List Ln) : (bContM os ls).length ≤ 1000 := Nat.le_trans (bfold_len os ls _) (zeros_len h)
theorem rep_zeros (n : Nat) : (List.replicate n [V.int 0]).flatten = (List.replicate n (0 : Int)).map V.int := by
  induction n with
  | zero => rfl
  | succ n ih => rw [List.replicate_succ, List.replicate_succ, List.flatten_cons, ih, List.map_cons]; rfl
def sp_bought (T : List Addr) : Sp := fun vs H Q _ => ∃ (a pa : Addr) (os : List Ofr) (las : List Addr) (ls : List Ln), vs = [.ref a, .ref pa] ∧ ShopAt H a os ∧ Good os ∧ Fit os ∧ H pa = some (.lst (las.map V.ref)) ∧ Al (LineAt H) las ls ∧ (∀ l ∈ ls, LineOk os l) ∧ Tb T H ∧
  ∀ H' q r, Ext T H H' → H q = none → H r = none → H' q = some (.tup [.ref r, .int (bPriceM os ls)]) → H' r = some (LI (bContM os ls)) → Q (.ref q) H'
section
variable {P : Program} {w : World} {K : PySem.W.Frag} {mg : Str → Option Value} {base : Heap} {T : List Addr}
theorem ok_bought {f f1 f2 f3 f4 f5 f6 f7 f8 c t c' t' : Addr} {fd fd1 fd2 fd3 fd4 fd5 fd6 fd7 fd8 : FuncData} {k : Nat} (M : Names mg) (D : Def K mg "bought" s_bought ["shop", "purchase"] f fd) (D_look : Def K mg "look" s_look ["shop"] f1 fd1) (D_can_stand : Def K mg "can_stand" s_can_stand ["shop", "at"] f2 fd2) (D_names_pack : Def K mg "names_pack" s_names_pack ["shop", "at"] f3 fd3) (D_good_tiers : Def K mg "good_tiers" s_good_tiers ["tiers"] f4 fd4)
    (hc : fd4.code = .ref c) (TB : GxR.TabB base mg c t) (ht : t ∈ T) (D_content_of : Def K mg "content_of" s_content_of ["shop", "line"] f5 fd5) (D_together : Def K mg "together" s_together ["content", "other"] f6 fd6) (D_price_of : Def K mg "price_of" s_price_of ["shop", "line"] f7 fd7) (hc' : fd7.code = .ref c') (TB' : GxR.TabB base mg c' t') (ht' : t' ∈ T) (D_piece_price : Def K mg "piece_price" s_piece_price ["tiers", "count"] f8 fd8) : FnOk P w K mg base CX0 (k + 4) f fd ["shop", "purchase"] (sp_bought T) := by
  have G_look : FnOk P w K mg base CX0 (k + 3) f1 fd1 ["shop"] (sp_look T) := ok_look M D_look D_can_stand D_names_pack D_good_tiers hc TB ht
  have G_content_of : FnOk P w K mg base CX0 (k + 3) f5 fd5 ["shop", "line"] sp_content_of := ok_content_of M D_content_of D_together
  have G_together : FnOk P w K mg base CX0 (k + 3) f6 fd6 ["content", "other"] sp_together := ok_together M D_together
  have G_price_of : FnOk P w K mg base CX0 (k + 3) f7 fd7 ["shop", "line"] (sp_price_of T) := ok_price_of M D_price_of hc' TB' ht' D_piece_price
  refine D.F.ok sc_bought (fun vs H Q E h => ?_) (fun cdv A outer s H vs Q E hr h => ?_)
  · obtain ⟨a, pa, os, las, ls, rfl, _⟩ := h
    rfl
  · obtain ⟨a, pa, os, las, ls, rfl, hS, gd, fit, hpa, al, lok, hT, q⟩ := h
    refine ⟨_, (pss_cons (ps_expr (pe_call G_look hr (by rfl) D_look.g D_look.F.kp D_look.b .nil pass0 (pa_cons (pv 0) pa_nil)))
  (pss_cutI (ps_set (i := 2) sc_bought.nd rfl (Or.inl rfl) (pe_ifExp (pt_truth (pv 0) (by intro _; rfl)) (pe_op op_rep (pe_lst (pa_cons pe_int pa_nil)) (pe_callB call_len_seq (by rfl) M.len (by decide +kernel) (pa_cons (pe_ix ix_tup (pe_ix ix_list (pv 0) pe_int (fun _ _ => rfl)) pe_int (fun _ _ => rfl)) pa_nil))) (pe_lst pa_nil)))
  (pss_cons (ps_set (i := 3) sc_bought.nd rfl (Or.inl rfl) pe_int)
  (pss_cons (ps_for PassesOwn.never rfl (pi_list (pv 1)) (pg_name (i := 4) sc_bought.nd rfl (Or.inl rfl))
   (pss_cons (ps_set (i := 2) sc_bought.nd rfl (Or.inl rfl) (pe_call G_together hr (by rfl) D_together.g D_together.F.kp D_together.b .nil pass0 (pa_cons (pv 2) (pa_cons (pe_call G_content_of hr (by rfl) D_content_of.g D_content_of.F.kp D_content_of.b .nil pass0 (pa_cons (pv 0) (pa_cons (pv 4) pa_nil))) pa_nil))))
  (pss_one (ps_aug (i := 3) sc_bought.nd rfl (Or.inl rfl) (pe_call G_price_of hr (by rfl) D_price_of.g D_price_of.F.kp D_price_of.b .nil pass0 (pa_cons (pv 0) (pa_cons (pv 4) pa_nil))) ip_add))))
  (pss_one (ps_ret (pe_tup (pa_cons (pv 2) (pa_cons (pv 3) pa_nil))))))))), ?_⟩
    refine ⟨_, rfl, a, os, rfl, hS, gd, hT, fun H1 e1 => ?_⟩
    have hS1 := hS.ext e1
    obtain ⟨vs, h1, h2, h3⟩ := id hS1
    have lal := al.len
    refine ⟨fun σ' H' => ∃ r0 : Addr, σ' = [some (.ref a), some (.ref pa), some (.ref r0), none, none] ∧ Ext T H H' ∧ H r0 = none ∧ H' r0 = some (LI (zerosM os)), ?_, fun σ2 H2 hI => ?_⟩
    · cases os with
      | nil =>
        have ev : vs = [] := List.eq_nil_of_length_eq_zero h2
        subst ev
        refine ⟨_, rfl, false, .inl ⟨_, SqL.of h1, rfl⟩, ?_⟩
        refine ⟨Nat.zero_le _, fun r0 nr0 => ⟨r0, rfl, e1.trans (.same (same_upd nr0) e1.t1), e1.free _ nr0, upd_same⟩⟩
      | cons o rest =>
        obtain ⟨v, o', g1, g2, g3⟩ := ShopAt.get (H := H1) (a := a) h2 (show 0 < (o :: rest).length from Nat.succ_pos _)
        cases Option.some.inj g2
        obtain ⟨b, r, hv, hb⟩ := (h3 0 v o g1 rfl).head
        have hl := (fit o List.mem_cons_self).1
        refine ⟨_, rfl, true, .inl ⟨_, SqL.of h1, ?_⟩, ?_⟩
        · cases vs with
          | nil => cases g1
          | cons x y => rfl
        · refine ⟨by show 1 ≤ sizeLine; decide, fun l0 nl0 => ?_⟩
          have s2 := same_upd (o := .lst [.int 0]) nl0
          refine ⟨_, rfl, a, _, _, _, rfl, rfl, SqL.of (s2 _ _ h1), atI_nat (j := 0) g3, v, _, _, _, rfl, rfl, SqT.of (s2 _ _ hv), atI_nat (j := 1) rfl, b, _, rfl, .inl (SqL.of (s2 _ _ hb)), l0, _, _, rfl, rfl, upd_same, by rw [List.length_map]; omega, by rw [List.length_map]; omega, ?_, fun p np => ?_⟩
          · rw [List.length_map, Int.toNat_natCast]
            exact szL (by show 1 * o.cont.length ≤ _; omega)
          · refine ⟨p, rfl, e1.trans (.same (s2.trans (same_upd np)) e1.t1), e1.free _ (s2.free np), ?_⟩
            rw [upd_same, List.length_map, Int.toNat_natCast, rep_zeros]
            rfl
    · obtain ⟨r0, rfl, e2, nr0, hr0⟩ := hI
      refine ⟨_, rfl, pa, rfl, ⟨_, SqL.of (e2.lst hpa)⟩, for_list (K := K) (a := pa) (xs := las.map V.ref) (fun i σ H' => ∃ (r : Addr) (y4 : Option V), σ = [some (.ref a), some (.ref pa), some (.ref r), some (.int (bPriceM os (ls.take i))), y4] ∧ Ext T H H' ∧ H r = none ∧ H' r = some (LI (bContM os (ls.take i)))) ⟨r0, none, rfl, e2, nr0, hr0⟩ (fun i σ H' _ hp => ?_) (fun i x σ H3 hx hp => ?_) (fun σ H3 hp => ?_)⟩
      · obtain ⟨_, _, _, e3, _⟩ := hp
        exact SqL.of (e3.lst hpa)
      · obtain ⟨r, y4, rfl, e3, nr, hr3⟩ := hp
        rw [List.getElem?_map] at hx
        cases hu : las[i]? with
        | none => rw [hu] at hx; cases hx
        | some u =>
          rw [hu] at hx
          cases Option.some.inj hx
          obtain ⟨l, hl, hul⟩ := al.get hu
          have lk := lok l (List.mem_of_getElem? hl)
          refine ⟨_, rfl, _, rfl, _, rfl, a, u, os, l, rfl, hS.ext e3, hul.ext e3, lk, fit, fun H4 q4 s4 nq4 hq4 => ?_⟩
          refine ⟨r, q4, _, _, rfl, s4 _ _ hr3, hq4, bCont_len fit _, fun H5 q5 s5 nq5 hq5 => ?_⟩
          have e5 : Ext T H H5 := (e3.trans (.same s4 e3.t1)).trans (.same s5 (tb_same s4 e3.t1))
          refine ⟨_, rfl, _, rfl, _, rfl, a, u, os, l, rfl, hS.ext e5, hul.ext e5, lk, fit, e5.t1, fun H6 e6 => ?_⟩
          refine ⟨_, _, rfl, rfl, q5, some (.ref u), ?_, e5.trans e6, e3.free _ (s4.free nq5), ?_⟩
          · rw [bPrice_take hl]
            rfl
          · rw [bCont_take hl]
            exact e6.lst hq5
      · obtain ⟨r, y4, rfl, e3, nr, hr3⟩ := hp
        rw [List.length_map, lal, List.take_length] at hr3 ⊢
        refine ⟨_, rfl, _, rfl, by show 2 ≤ sizeLine; decide, fun p np => ?_⟩
        exact q _ p r (e3.trans (.same (same_upd np) e3.t1)) (e3.free _ np) nr upd_same ((same_upd np) _ _ hr3)
end
/-! ### what is bought, as data -/
def dBought (c : List Int) (p : Int) : PyData := .tuple [dInts c, .int p]
theorem dp_bought {K : PySem.W.Frag} {H : Hp} {q r : Addr} {c : List Int} {p : Int} (h1 : H q = some (.tup [.ref r, .int p])) (h2 : H r = some (LI c)) : Dp K H (.ref q) (dBought c p) := .tup (SqT.of h1) (.cons (dp_ints (SqL.of h2)) (.cons (.int _) .nil))
theorem shaped_bought (c : List Int) (p : Int) : SeqAt.shaped (dBought c p) = true := by
  unfold SeqAt.shaped
  have h1 : PyData.canLay0 (dBought c p) = true := by
    have := lay_ints c
    simp [dBought, PyData.canLayAll0, PyData.canLay0, this]
  have h2 : PyData.depth (dBought c p) ≤ 64 := by
    have := depth_ints c
    simp only [dBought, PyData.depth, PyData.depthAll, this]
    omega
  rw [h1, decide_eq_true h2]
  rfl
theorem tog_zeros : ∀ c : List Int, togM (List.replicate c.length 0) c = c
  | [] => rfl
  | a :: r => by
    have ih := tog_zeros r
    unfold togM at ih ⊢
    rw [List.length_cons, List.replicate_succ, List.zipWith_cons_cons, ih, Int.zero_add]
theorem zerosM_m {m : Nat} {os : List Ofr} (ft : FitS m os) (h : os ≠ []) : zerosM os = List.replicate m 0 := by
  cases os with
  | nil => exact absurd rfl h
  | cons o r =>
    show List.replicate o.cont.length 0 = _
    rw [(ft o List.mem_cons_self).cont.1]
theorem bought_one {m : Nat} {os : List Ofr} {l : Ln} (ft : FitS m os) (lk : LineOk os l) : bContM os [l] = contM os l ∧ bPriceM os [l] = priceM os l := by
  have v := cont_v0 ft lk
  have ne : os ≠ [] := by
    rintro rfl
    obtain ⟨p, _, w⟩ := lk
    rcases w with ⟨_, _, h, _⟩ | ⟨_, _, h, _⟩ <;> simp at h
  constructor
  · show togM (zerosM os) (contM os l) = _
    rw [zerosM_m ft ne, ← v.1]
    exact tog_zeros _
  · show (priceM os l + 0 : Int) = _
    omega
/-! ### more of lists and lines -/
theorem cut_toV (l : List V) (k : Nat) : cutV l none (some (k : Int)) = l.take k := by
  unfold cutV
  rw [HT.sIx_nat, HT.sIx_none, List.drop_zero, Nat.sub_zero]
  exact (List.take_eq_take_iff).mpr (by omega)
theorem LineF.cut {H0 H : Hp} {d a : Addr} {l : Ln} (h : LineF H0 H a l) (hd : H0 d ≠ none) : LineAt (cutH d H) a l := by
  obtain ⟨b, h1, h2, h3, h4⟩ := h
  exact ⟨b, cut_put (fun z => hd (by rw [← z]; exact h3)) h1, cut_put (fun z => hd (by rw [← z]; exact h4)) h2⟩
theorem eqv_lines_nil (ls : List Ln) : PyData.eqv (dLines ls) (.list []) = decide (ls = []) := by
  cases ls with
  | nil => simp [PyData.eqv, PyData.eqvAll]
  | cons a r => simp [PyData.eqv, PyData.eqvAll]
theorem Al.take {α : Type} {R : Addr → α → Prop} : ∀ {as : List Addr} {xs : List α} (n : Nat), Al R as xs → Al R (as.take n) (xs.take n)
  | _, _, 0, _ => True.intro
  | [], [], _ + 1, _ => True.intro
  | [], _ :: _, _, h => h.elim
  | _ :: _, [], _, h => h.elim
  | _ :: _, _ :: _, n + 1, h => ⟨h.1, Al.take n h.2⟩
theorem Al.rev {α : Type} {R : Addr → α → Prop} : ∀ {as : List Addr} {xs : List α}, Al R as xs → Al R as.reverse xs.reverse
  | [], [], _ => True.intro
  | [], _ :: _, h => h.elim
  | _ :: _, [], h => h.elim
  | _ :: _, _ :: _, h => by
    rw [List.reverse_cons, List.reverse_cons]
    exact Al.app (Al.rev h.2) (.one h.1)
/-! ### sorted(xs) of data -/
theorem vals_refs : ∀ {as : List Addr} {its : List Value}, Vals (as.map V.ref) its → its = as.map Value.ref
  | [], _, h => by cases h; rfl
  | a :: r, _, h => by
    cases h with
    | cons h1 h2 =>
      cases h1
      rw [vals_refs h2]
      rfl
theorem refs_vals : ∀ (as : List Addr), Vals (as.map V.ref) (as.map Value.ref)
  | [] => .nil
  | a :: r => .cons rfl (refs_vals r)
theorem each_of {β : Type} {R : Addr → β → Prop} : ∀ {as : List Addr} {bs : List β}, Al R as bs → PySem.W.EachIs (fun v b => ∃ u, v = Value.ref u ∧ R u b) (as.map Value.ref) bs
  | [], [], _ => .nil
  | [], _ :: _, h => h.elim
  | _ :: _, [], h => h.elim
  | a :: _, _ :: _, h => .cons ⟨a, rfl, h.1⟩ (each_of h.2)
theorem of_each {β : Type} {R : Addr → β → Prop} : ∀ {out : List Value} {bs : List β}, PySem.W.EachIs (fun v b => ∃ u, v = Value.ref u ∧ R u b) out bs → ∃ as : List Addr, out = as.map Value.ref ∧ Al R as bs
  | _, _, .nil => ⟨[], rfl, True.intro⟩
  | _, _, .cons ⟨u, e, h⟩ t => by
    obtain ⟨as, e2, h2⟩ := of_each t
    exact ⟨u :: as, by rw [e, e2]; rfl, h, h2⟩
theorem al_zip {β : Type} {R : Addr → β → Prop} {Z : List (Addr × β)} : ∀ {as : List Addr} {bs : List β}, Al R as bs → (∀ q ∈ as.zip bs, q ∈ Z) → Al (fun u b => (u, b) ∈ Z) as bs
  | [], [], _, _ => True.intro
  | [], _ :: _, h, _ => h.elim
  | _ :: _, [], h, _ => h.elim
  | a :: as, b :: bs, h, z => ⟨z _ (by rw [List.zip_cons_cons]; exact List.mem_cons_self), al_zip h.2 fun q hq => z q (by rw [List.zip_cons_cons]; exact List.mem_cons_of_mem _ hq)⟩
theorem zip_al {β : Type} {R : Addr → β → Prop} : ∀ {as : List Addr} {bs : List β}, Al R as bs → ∀ u b, (u, b) ∈ as.zip bs → R u b
  | [], [], _, _, _, m => by simp at m
  | [], _ :: _, h, _, _, _ => h.elim
  | _ :: _, [], h, _, _, _ => h.elim
  | a :: as, b :: bs, h, u, c, m => by
    rw [List.zip_cons_cons] at m
    rcases List.mem_cons.mp m with e | m
    · cases e
      exact h.1
    · exact zip_al h.2 u c m
def rSortedD {β : Type} (K : PySem.W.Frag) (enc : β → PyData) : List V → Hp → VK → Prop := fun vs H Q => ∃ (a : Addr) (as : List Addr) (bs : List β), vs = [V.ref a] ∧ SqL K H a (as.map V.ref) ∧ Al (fun u b => Dp K H (.ref u) (enc b)) as bs ∧ PySem.W.AllAlike (bs.map enc) ∧ PySem.W.Sortable (bs.map enc) ∧ (∀ b ∈ bs, (enc b).depth ≤ 8) ∧
  ∀ (as' : List Addr) (p : Addr), H p = none → Al (fun u b => (u, b) ∈ as.zip bs) as' (bs.mergeSort (PySem.W.dataLe false enc)) → Q (.ref p) (upd H p (.lst (as'.map V.ref)))
theorem cr_sortedD {β : Type} {X : Cx} {enc : β → PyData} (hu : X.A.units + 64 < cLine) : CallR X (.builtin "sorted") (rSortedD X.K enc) := by
  intro pins s σ H vs us Q I r h
  obtain ⟨a, as, bs, rfl, hs, al, hal, hk, hd, q⟩ := h
  obtain ⟨its, rv, hl, hz⟩ := I.list hs
  rw [Vals.ref1 r]
  have e := vals_refs rv
  subst e
  have lal := al.len
  rw [List.length_map] at hz
  refine PySem.W.sorted_data (R := fun v b => ∃ u, v = Value.ref u ∧ (u, b) ∈ as.zip bs) (enc := enc) (bs := bs) hl.isList (each_of (al_zip al fun _ m => m)) (PySem.W.EachIs.mono (fun v b h => ?_) (each_of al)) hal hk (by omega) (fun b hb => ?_) (fun out ho eo => ?_)
  · obtain ⟨u, rfl, hu⟩ := h
    exact Dp.reads I _ _ _ hu rfl
  · have := hd b hb
    omega
  · obtain ⟨as', rfl, al'⟩ := of_each eo
    obtain ⟨ep, he'⟩ := PyProof.Rows.sortedAll_at s.heap (as.map Value.ref) (as'.map Value.ref).toArray
    have hlen : (as'.map V.ref).length ≤ sizeLine := by
      rw [List.length_map] at ho ⊢
      omega
    exact ⟨.ref _, upd H (s.heap.objs.size + 1) (.lst (as'.map V.ref)), I.laid (t' := s.toks) (fun _ _ => PyProof.Rows.sortedAll_old) (Nat.le_succ _) ⟨hlen, _, ep, refs_vals as', he'⟩, rfl, q _ _ (I.hok.fresh (Nat.le_succ _)) al'⟩
/-! ### the mathematics of choices -/
def selM : List Int → Nat → List Int
  | [], _ => []
  | p :: ps, b => if b % 2 = 1 then p :: selM ps (b / 2) else selM ps (b / 2)
def selN (ps : List Int) (b n : Nat) : List Int := ((List.range n).filter fun i => decide (b / 2 ^ i % 2 = 1)).map fun i => ps.getD i 0
def subsM (ps : List Int) : List (List Int) := (List.range (2 ^ ps.length)).map (selM ps)
theorem selN_all : ∀ (ps : List Int) (b : Nat), selN ps b ps.length = selM ps b
  | [], _ => rfl
  | p :: ps, b => by
    have ih := selN_all ps (b / 2)
    unfold selN at ih ⊢
    rw [List.length_cons, List.range_succ_eq_map, List.filter_cons, List.filter_map]
    have e : ((fun i => decide (b / 2 ^ i % 2 = 1)) ∘ Nat.succ) = fun i => decide (b / 2 / 2 ^ i % 2 = 1) := by
      funext i
      show decide (b / 2 ^ (i + 1) % 2 = 1) = _
      rw [Nat.pow_succ, Nat.mul_comm, Nat.div_div_eq_div_mul]
    rw [e]
    have t : List.map (fun i => (p :: ps).getD i 0) (List.map Nat.succ ((List.range ps.length).filter fun i => decide (b / 2 / 2 ^ i % 2 = 1))) = selM ps (b / 2) := by
      rw [List.map_map, ← ih]
      rfl
    show List.map _ (if decide (b / 2 ^ 0 % 2 = 1) = true then _ else _) = if b % 2 = 1 then _ else _
    rw [Nat.pow_zero, Nat.div_one]
    by_cases z : b % 2 = 1
    · rw [if_pos (decide_eq_true z), if_pos z, List.map_cons, t]
      rfl
    · rw [if_neg (by rw [decide_eq_true_eq]; exact z), if_neg z, t]
theorem selN_yes {ps : List Int} {b n : Nat} (h : b / 2 ^ n % 2 = 1) : selN ps b (n + 1) = selN ps b n ++ [ps.getD n 0] := by
  unfold selN
  rw [List.range_succ, List.filter_append, List.map_append]
  simp [h]
theorem selN_no {ps : List Int} {b n : Nat} (h : ¬ b / 2 ^ n % 2 = 1) : selN ps b (n + 1) = selN ps b n := by
  unfold selN
  rw [List.range_succ, List.filter_append, List.map_append]
  simp [h]
theorem selN_len (ps : List Int) (b n : Nat) : (selN ps b n).length ≤ n := by
  unfold selN
  rw [List.length_map]
  exact Nat.le_trans (List.length_filter_le _ _) (by rw [List.length_range]; exact Nat.le_refl _)
theorem selM_zero : ∀ ps : List Int, selM ps 0 = []
  | [] => rfl
  | _ :: ps => by
    show (if 0 % 2 = 1 then _ else selM ps (0 / 2)) = []
    rw [if_neg (by decide)]
    exact selM_zero ps
theorem range_two {α : Type} (f : Nat → α) : ∀ n : Nat, ((List.range (2 * n)).map f).Perm ((List.range n).map (fun j => f (2 * j)) ++ (List.range n).map (fun j => f (2 * j + 1)))
  | 0 => by simp
  | n + 1 => by
    have ih := range_two f n
    rw [show 2 * (n + 1) = 2 * n + 1 + 1 by omega, List.range_succ, List.range_succ, List.range_succ, List.map_append, List.map_append, List.map_append, List.map_append]
    simp only [List.map_cons, List.map_nil]
    refine ((ih.append_right _).append_right _).trans ?_
    rw [List.append_assoc, List.append_assoc, List.append_assoc]
    refine List.Perm.append_left _ ?_
    rw [← List.append_assoc, ← List.append_assoc]
    exact List.perm_append_comm.append_right _
theorem choices_head : ∀ ps : List Int, choicesM ps = [] :: (choicesM ps).tail
  | [] => rfl
  | _ :: _ => rfl
theorem subs_perm : ∀ ps : List Int, (subsM ps).Perm (choicesM ps)
  | [] => .refl _
  | p :: ps => by
    have ih := subs_perm ps
    have h1 : (subsM (p :: ps)).Perm (subsM ps ++ (subsM ps).map (p :: ·)) := by
      unfold subsM
      rw [List.length_cons, Nat.pow_succ, Nat.mul_comm]
      refine (range_two _ _).trans ?_
      rw [List.map_map]
      refine .of_eq ?_
      congr 1
      · refine List.map_congr_left fun j _ => ?_
        show (if 2 * j % 2 = 1 then _ else selM ps (2 * j / 2)) = _
        rw [if_neg (by omega), show 2 * j / 2 = j by omega]
      · refine List.map_congr_left fun j _ => ?_
        show (if (2 * j + 1) % 2 = 1 then p :: selM ps ((2 * j + 1) / 2) else _) = p :: selM ps j
        rw [if_pos (by omega), show (2 * j + 1) / 2 = j by omega]
    refine h1.trans ((ih.append (ih.map _)).trans ?_)
    show (choicesM ps ++ (choicesM ps).map (p :: ·)).Perm (([[]] ++ (choicesM ps).map (p :: ·)) ++ (choicesM ps).tail)
    rw [List.append_assoc]
    refine (List.Perm.append_right _ (.of_eq (choices_head ps))).trans ?_
    rw [List.cons_append]
    exact (List.perm_append_comm).cons _
theorem choices_tail : ∀ {ps c : List Int}, c ∈ (choicesM ps).tail → ∃ q r, c = q :: r ∧ q ∈ ps
  | [], c, h => by cases h
  | p :: ps, c, h => by
    have h' : c ∈ (choicesM ps).map (p :: ·) ++ (choicesM ps).tail := h
    rcases List.mem_append.mp h' with h' | h'
    · obtain ⟨d, _, rfl⟩ := List.mem_map.mp h'
      exact ⟨p, d, rfl, List.mem_cons_self⟩
    · obtain ⟨q, r, e, m⟩ := choices_tail h'
      exact ⟨q, r, e, List.mem_cons_of_mem _ m⟩
theorem choices_sorted : ∀ {ps : List Int}, ps.Pairwise (· < ·) → (choicesM ps).Pairwise (· ≤ ·)
  | [], _ => by
    show [([] : List Int)].Pairwise (· ≤ ·)
    simp
  | p :: ps, h => by
    obtain ⟨h1, h2⟩ := List.pairwise_cons.mp h
    have ih := choices_sorted h2
    show (([[]] ++ (choicesM ps).map (p :: ·)) ++ (choicesM ps).tail).Pairwise (· ≤ ·)
    rw [List.append_assoc, List.singleton_append, List.pairwise_cons]
    refine ⟨fun x _ => List.nil_le x, List.pairwise_append.mpr ⟨?_, ?_, ?_⟩⟩
    · rw [List.pairwise_map]
      exact ih.imp fun h => List.cons_le_cons_iff.mpr (.inr ⟨rfl, h⟩)
    · rw [choices_head ps] at ih
      exact (List.pairwise_cons.mp ih).2
    · intro x hx y hy
      obtain ⟨d, _, rfl⟩ := List.mem_map.mp hx
      obtain ⟨q, r, rfl, m⟩ := choices_tail hy
      exact List.cons_le_cons_iff.mpr (.inl (h1 q m))
theorem subs_sort {ps : List Int} (h : ps.Pairwise (· < ·)) : (subsM ps).mergeSort (PySem.W.dataLe false fun r : List Int => PyData.list (r.map PyData.int)) = choicesM ps := by
  rw [PySem.W.dataLe_rows (fun r : List Int => r)]
  have hs := List.pairwise_mergeSort (le := fun p q : List Int => decide (p ≤ q)) (fun a b c h1 h2 => decide_eq_true (List.le_trans (of_decide_eq_true h1) (of_decide_eq_true h2))) (fun a b => by
    rcases List.le_total a b with z | z
    · rw [decide_eq_true z]
      rfl
    · rw [decide_eq_true z, Bool.or_true]) (subsM ps)
  refine List.Perm.eq_of_pairwise (le := fun a b : List Int => a ≤ b) (fun a b _ _ h1 h2 => List.le_antisymm h1 h2) (hs.imp fun h => of_decide_eq_true h) (choices_sorted h) ((List.mergeSort_perm _ _).trans (subs_perm ps))
theorem adds_rise (os : List Ofr) (p : Int) (n : Nat) : (addsN os p n).Pairwise (· < ·) := by
  unfold addsN
  rw [List.pairwise_map]
  refine List.Pairwise.imp ?_ (List.Pairwise.filter _ (List.pairwise_lt_range (n := n)))
  intro a b h
  omega
/-! ### _law_subsets -/
abbrev s_law_subsets : Stmt := topS 27
abbrev N_law_subsets : List Str := ["_law_places", "_law_found", "_law_number", "_law_k"]
theorem sc_law_subsets : FnScope N_law_subsets ["_law_places"] (defScope s_law_subsets) := ⟨rfl, rfl, rfl, by decide +kernel, rfl, by decide +kernel, by decide +kernel⟩

def sp_subsets : Sp := fun vs H Q _ => ∃ (a : Addr) (ps : List Int), vs = [.ref a] ∧ H a = some (LI ps) ∧ ps.length ≤ 8 ∧ ps.Pairwise (· < ·) ∧ ∀ H' q (as : List Addr), Same H H' → H q = none → H' q = some (.lst (as.map V.ref)) → Al (RowF H H') as (choicesM ps) → Q (.ref q) H'
theorem sel_range (ps : List Int) (i : Nat) : (List.range (i + 1 + 1)).map (selM ps) = (List.range (i + 1)).map (selM ps) ++ [selM ps (i + 1)] := by
  rw [List.range_succ (n := i + 1), List.map_append]
  rfl
theorem dpAl_rows {K : PySem.W.Frag} {H0 H : Hp} {F : Addr} {as : List Addr} {rs : List (List Int)} (h : Al (RowB H0 H F) as rs) : Al (fun u (r : List Int) => Dp K H (.ref u) (.list (r.map PyData.int))) as rs := h.imp fun u r h => dp_ints (SqL.of h.1)
theorem bit_at (i j : Nat) : (Builtin.bitAnd ((1 + (i : Int)) / 2 ^ ((0 : Int) + (j : Int)).toNat) 1 = 1) ↔ (i + 1) / 2 ^ j % 2 = 1 := by
  rw [PyProof.Rows.bitAnd_m1, Int.zero_add, Int.toNat_natCast, show 1 + (i : Int) = ((i + 1 : Nat) : Int) by omega]
  norm_cast
section
variable {P : Program} {w : World} {K : PySem.W.Frag} {mg : Str → Option Value} {base : Heap}
theorem ok_subsets {f : Addr} {fd : FuncData} {k : Nat} (M : Names mg) (D : Def K mg "_law_subsets" s_law_subsets ["_law_places"] f fd) : FnOk P w K mg base CX0 (k + 1) f fd ["_law_places"] sp_subsets := by
  refine D.F.ok sc_law_subsets (fun vs H Q E h => ?_) (fun cdv A outer s H vs Q E hr h => ?_)
  · obtain ⟨a, ps, rfl, _⟩ := h
    rfl
  · obtain ⟨a, ps, rfl, ha, h8, rise, q⟩ := h
    refine ⟨_, (pss_cons (ps_set (i := 1) sc_law_subsets.nd rfl (Or.inl rfl) (pe_lst (pa_cons (pe_lst pa_nil) pa_nil)))
  (pss_cons (ps_for PassesOwn.never rfl (pi_range2 (by rfl) M.range (pa_cons pe_int (pa_cons (pe_op op_shl pe_int (pe_callB call_len_seq (by rfl) M.len (by decide +kernel) (pa_cons (pv 0) pa_nil))) pa_nil))) (pg_name (i := 2) sc_law_subsets.nd rfl (Or.inr rfl))
   (pss_one (ps_expr (pe_bm PySem.F.plainAttrs_list PySem.F.slot_list_append PySem.F.type_list_append mt_append (pv 1) (pa_cons (pe_lc (own := [("_law_k", 3)]) (by rfl) sc_law_subsets.nd (pi_range1 (by rfl) M.range (pa_cons (pe_callB call_len_seq (by rfl) M.len (by decide +kernel) (pa_cons (pv 0) pa_nil)) pa_nil)) (blkOk_by (own := [("_law_k", 3)]) (N := N_law_subsets) (sc := defScope s_law_subsets) (by decide +kernel)) (fun _ _ _ _ _ => (pg_name (i := 3) sc_law_subsets.nd rfl (Or.inl rfl))) (fun _ _ _ _ _ => (pts_one (pt_cmpR op_eq (pe_op op_and (pe_op op_shr (pv 2) (pv 3)) pe_int) pe_int (nomark _)))) (fun _ _ _ _ _ => (pe_ix (ix_listK (K := K) rfl) (pv 0) (pv 3) (fun _ _ => rfl)))) pa_nil)))))
  (pss_one (ps_ret (pe_callB (cr_sortedD (enc := fun r : List Int => PyData.list (r.map PyData.int)) hr.units) (by rfl) M.sorted (by decide +kernel) (pa_cons (pv 1) pa_nil)))))), ?_⟩
    refine ⟨Nat.zero_le _, fun e ne => ⟨by show 1 ≤ sizeLine; decide, fun F nF => ?_⟩⟩
    have neF : e ≠ F := ne_of_none upd_same nF
    have s1 : Same H (upd (upd H e (.lst [])) F (.lst [.ref e])) := (same_upd ne).trans (same_upd nF)
    have nFH : H F = none := (same_upd ne).free nF
    have hF1 : upd (upd H e (.lst [])) F (.lst [.ref e]) F = some (.lst [.ref e]) := upd_same
    have he1 : upd (upd H e (.lst [])) F (.lst [.ref e]) e = some (LI []) := by rw [upd_ne neF]; exact upd_same
    generalize upd (upd H e (.lst [])) F (.lst [.ref e]) = H1 at s1 hF1 he1 ⊢
    have p2 : 2 ^ ps.length ≤ 256 := Nat.le_trans (Nat.pow_le_pow_right (by decide) h8) (by decide)
    have p1 : 1 ≤ 2 ^ ps.length := Nat.pow_pos (by decide)
    have ep : (1 : Int) * 2 ^ (((ps.map V.int).length : Nat) : Int).toNat = ((2 ^ ps.length : Nat) : Int) := by
      rw [Int.toNat_natCast, List.length_map, Int.one_mul]
      norm_cast
    refine ⟨_, rfl, a, _, rfl, .inl (SqL.of (s1 _ _ ha)), _, _, rfl, rfl, ⟨by omega, by rw [List.length_map]; omega, by decide⟩, 1, ((2 ^ ps.length : Nat) : Int), (by show [V.int 1, V.int (1 * 2 ^ (((ps.map V.int).length : Nat) : Int).toNat)] = _; rw [ep]), ⟨by decide, by decide, by omega, by omega⟩, for_range (lo := 1) (n := (((2 ^ ps.length : Nat) : Int) - 1).toNat) (fun i σ H' => ∃ y2, σ = [some (.ref a), some (.ref F), y2, none] ∧ Same H H' ∧ ∃ as : List Addr, H' F = some (.lst (as.map V.ref)) ∧ Al (RowB H H' F) as ((List.range (i + 1)).map (selM ps))) ⟨none, rfl, s1, [e], hF1, ?_⟩ (fun i σ H2 hi hp => ?_) (fun σ H2 hp => ?_)⟩
    · show Al _ [e] [selM ps 0]
      rw [selM_zero]
      exact .one ⟨he1, ne, neF⟩
    · obtain ⟨y2, rfl, s2, as, hF2, al⟩ := hp
      have lal := al.len
      rw [List.length_map, List.length_range] at lal
      have ha2 := s2 _ _ ha
      refine ⟨_, rfl, .inl ⟨rfl, _, SqL.of hF2⟩, _, rfl, a, _, rfl, .inl (SqL.of ha2), _, rfl, by rw [List.length_map]; omega, by rw [List.length_map]; omega, fun B nB => lc_range (lo := 0) (n := ((ps.map V.int).length : Int).toNat) (fun j H' => Same H2 H' ∧ H' B = some (LI (selN ps (i + 1) j))) ⟨same_upd nB, upd_same⟩ (fun j H3 hj hJ => ?_) (fun H3 hJ => ?_)⟩
      · obtain ⟨s3, hB⟩ := hJ
        rw [Int.toNat_natCast, List.length_map] at hj
        have nlen := selN_len ps (i + 1) j
        refine ⟨rfl, _, rfl, _, rfl, _, _, rfl, rfl, by omega, _, _, rfl, rfl, rfl, _, rfl, ite2 (fun z => ?_) (fun z => ?_)⟩
        · have z2 : (i + 1) / 2 ^ j % 2 = 1 := (bit_at i j).mp (V.int.inj (of_decide_eq_true z))
          refine ⟨_, rfl, _, rfl, a, _, _, _, rfl, rfl, SqL.of (s3 _ _ ha2), at_of (Int.zero_add _) (getD_ints hj), _, hB, szL' (by rw [List.length_map]; omega), sm_new s3 nB, ?_⟩
          rw [selN_yes z2, show ps.getD j 0 = ps[j] by rw [List.getD_eq_getElem?_getD, List.getElem?_eq_getElem hj]; rfl]
          exact at_app
        · have z2 : ¬ (i + 1) / 2 ^ j % 2 = 1 := fun y => z (decide_eq_true (congrArg V.int ((bit_at i j).mpr y)))
          exact ⟨s3, by rw [selN_no z2]; exact hB⟩
      · obtain ⟨s3, hB⟩ := hJ
        rw [Int.toNat_natCast, List.length_map, selN_all] at hB
        have nBF : B ≠ F := fun z => by rw [z, hF2] at nB; cases nB
        refine ⟨F, _, _, rfl, rfl, s3 _ _ hF2, szL' (by rw [List.length_map]; omega), some (.int (1 + (i : Nat))), rfl, sm_new (s2.trans s3) nFH, as ++ [B], ?_, ?_⟩
        · rw [upd_same, List.map_append]
          rfl
        · rw [sel_range]
          refine Al.app (al.imp fun l x h => h.keep ((SameBut.of s3).trans .upd)) (.one ⟨?_, s2.free nB, nBF⟩)
          rw [upd_ne nBF]
          exact hB
    · obtain ⟨y2, rfl, s2, as, hF2, al⟩ := hp
      rw [show (((2 ^ ps.length : Nat) : Int) - 1).toNat + 1 = 2 ^ ps.length by omega] at al
      refine ⟨_, rfl, F, as, subsM ps, rfl, SqL.of hF2, dpAl_rows al, PySem.W.AllAlike.of fun x y => ?_, PySem.W.Sortable.others fun x => ⟨fun z => (nomatch z), fun xs z => (nomatch z)⟩, fun b _ => ?_, fun as' p np al' => ?_⟩
      · show PySem.W.alike (.list _) (.list _) = true
        simp only [PySem.W.alike]
        exact PySem.W.alike_ints x y
      · show PyData.depth (.list (b.map PyData.int)) ≤ 8
        simp only [PyData.depth]
        rw [depth_ints]
        decide
      · rw [subs_sort rise] at al'
        refine q _ p as' (s2.trans (same_upd np)) (s2.free np) upd_same (al'.imp fun u r m => ?_)
        have h := zip_al al u r m
        exact ⟨(same_upd np) _ _ h.1, h.2.1⟩
end
/-! ### _law_lines -/
abbrev s_law_lines : Stmt := topS 28
abbrev N_law_lines : List Str := ["_law_shop_here", "_law_found", "_law_place", "_law_adds", "_law_k", "_law_count", "_law_some"]
theorem sc_law_lines : FnScope N_law_lines ["_law_shop_here"] (defScope s_law_lines) := ⟨rfl, rfl, rfl, by decide +kernel, rfl, by decide +kernel, by decide +kernel⟩

theorem LineF.keep {H0 H H' : Hp} {a : Addr} {l : Ln} (s : Same H H') (h : LineF H0 H a l) : LineF H0 H' a l := by
  obtain ⟨b, h1, h2, h3, h4⟩ := h
  exact ⟨b, s _ _ h1, s _ _ h2, h3, h4⟩
def sp_lawlines : Sp := fun vs H Q _ => ∃ (a : Addr) (os : List Ofr), vs = [.ref a] ∧ ShopAt H a os ∧ os.length ≤ 8 ∧ ∀ H' q, Same H H' → H q = none → LinesF H H' q (linesM os) → Q (.ref q) H'
section
variable {P : Program} {w : World} {K : PySem.W.Frag} {mg : Str → Option Value} {base : Heap}
theorem ok_lawlines {f f1 : Addr} {fd fd1 : FuncData} {k : Nat} (M : Names mg) (D : Def K mg "_law_lines" s_law_lines ["_law_shop_here"] f fd) (D_law_subsets : Def K mg "_law_subsets" s_law_subsets ["_law_places"] f1 fd1) : FnOk P w K mg base CX0 (k + 2) f fd ["_law_shop_here"] sp_lawlines := by
  have G_law_subsets : FnOk P w K mg base CX0 (k + 1) f1 fd1 ["_law_places"] sp_subsets := ok_subsets M D_law_subsets
  refine D.F.ok sc_law_lines (fun vs H Q E h => ?_) (fun cdv A outer s H vs Q E hr h => ?_)
  · obtain ⟨a, os, rfl, _⟩ := h
    rfl
  · obtain ⟨a, os, rfl, hS, h8, q⟩ := h
    obtain ⟨vs, h1, h2, h3⟩ := id hS
    refine ⟨_, (pss_cons (ps_set (i := 1) sc_law_lines.nd rfl (Or.inl rfl) (pe_lst pa_nil))
  (pss_cons (ps_for PassesOwn.never rfl (pi_range1 (by rfl) M.range (pa_cons (pe_callB call_len_seq (by rfl) M.len (by decide +kernel) (pa_cons (pv 0) pa_nil)) pa_nil)) (pg_name (i := 2) sc_law_lines.nd rfl (Or.inr rfl))
   (pss_cons (ps_if (pt_cmpR op_eq (pe_ix ix_tup (pe_ix ix_list (pv 0) (pv 2) (fun _ _ => rfl)) pe_int (fun _ _ => rfl)) pe_str (nomark _))
   (pss_one (ps_set (i := 1) sc_law_lines.nd rfl (Or.inl rfl) (pe_op op_cat (pv 1) (pe_lc (own := [("_law_count", 5)]) (by rfl) sc_law_lines.nd (pi_range2 (by rfl) M.range (pa_cons pe_int (pa_cons pe_int pa_nil))) (blkOk_by (own := [("_law_count", 5)]) (N := N_law_lines) (sc := defScope s_law_lines) (by decide +kernel)) (fun _ _ _ _ _ => (pg_name (i := 5) sc_law_lines.nd rfl (Or.inl rfl))) (fun _ _ _ _ _ => pts_nil) (fun _ _ _ _ _ => (pe_tup (pa_cons (pv 2) (pa_cons (pv 5) (pa_cons (pe_lst pa_nil) pa_nil)))))))))
   pss_nil)
  (pss_one (ps_if (pt_cmpR op_eq (pe_ix ix_tup (pe_ix ix_list (pv 0) (pv 2) (fun _ _ => rfl)) pe_int (fun _ _ => rfl)) pe_str (nomark _))
   (pss_cons (ps_setLc (i := 3) (own := [("_law_k", 4)]) (by rfl) sc_law_lines.nd rfl rfl (sw_true rfl rfl rfl (by decide +kernel)) (pi_range1 (by rfl) M.range (pa_cons (pe_callB call_len_seq (by rfl) M.len (by decide +kernel) (pa_cons (pv 0) pa_nil)) pa_nil)) (blkOk_by (own := [("_law_k", 4)]) (N := N_law_lines) (sc := defScope s_law_lines) (by decide +kernel)) (fun _ _ _ _ _ => (pg_name (i := 4) sc_law_lines.nd rfl (Or.inl rfl))) (fun _ _ _ _ _ => (pts_one (PW.pt (pw_and (pt_cmpR op_eq (pe_ix (ix_tupK (K := K) rfl) (pe_ix (ix_listK (K := K) rfl) (pv 0) (pv 4) (fun _ _ => rfl)) pe_int (fun _ _ => rfl)) pe_str (nomark _)) (pw_and1 (pt_cmpR op_eq (pe_ix (ix_tupK (K := K) rfl) (pe_ix (ix_listK (K := K) rfl) (pv 0) (pv 4) (fun _ _ => rfl)) pe_int (fun _ _ => rfl)) (pv 2) (nomark _))))))) (fun _ _ _ _ _ => (pv 4)))
  (pss_one (ps_set (i := 1) sc_law_lines.nd rfl (Or.inl rfl) (pe_op op_cat (pv 1) (pe_lc (own := [("_law_some", 6)]) (by rfl) sc_law_lines.nd (pi_list (pe_call G_law_subsets hr (by rfl) D_law_subsets.g D_law_subsets.F.kp D_law_subsets.b .nil pass0 (pa_cons (pv 3) pa_nil))) (blkOk_by (own := [("_law_some", 6)]) (N := N_law_lines) (sc := defScope s_law_lines) (by decide +kernel)) (fun _ _ _ _ _ => (pg_name (i := 6) sc_law_lines.nd rfl (Or.inl rfl))) (fun _ _ _ _ _ => pts_nil) (fun _ _ _ _ _ => (pe_tup (pa_cons (pv 2) (pa_cons pe_int (pa_cons (pv 6) pa_nil))))))))))
   pss_nil))))
  (pss_one (ps_ret (pv 1))))), ?_⟩
    refine ⟨Nat.zero_le _, fun F0 nF0 => ?_⟩
    have s0 := same_upd (o := .lst []) nF0
    refine ⟨_, rfl, a, _, rfl, .inl (SqL.of (s0 _ _ h1)), _, rfl, by rw [List.length_map]; omega, by rw [List.length_map]; omega, for_range (n := ((vs.map V.ref).length : Int).toNat) (fun i σ H' => ∃ (F : Addr) (y2 y3 : Option V), σ = [some (.ref a), some (.ref F), y2, y3, none, none, none] ∧ Same H H' ∧ H F = none ∧ LinesF H H' F ((List.range i).flatMap (linesAtM os))) ⟨F0, none, none, rfl, s0, nF0, [], upd_same, True.intro⟩ (fun i σ H2 hi hp => ?_) (fun σ H2 hp => ?_)⟩
    · obtain ⟨F, y2, y3, rfl, s2, nF, as, hF, al⟩ := hp
      have hi2 : i < os.length := by rw [Int.toNat_natCast, List.length_map] at hi; omega
      have tot := linesN_len h8 i
      have one := linesAtM_len h8 i
      have lal := al.len
      obtain ⟨v, o, g1, g2, g3⟩ := ShopAt.get (H := H) (a := a) h2 hi2
      have ho := (h3 i v o g1 g2).same s2
      have h12 := s2 _ _ h1
      have z0 : (0 : Int) + (i : Nat) = (i : Int) := Int.zero_add _
      cases o with
      | many c ts =>
        obtain ⟨b, t', hb, _⟩ := ho
        have em : linesAtM os i = (List.range 12).map fun j => ⟨i, 1 + (j : Nat), []⟩ := by unfold linesAtM; rw [g2]
        refine ⟨_, rfl, _, rfl, a, _, _, _, rfl, rfl, SqL.of h12, at_of z0 g3, v, _, _, _, rfl, rfl, SqT.of hb, atI_nat (j := 0) rfl, rfl, true, rfl, ?_⟩
        refine ⟨_, rfl, 1, 13, rfl, ⟨by decide, by decide, by decide, by decide⟩, fun C nC => lc_range (lo := 1) (n := 12) (fun j H' => Same H2 H' ∧ ∃ ls : List Addr, H' C = some (.lst (ls.map V.ref)) ∧ Al (LineB H H' C) ls ((List.range j).map fun j => ⟨i, 1 + (j : Nat), []⟩)) ⟨same_upd nC, [], upd_same, True.intro⟩ (fun j H3 hj hI => ?_) (fun H3 hI => ?_)⟩
        · obtain ⟨s3, ls, hC, all⟩ := hI
          refine ⟨rfl, _, rfl, _, rfl, Nat.zero_le _, fun u nu => ⟨by show 3 ≤ sizeLine; decide, fun t nt => ?_⟩⟩
          have nuB : u ≠ C := fun z => by
            rw [z, hC] at nu
            cases nu
          have hB1 : upd H3 u (.lst []) C = some (.lst (ls.map V.ref)) := (same_upd nu) _ _ hC
          have ntB : t ≠ C := fun z => by
            rw [z, hB1] at nt
            cases nt
          have ntu : u ≠ t := ne_of_none upd_same nt
          have s4 : Same H3 (upd (upd H3 u (.lst [])) t (.tup [.int (0 + (i : Nat)), .int (1 + (j : Nat)), .ref u])) := (same_upd nu).trans (same_upd nt)
          have lls := all.len
          rw [List.length_map, List.length_range] at lls
          refine ⟨_, s4 _ _ hC, szL' (by rw [List.length_map]; omega), sm_new (s3.trans s4) nC, ls ++ [t], ?_, ?_⟩
          · rw [upd_same, List.map_append]
            rfl
          · rw [List.range_succ, List.map_append]
            refine Al.app (all.imp fun l x h => h.keep ((SameBut.of s4).trans .upd)) (.one ⟨u, ?_, ?_, s2.free (s3.free ((same_upd nu).free nt)), s2.free (s3.free nu), ntB, nuB⟩)
            · rw [upd_ne ntB, upd_same, z0]
            · rw [upd_ne nuB, upd_ne ntu]
              exact upd_same
        · obtain ⟨s3, ls, hC, all⟩ := hI
          have lls := all.len
          rw [List.length_map, List.length_range] at lls
          have hF3 := s3 _ _ hF
          refine ⟨F, C, _, _, rfl, rfl, hF3, hC, szL (by rw [List.length_map, List.length_map]; omega), fun G nG => ?_⟩
          have s4 := same_upd (o := .lst (as.map V.ref ++ ls.map V.ref)) nG
          have s24 := (s2.trans s3).trans s4
          obtain ⟨b', t'', hb', _⟩ := (h3 i v _ g1 g2).same s24
          refine ⟨_, rfl, _, rfl, a, _, _, _, rfl, rfl, SqL.of (s24 _ _ h1), at_of z0 g3, v, _, _, _, rfl, rfl, SqT.of hb', atI_nat (j := 0) rfl, rfl, false, rfl, ?_⟩
          refine ⟨G, _, _, rfl, s24, (s2.trans s3).free nG, as ++ ls, ?_, ?_⟩
          · rw [upd_same, List.map_append]
          · rw [List.range_succ, List.flatMap_append, List.flatMap_singleton, em]
            exact Al.app (al.imp fun l x h => (h.keep s3).keep s4) (all.imp fun l x h => h.toF.keep s4)
      | pack c pr =>
        obtain ⟨b, hb, _⟩ := ho
        have em : linesAtM os i = (choicesM (addsM os i)).map fun c => ⟨i, 1, c⟩ := by unfold linesAtM; rw [g2]
        refine ⟨_, rfl, _, rfl, a, _, _, _, rfl, rfl, SqL.of h12, at_of z0 g3, v, _, _, _, rfl, rfl, SqT.of hb, atI_nat (j := 0) rfl, rfl, false, rfl, ?_⟩
        refine ⟨_, rfl, _, rfl, a, _, _, _, rfl, rfl, SqL.of h12, at_of z0 g3, v, _, _, _, rfl, rfl, SqT.of hb, atI_nat (j := 0) rfl, rfl, true, rfl, ?_⟩
        -- adds
        refine ⟨_, rfl, a, _, rfl, .inl (SqL.of h12), _, rfl, by rw [List.length_map]; omega, by rw [List.length_map]; omega, fun B nB => lc_range (lo := 0) (n := ((vs.map V.ref).length : Int).toNat) (fun j H' => Same H2 H' ∧ H' B = some (LI (addsN os (i : Int) j))) ⟨same_upd nB, upd_same⟩ (fun j H3 hj hJ => ?_) (fun H3 hJ => ?_)⟩
        · obtain ⟨s3, hB⟩ := hJ
          have hj2 : j < os.length := by rw [Int.toNat_natCast, List.length_map] at hj; omega
          obtain ⟨v', o', k1, k2, k3⟩ := ShopAt.get (H := H) (a := a) h2 hj2
          have ho' := (h3 j v' o' k1 k2).same (s2.trans s3)
          have nlen := addsN_len os (i : Int) j
          have zj : (0 : Int) + (j : Nat) = (j : Int) := Int.zero_add _
          cases o' with
          | pack c pr =>
            obtain ⟨b, hb, _⟩ := ho'
            have hn : isAdd os i j = false := by unfold isAdd; rw [k2]
            refine ⟨rfl, _, rfl, _, rfl, a, _, _, _, rfl, rfl, SqL.of (s3 _ _ h12), at_of zj k3, v', _, _, _, rfl, rfl, SqT.of hb, atI_nat (j := 0) rfl, rfl, false, rfl, ?_⟩
            exact ⟨s3, by rw [addsN_no hn]; exact hB⟩
          | many c ts =>
            obtain ⟨b, t', hb, _⟩ := ho'
            have hn : isAdd os i j = false := by unfold isAdd; rw [k2]
            refine ⟨rfl, _, rfl, _, rfl, a, _, _, _, rfl, rfl, SqL.of (s3 _ _ h12), at_of zj k3, v', _, _, _, rfl, rfl, SqT.of hb, atI_nat (j := 0) rfl, rfl, false, rfl, ?_⟩
            exact ⟨s3, by rw [addsN_no hn]; exact hB⟩
          | add c pr kk =>
            obtain ⟨b, hb, _⟩ := ho'
            refine ⟨rfl, _, rfl, _, rfl, a, _, _, _, rfl, rfl, SqL.of (s3 _ _ h12), at_of zj k3, v', _, _, _, rfl, rfl, SqT.of hb, atI_nat (j := 0) rfl, rfl, true, rfl, ?_⟩
            refine ⟨_, rfl, _, rfl, a, _, _, _, rfl, rfl, SqL.of (s3 _ _ h12), at_of zj k3, v', _, _, _, rfl, rfl, SqT.of hb, atI_nat (j := 3) rfl, _, rfl, rfl, _, rfl, ite2 (fun c => ?_) (fun c => ?_)⟩
            · have ek : kk = (i : Int) := (V.int.inj (of_decide_eq_true c)).trans z0
              have hn : isAdd os i j = true := by unfold isAdd; rw [k2]; exact decide_eq_true ek
              refine ⟨_, rfl, _, hB, szL' (by rw [List.length_map]; omega), sm_new s3 nB, ?_⟩
              rw [addsN_yes hn, zj]
              exact at_app
            · have hn : isAdd os i j = false := by unfold isAdd; rw [k2]; exact decide_eq_false fun z => c (decide_eq_true (by rw [z, z0]))
              exact ⟨s3, by rw [addsN_no hn]; exact hB⟩
        · obtain ⟨s3, hB⟩ := hJ
          rw [Int.toNat_natCast, List.length_map, h2] at hB
          have la : (addsM os i).length ≤ 8 := Nat.le_trans (addsN_len _ _ _) h8
          refine ⟨_, rfl, _, rfl, B, addsM os i, rfl, hB, la, adds_rise _ _ _, fun H4 ch bs s4 nch hch alr => ?_⟩
          have lbs := alr.len
          have lch := choicesM_le la
          refine ⟨ch, rfl, ⟨_, SqL.of hch⟩, fun C nC => lc_list (xs := bs.map V.ref) (fun j H' => Same H4 H' ∧ ∃ ls : List Addr, H' C = some (.lst (ls.map V.ref)) ∧ Al (LineB H H' C) ls (((choicesM (addsM os i)).take j).map fun c => ⟨i, 1, c⟩)) ⟨same_upd nC, [], upd_same, True.intro⟩ (fun j H' _ hp => SqL.of (hp.1 _ _ hch)) (fun j x H5 hx hp => ?_) (fun H5 hp => ?_)⟩
          · obtain ⟨s5, ls, hC, all⟩ := hp
            rw [List.getElem?_map] at hx
            cases hu : bs[j]? with
            | none => rw [hu] at hx; cases hx
            | some u =>
              rw [hu] at hx
              cases Option.some.inj hx
              obtain ⟨r, hr, hur, nu⟩ := alr.get hu
              have hu3 : H5 u = some (LI r) := s5 _ _ hur
              have nuB : u ≠ C := ne_of_none hur nC
              refine ⟨rfl, _, rfl, _, rfl, by show 3 ≤ sizeLine; decide, fun t nt => ?_⟩
              have ntB : t ≠ C := fun z => by
                rw [z, hC] at nt
                cases nt
              have ntu : u ≠ t := ne_of_none hu3 nt
              have lls := all.len
              rw [List.length_map, List.length_take] at lls
              refine ⟨_, (same_upd nt) _ _ hC, szL' (by rw [List.length_map]; omega), sm_new (s5.trans (same_upd nt)) nC, ls ++ [t], ?_, ?_⟩
              · rw [upd_same, List.map_append]
                rfl
              · rw [take_succ_at hr, List.map_append]
                refine Al.app (all.imp fun l x h => h.keep ((SameBut.of (same_upd nt)).trans .upd)) (.one ⟨u, ?_, ?_, s2.free (s3.free (s4.free (s5.free nt))), s2.free (s3.free nu), ntB, nuB⟩)
                · rw [upd_ne ntB, upd_same, z0]
                · rw [upd_ne nuB]
                  exact (same_upd nt) _ _ hu3
          · obtain ⟨s5, ls, hC, all⟩ := hp
            rw [List.length_map, lbs, List.take_length] at all
            have lls := all.len
            rw [List.length_map] at lls
            have s25 := (s3.trans s4).trans s5
            refine ⟨F, C, _, _, rfl, rfl, s25 _ _ hF, hC, szL (by rw [List.length_map, List.length_map]; omega), fun G nG => ?_⟩
            have s6 := same_upd (o := .lst (as.map V.ref ++ ls.map V.ref)) nG
            refine ⟨G, _, _, rfl, (s2.trans s25).trans s6, (s2.trans s25).free nG, as ++ ls, ?_, ?_⟩
            · rw [upd_same, List.map_append]
            · rw [List.range_succ, List.flatMap_append, List.flatMap_singleton, em]
              exact Al.app (al.imp fun l x h => (h.keep s25).keep s6) (all.imp fun l x h => h.toF.keep s6)
      | add c pr kk =>
        obtain ⟨b, hb, _⟩ := ho
        have em : linesAtM os i = [] := by unfold linesAtM; rw [g2]
        refine ⟨_, rfl, _, rfl, a, _, _, _, rfl, rfl, SqL.of h12, at_of z0 g3, v, _, _, _, rfl, rfl, SqT.of hb, atI_nat (j := 0) rfl, rfl, false, rfl, ?_⟩
        refine ⟨_, rfl, _, rfl, a, _, _, _, rfl, rfl, SqL.of h12, at_of z0 g3, v, _, _, _, rfl, rfl, SqT.of hb, atI_nat (j := 0) rfl, rfl, false, rfl, ?_⟩
        refine ⟨F, _, _, rfl, s2, nF, as, hF, ?_⟩
        rw [List.range_succ, List.flatMap_append, List.flatMap_singleton, em, List.append_nil]
        exact al
    · obtain ⟨F, y2, y3, rfl, s2, nF, hL⟩ := hp
      rw [Int.toNat_natCast, List.length_map, h2] at hL
      exact ⟨_, rfl, q H2 F s2 nF hL⟩
end
/-! ### _law_sum, _law_line_content, _law_line_price -/
abbrev s_law_sum : Stmt := topS 29
abbrev N_law_sum : List Str := ["_law_one", "_law_other", "_law_k"]
theorem sc_law_sum : FnScope N_law_sum ["_law_one", "_law_other"] (defScope s_law_sum) := ⟨rfl, rfl, rfl, by decide +kernel, rfl, by decide +kernel, by decide +kernel⟩

abbrev s_law_line_content : Stmt := topS 30
abbrev N_law_line_content : List Str := ["_law_shop_here", "_law_line", "_law_found", "_law_place", "_law_number"]
theorem sc_law_line_content : FnScope N_law_line_content ["_law_shop_here", "_law_line"] (defScope s_law_line_content) := ⟨rfl, rfl, rfl, by decide +kernel, rfl, by decide +kernel, by decide +kernel⟩

abbrev s_law_line_price : Stmt := topS 31
abbrev N_law_line_price : List Str := ["_law_shop_here", "_law_line", "_law_offer", "_law_each", "_law_start", "_law_price_here", "_law_place"]
theorem sc_law_line_price : FnScope N_law_line_price ["_law_shop_here", "_law_line"] (defScope s_law_line_price) := ⟨rfl, rfl, rfl, by decide +kernel, rfl, by decide +kernel, by decide +kernel⟩

def sp_lawsum : Sp := fun vs H Q _ => ∃ (a b : Addr) (xs ys : List Int), vs = [.ref a, .ref b] ∧ H a = some (LI xs) ∧ H b = some (LI ys) ∧ xs.length ≤ ys.length ∧ xs.length ≤ 1000 ∧ ∀ H' q, Same H H' → H q = none → H' q = some (LI (togM xs ys)) → Q (.ref q) H'
def sp_lawcont : Sp := fun vs H Q _ => ∃ (a la : Addr) (os : List Ofr) (l : Ln) (m : Nat), vs = [.ref a, .ref la] ∧ ShopAt H a os ∧ LineAt H la l ∧ LineOk os l ∧ FitS m os ∧ m ≤ 4 ∧ ∀ H' q, Same H H' → H q = none → H' q = some (LI (contM os l)) → Q (.ref q) H'
def sp_lawprice : Sp := fun vs H Q _ => ∃ (a la : Addr) (os : List Ofr) (l : Ln), vs = [.ref a, .ref la] ∧ ShopAt H a os ∧ LineAt H la l ∧ LineOk os l ∧ ∀ H', Same H H' → Q (.int (priceM os l)) H'
section
variable {P : Program} {w : World} {K : PySem.W.Frag} {mg : Str → Option Value} {base : Heap}
theorem ok_lawsum {f : Addr} {fd : FuncData} {k : Nat} (M : Names mg) (D : Def K mg "_law_sum" s_law_sum ["_law_one", "_law_other"] f fd) : FnOk P w K mg base CX0 (k + 1) f fd ["_law_one", "_law_other"] sp_lawsum := by
  refine D.F.ok sc_law_sum (fun vs H Q E h => ?_) (fun cdv A outer s H vs Q E hr h => ?_)
  · obtain ⟨a, b, xs, ys, rfl, _⟩ := h
    rfl
  · obtain ⟨a, b, xs, ys, rfl, ha, hb, hl, hl2, q⟩ := h
    refine ⟨_, (pss_one (ps_ret (pe_lc (own := [("_law_k", 2)]) (by rfl) sc_law_sum.nd (pi_range1 (by rfl) M.range (pa_cons (pe_callB call_len_seq (by rfl) M.len (by decide +kernel) (pa_cons (pv 0) pa_nil)) pa_nil)) (blkOk_by (own := [("_law_k", 2)]) (N := N_law_sum) (sc := defScope s_law_sum) (by decide +kernel)) (fun _ _ _ _ _ => (pg_name (i := 2) sc_law_sum.nd rfl (Or.inl rfl))) (fun _ _ _ _ _ => pts_nil) (fun _ _ _ _ _ => (pe_op op_add (pe_ix (ix_listK (K := K) rfl) (pv 0) (pv 2) (fun _ _ => rfl)) (pe_ix (ix_listK (K := K) rfl) (pv 1) (pv 2) (fun _ _ => rfl))))))), ?_⟩
    refine ⟨_, rfl, a, _, rfl, .inl (SqL.of ha), _, rfl, by rw [List.length_map]; omega, by rw [List.length_map]; omega, fun B nB => lc_range (lo := 0) (n := ((xs.map V.int).length : Int).toNat) (fun j H' => Same H H' ∧ H' B = some (LI ((togM xs ys).take j))) ⟨same_upd nB, upd_same⟩ (fun j H1 hj hp => ?_) (fun H1 hp => ?_)⟩
    · obtain ⟨s1, hB⟩ := hp
      rw [Int.toNat_natCast, List.length_map] at hj
      have hj2 : j < ys.length := by omega
      refine ⟨rfl, _, rfl, _, rfl, a, _, _, _, rfl, rfl, SqL.of (s1 _ _ ha), at_of (Int.zero_add _) (getD_ints hj), _, rfl, _, rfl, b, _, _, _, rfl, rfl, SqL.of (s1 _ _ hb), at_of (Int.zero_add _) (getD_ints hj2), _, _, rfl, rfl, _, hB, szL' (by rw [List.length_map, List.length_take]; omega), sm_new s1 nB, ?_⟩
      rw [take_succ_at (togM_get (List.getElem?_eq_getElem hj) (List.getElem?_eq_getElem hj2))]
      exact at_app
    · obtain ⟨s1, hB⟩ := hp
      rw [Int.toNat_natCast, List.length_map, List.take_of_length_le (by rw [togM_len]; omega)] at hB
      exact q H1 B s1 nB hB
theorem ok_lawcont {f f1 : Addr} {fd fd1 : FuncData} {k : Nat} (M : Names mg) (D : Def K mg "_law_line_content" s_law_line_content ["_law_shop_here", "_law_line"] f fd) (D_law_sum : Def K mg "_law_sum" s_law_sum ["_law_one", "_law_other"] f1 fd1) : FnOk P w K mg base CX0 (k + 2) f fd ["_law_shop_here", "_law_line"] sp_lawcont := by
  have G_law_sum : FnOk P w K mg base CX0 (k + 1) f1 fd1 ["_law_one", "_law_other"] sp_lawsum := ok_lawsum M D_law_sum
  refine D.F.ok sc_law_line_content (fun vs H Q E h => ?_) (fun cdv A outer s H vs Q E hr h => ?_)
  · obtain ⟨a, la, os, l, m, rfl, _⟩ := h
    rfl
  · obtain ⟨a, la, os, l, m, rfl, hS, ⟨b, hl1, hl2⟩, lok, ft, hm4, q⟩ := h
    obtain ⟨vs, h1, h2, h3⟩ := id hS
    obtain ⟨p, ep, ways⟩ := lok
    have main : ∃ o, os[p]? = some o ∧ 1 ≤ l.c ∧ l.c ≤ 1000 ∧ ∀ x ∈ l.as, ∃ j : Nat, x = (j : Int) ∧ j < os.length := by
      rcases ways with ⟨c, ts, w1, _, w2, w3, w4⟩ | ⟨c, pr, w1, w2, w3, w4⟩
      · exact ⟨_, w1, by omega, by omega, fun x hx => by rw [w4] at hx; cases hx⟩
      · refine ⟨_, w1, by omega, by omega, fun x hx => ?_⟩
        obtain ⟨j, ej, c', pr', k', hj⟩ := w4 x hx
        exact ⟨j, ej, (List.getElem?_eq_some_iff.mp hj).1⟩
    obtain ⟨o, ho, hc1, hc2, hadds⟩ := main
    have hp : p < os.length := (List.getElem?_eq_some_iff.mp ho).1
    obtain ⟨v, o', g1, g2, g3⟩ := ShopAt.get (H := H) (a := a) h2 hp
    cases Option.some.inj (g2.symm.trans ho)
    obtain ⟨bc, r, hv, hbc⟩ := (h3 p v _ g1 g2).head
    have fo := (ft _ (List.mem_of_getElem? ho)).v0
    refine ⟨_, (pss_cons (ps_setLc (i := 2) (own := [("_law_number", 4)]) (by rfl) sc_law_line_content.nd rfl rfl (sw_true rfl rfl rfl (by decide +kernel)) (pi_list (pe_ix ix_tup (pe_ix ix_list (pv 0) (pe_ix ix_tup (pv 1) pe_int (fun _ _ => rfl)) (fun _ _ => rfl)) pe_int (fun _ _ => rfl))) (blkOk_by (own := [("_law_number", 4)]) (N := N_law_line_content) (sc := defScope s_law_line_content) (by decide +kernel)) (fun _ _ _ _ _ => (pg_name (i := 4) sc_law_line_content.nd rfl (Or.inl rfl))) (fun _ _ _ _ _ => pts_nil) (fun _ _ _ _ _ => (pe_op op_mul (pe_ix (ix_tupK (K := K) rfl) (pv 1) pe_int (fun _ _ => rfl)) (pv 4))))
  (pss_cons (ps_for PassesOwn.never rfl (pi_list (pe_ix ix_tup (pv 1) pe_int (fun _ _ => rfl))) (pg_name (i := 3) sc_law_line_content.nd rfl (Or.inl rfl))
   (pss_one (ps_set (i := 2) sc_law_line_content.nd rfl (Or.inl rfl) (pe_call G_law_sum hr (by rfl) D_law_sum.g D_law_sum.F.kp D_law_sum.b .nil pass0 (pa_cons (pv 2) (pa_cons (pe_ix ix_tup (pe_ix ix_list (pv 0) (pv 3) (fun _ _ => rfl)) pe_int (fun _ _ => rfl)) pa_nil))))))
  (pss_one (ps_ret (pv 2))))), ?_⟩
    refine ⟨_, rfl, _, rfl, la, _, _, _, rfl, rfl, SqT.of hl1, atI_nat (j := 0) rfl, a, _, _, _, rfl, rfl, SqL.of h1, at_of ep g3, v, _, _, _, rfl, rfl, SqT.of hv, atI_nat (j := 1) rfl, bc, rfl, ⟨_, SqL.of hbc⟩, fun B nB => lc_list (xs := o.cont.map V.int) (fun j H' => Same H H' ∧ H' B = some (LI ((o.cont.take j).map (l.c * ·)))) ⟨same_upd nB, upd_same⟩ (fun j H' _ hp => SqL.of (hp.1 _ _ hbc)) (fun j x H1 hx hp => ?_) (fun H1 hp => ?_)⟩
    · obtain ⟨s1, hB⟩ := hp
      obtain ⟨n, hn, rfl⟩ := of_get_ints hx
      have hj := (List.getElem?_eq_some_iff.mp hn).1
      have fo1 := fo.1
      refine ⟨rfl, _, rfl, la, _, _, _, rfl, rfl, SqT.of (s1 _ _ hl1), atI_nat (j := 1) rfl, _, rfl, _, _, rfl, rfl, .inl ⟨by omega, by omega⟩, _, hB, szL' (by rw [List.length_map, List.length_map, List.length_take]; omega), sm_new s1 nB, ?_⟩
      rw [take_succ_at hn, List.map_append]
      exact at_app
    · obtain ⟨s1, hB⟩ := hp
      rw [List.length_map, List.take_length] at hB
      have e0 : contAt os l.p = o.cont := by rw [ep]; exact contAt_get ho
      have v00 : V0 m (o.cont.map (l.c * ·)) := ⟨by rw [List.length_map]; exact fo.1, fun x hx => by
        obtain ⟨y, hy, rfl⟩ := List.mem_map.mp hx
        exact Int.mul_nonneg (by omega) (fo.2 y hy)⟩
      have vadd : ∀ x ∈ l.as, V0 m (contAt os x) := fun x hx => by
        obtain ⟨j, rfl, hj⟩ := hadds x hx
        rw [contAt_get (List.getElem?_eq_getElem hj)]
        exact (ft _ (List.getElem_mem hj)).v0
      refine ⟨_, rfl, la, _, _, _, rfl, rfl, SqT.of (s1 _ _ hl1), atI_nat (j := 2) rfl, b, rfl, ⟨_, SqL.of (s1 _ _ hl2)⟩, for_list (xs := l.as.map V.int) (fun j σ H' => ∃ (cq : Addr) (y3 : Option V), σ = [some (.ref a), some (.ref la), some (.ref cq), y3, none] ∧ Same H H' ∧ H cq = none ∧ H' cq = some (LI ((l.as.take j).foldl (fun acc x => togM acc (contAt os x)) (o.cont.map (l.c * ·))))) ⟨B, _, rfl, s1, nB, hB⟩ (fun j σ H' _ hp => ?_) (fun j x σ H2 hx hp => ?_) (fun σ H2 hp => ?_)⟩
      · obtain ⟨_, _, _, s2, _⟩ := hp
        exact SqL.of (s2 _ _ hl2)
      · obtain ⟨cq, y3, rfl, s2, ncq, hcq⟩ := hp
        obtain ⟨n, hn, rfl⟩ := of_get_ints hx
        obtain ⟨j', ej', hj'⟩ := hadds n (List.mem_of_getElem? hn)
        obtain ⟨v', o'', k1, k2, k3⟩ := ShopAt.get (H := H) (a := a) h2 hj'
        obtain ⟨bc', r', hv', hbc'⟩ := (h3 j' v' _ k1 k2).head
        have va := V0.fold (ls := l.as.take j) v00 fun x hx => vadd x (List.mem_of_mem_take hx)
        have vb := vadd n (List.mem_of_getElem? hn)
        have eb : contAt os n = o''.cont := by rw [ej']; exact contAt_get k2
        rw [eb] at vb
        refine ⟨_, rfl, _, rfl, _, rfl, a, _, _, _, rfl, rfl, SqL.of (s2 _ _ h1), at_of ej' k3, v', _, _, _, rfl, rfl, SqT.of (s2 _ _ hv'), atI_nat (j := 1) rfl, cq, bc', _, _, rfl, hcq, s2 _ _ hbc', by rw [va.1, vb.1]; exact Nat.le_refl _, by rw [va.1]; omega, fun H3 q3 s3 nq3 hq3 => ?_⟩
        refine ⟨q3, some (.int n), rfl, s2.trans s3, s2.free nq3, ?_⟩
        rw [take_succ_at hn, List.foldl_append]
        show H3 q3 = some (LI (togM _ (contAt os n)))
        rw [eb]
        exact hq3
      · obtain ⟨cq, y3, rfl, s2, ncq, hcq⟩ := hp
        rw [List.length_map, List.take_length, ← e0] at hcq
        exact ⟨_, rfl, q H2 cq s2 ncq hcq⟩
theorem ok_lawprice {f : Addr} {fd : FuncData} {k : Nat} (M : Names mg) (D : Def K mg "_law_line_price" s_law_line_price ["_law_shop_here", "_law_line"] f fd) : FnOk P w K mg base CX0 (k + 1) f fd ["_law_shop_here", "_law_line"] sp_lawprice := by
  refine D.F.ok sc_law_line_price (fun vs H Q E h => ?_) (fun cdv A outer s H vs Q E hr h => ?_)
  · obtain ⟨a, la, os, l, rfl, _⟩ := h
    rfl
  · obtain ⟨a, la, os, l, rfl, hS, ⟨b, hl1, hl2⟩, lok, q⟩ := h
    obtain ⟨vs, h1, h2, h3⟩ := id hS
    obtain ⟨p, ep, ways⟩ := lok
    refine ⟨_, (pss_cons (ps_set (i := 2) sc_law_line_price.nd rfl (Or.inl rfl) (pe_ix ix_list (pv 0) (pe_ix ix_tup (pv 1) pe_int (fun _ _ => rfl)) (fun _ _ => rfl)))
  (pss_cons (ps_if (pt_cmpR op_eq (pe_ix ix_tup (pv 2) pe_int (fun _ _ => rfl)) pe_str (nomark _))
   (pss_one (ps_ret (pe_op op_add (pe_ix ix_tup (pv 2) pe_int (fun _ _ => rfl)) (pe_callB (cr_sum rfl) (by rfl) M.sum (by decide +kernel) (pa_cons (pe_lc (own := [("_law_place", 6)]) (by rfl) sc_law_line_price.nd (pi_list (pe_ix ix_tup (pv 1) pe_int (fun _ _ => rfl))) (blkOk_by (own := [("_law_place", 6)]) (N := N_law_line_price) (sc := defScope s_law_line_price) (by decide +kernel)) (fun _ _ _ _ _ => (pg_name (i := 6) sc_law_line_price.nd rfl (Or.inl rfl))) (fun _ _ _ _ _ => pts_nil) (fun _ _ _ _ _ => (pe_ix (ix_tupK (K := K) rfl) (pe_ix (ix_listK (K := K) rfl) (pv 0) (pv 6) (fun _ _ => rfl)) pe_int (fun _ _ => rfl)))) pa_nil)))))
   pss_nil)
  (pss_cons (ps_set (i := 3) sc_law_line_price.nd rfl (Or.inl rfl) pe_int)
  (pss_cons (ps_for PassesOwn.never rfl (pi_list (pe_ix ix_tup (pv 2) pe_int (fun _ _ => rfl))) (pg_tup rfl (pgs_cons (pg_name (i := 4) sc_law_line_price.nd rfl (Or.inl rfl)) (pgs_cons (pg_name (i := 5) sc_law_line_price.nd rfl (Or.inl rfl)) pgs_nil)))
   (pss_one (ps_if (pt_cmpR op_le (pv 4) (pe_ix ix_tup (pv 1) pe_int (fun _ _ => rfl)) (nomark _))
   (pss_one (ps_set (i := 3) sc_law_line_price.nd rfl (Or.inl rfl) (pv 5)))
   pss_nil)))
  (pss_one (ps_ret (pe_op op_mul (pe_ix ix_tup (pv 1) pe_int (fun _ _ => rfl)) (pv 3)))))))), ?_⟩
    rcases ways with ⟨c0, ts, w1, w0, w2, w3, w4⟩ | ⟨c0, pr, w1, w2, w3, w4⟩
    · have hp : p < os.length := (List.getElem?_eq_some_iff.mp w1).1
      obtain ⟨v, o', g1, g2, g3⟩ := ShopAt.get (H := H) (a := a) h2 hp
      cases Option.some.inj (g2.symm.trans w1)
      obtain ⟨bc, tt, hv, hbc, hts⟩ := h3 p v _ g1 g2
      obtain ⟨us, u1, u2, u3⟩ := id hts
      refine ⟨_, rfl, _, rfl, la, _, _, _, rfl, rfl, SqT.of hl1, atI_nat (j := 0) rfl, a, _, _, _, rfl, rfl, SqL.of h1, at_of ep g3, ?_⟩
      refine ⟨_, rfl, v, _, _, _, rfl, rfl, SqT.of hv, atI_nat (j := 0) rfl, rfl, false, rfl, ?_⟩
      refine ⟨_, rfl, v, _, _, _, rfl, rfl, SqT.of hv, atI_nat (j := 2) rfl, tt, rfl, ⟨_, SqL.of u1⟩, for_list (K := K) (a := tt) (xs := us.map V.ref) (fun j σ H' => ∃ y4 y5, σ = [some (.ref a), some (.ref la), some (.ref v), some (.int (stepT (· ≤ l.c) (ts.take j) 0)), y4, y5, none] ∧ H' = H) ⟨none, none, rfl, rfl⟩ (fun j σ H' _ hJ => ?_) (fun j x σ H5 hx hJ => ?_) (fun σ H5 hJ => ?_)⟩
      · obtain ⟨_, _, _, rfl⟩ := hJ
        exact SqL.of u1
      · obtain ⟨y4, y5, rfl, rfl⟩ := hJ
        rw [List.getElem?_map] at hx
        cases hu : us[j]? with
        | none => rw [hu] at hx; cases hx
        | some u =>
          rw [hu] at hx
          cases Option.some.inj hx
          have hj : j < ts.length := by
            have := (List.getElem?_eq_some_iff.mp hu).1
            omega
          have gt := List.getElem?_eq_getElem hj
          refine ⟨u, _, rfl, SqT.of (u3 j u _ hu gt), rfl, _, _, rfl, _, _, rfl, rfl, _, rfl, _, rfl, la, _, _, _, rfl, rfl, SqT.of hl1, atI_nat (j := 1) rfl, _, _, rfl, rfl, _, rfl, ite2 (fun z => ?_) (fun z => ?_)⟩
          · have z2 := of_decide_eq_true z
            refine ⟨_, rfl, some (.int (ts[j]).1), some (.int (ts[j]).2), ?_, rfl⟩
            rw [stepT_take gt, if_pos z2]
            rfl
          · have z2 : ¬ (ts[j]).1 ≤ l.c := fun y => z (decide_eq_true y)
            refine ⟨some (.int (ts[j]).1), some (.int (ts[j]).2), ?_, rfl⟩
            rw [stepT_take gt, if_neg z2]
            rfl
      · obtain ⟨y4, y5, rfl, rfl⟩ := hJ
        rw [List.length_map, u2, List.take_length]
        refine ⟨_, rfl, la, _, _, _, rfl, rfl, SqT.of hl1, atI_nat (j := 1) rfl, _, rfl, _, _, rfl, rfl, .inl ⟨by omega, by omega⟩, ?_⟩
        have e := q H5 (.refl _)
        unfold priceM pieceM at e
        rw [ep, Int.toNat_natCast, w1] at e
        dsimp only at e
        rw [pieceM_step] at e
        exact e
    · have hp : p < os.length := (List.getElem?_eq_some_iff.mp w1).1
      obtain ⟨v, o', g1, g2, g3⟩ := ShopAt.get (H := H) (a := a) h2 hp
      cases Option.some.inj (g2.symm.trans w1)
      obtain ⟨bc, hv, hbc⟩ := h3 p v _ g1 g2
      refine ⟨_, rfl, _, rfl, la, _, _, _, rfl, rfl, SqT.of hl1, atI_nat (j := 0) rfl, a, _, _, _, rfl, rfl, SqL.of h1, at_of ep g3, ?_⟩
      refine ⟨_, rfl, v, _, _, _, rfl, rfl, SqT.of hv, atI_nat (j := 0) rfl, rfl, true, rfl, ?_⟩
      refine ⟨_, rfl, v, _, _, _, rfl, rfl, SqT.of hv, atI_nat (j := 2) rfl, _, rfl, la, _, _, _, rfl, rfl, SqT.of hl1, atI_nat (j := 2) rfl, b, rfl, ⟨_, SqL.of hl2⟩, fun B nB => lc_list (xs := l.as.map V.int) (fun j H' => Same H H' ∧ H' B = some (LI ((l.as.take j).map (addPr os)))) ⟨same_upd nB, upd_same⟩ (fun j H' _ hp => SqL.of (hp.1 _ _ hl2)) (fun j x H1 hx hp => ?_) (fun H1 hp => ?_)⟩
      · obtain ⟨s1, hB⟩ := hp
        obtain ⟨n, hn, rfl⟩ := of_get_ints hx
        obtain ⟨j', ej', c', p', k', hj'⟩ := w4 n (List.mem_of_getElem? hn)
        obtain ⟨v', o'', k1, k2, k3⟩ := ShopAt.get (H := H) (a := a) h2 ((List.getElem?_eq_some_iff.mp hj').1)
        cases Option.some.inj (k2.symm.trans hj')
        obtain ⟨bc', hv', _⟩ := h3 j' v' _ k1 k2
        have hj := (List.getElem?_eq_some_iff.mp hn).1
        refine ⟨rfl, _, rfl, _, rfl, a, _, _, _, rfl, rfl, SqL.of (s1 _ _ h1), at_of ej' k3, v', _, _, _, rfl, rfl, SqT.of (s1 _ _ hv'), atI_nat (j := 2) rfl, _, hB, szL' (by rw [List.length_map, List.length_map, List.length_take]; omega), sm_new s1 nB, ?_⟩
        rw [take_succ_at hn, List.map_append]
        have ea : addPr os n = p' := by unfold addPr; rw [ej', Int.toNat_natCast, hj']
        show _ = some (LI (_ ++ [addPr os n]))
        rw [ea]
        exact at_app
      · obtain ⟨s1, hB⟩ := hp
        rw [List.length_map, List.take_length] at hB
        refine ⟨B, _, rfl, SqL.of hB, _, _, rfl, rfl, ?_⟩
        have e := q H1 s1
        unfold priceM at e
        rw [ep, Int.toNat_natCast, w1] at e
        exact e
end
/-! ### shops as data -/
def dTier (t : Int × Int) : PyData := .tuple [.int t.1, .int t.2]
def dOfr : Ofr → PyData
  | .pack c p => .tuple [.str "pack", dInts c, .int p]
  | .many c ts => .tuple [.str "many", dInts c, .list (ts.map dTier)]
  | .add c p k => .tuple [.str "add", dInts c, .int p, .int k]
abbrev dShop (os : List Ofr) : PyData := .list (os.map dOfr)
theorem dp_tiers {K : PySem.W.Frag} {H : Hp} : ∀ {us : List Addr} {ts : List (Int × Int)}, us.length = ts.length → (∀ (i : Nat) u (t : Int × Int), us[i]? = some u → ts[i]? = some t → H u = some (.tup [.int t.1, .int t.2])) → DpAll K H (us.map V.ref) (ts.map dTier)
  | [], [], _, _ => .nil
  | [], _ :: _, h, _ => by simp at h
  | _ :: _, [], h, _ => by simp at h
  | u :: us, t :: ts, hl, h => .cons (.tup (SqT.of (h 0 u t rfl rfl)) (.cons (.int _) (.cons (.int _) .nil))) (dp_tiers (by simpa using hl) fun i u' t' a b => h (i + 1) u' t' a b)
theorem TiersAt.dp {K : PySem.W.Frag} {H : Hp} {a : Addr} {ts : List (Int × Int)} (h : TiersAt H a ts) : Dp K H (.ref a) (.list (ts.map dTier)) := by
  obtain ⟨us, h1, h2, h3⟩ := h
  exact .lst (SqL.of h1) (dp_tiers h2 h3)
theorem OfrAt.dp {K : PySem.W.Frag} {H : Hp} {a : Addr} : ∀ {o : Ofr}, OfrAt H a o → Dp K H (.ref a) (dOfr o)
  | .pack c p, ⟨b, h1, h2⟩ => .tup (SqT.of h1) (.cons (.str _) (.cons (dp_ints (SqL.of h2)) (.cons (.int _) .nil)))
  | .many c ts, ⟨b, t, h1, h2, h3⟩ => .tup (SqT.of h1) (.cons (.str _) (.cons (dp_ints (SqL.of h2)) (.cons h3.dp .nil)))
  | .add c p k, ⟨b, h1, h2⟩ => .tup (SqT.of h1) (.cons (.str _) (.cons (dp_ints (SqL.of h2)) (.cons (.int _) (.cons (.int _) .nil))))
theorem dp_ofrs {K : PySem.W.Frag} {H : Hp} : ∀ {vs : List Addr} {os : List Ofr}, Al (OfrAt H) vs os → DpAll K H (vs.map V.ref) (os.map dOfr)
  | [], [], _ => .nil
  | [], _ :: _, h => h.elim
  | _ :: _, [], h => h.elim
  | _ :: _, _ :: _, h => .cons h.1.dp (dp_ofrs h.2)
theorem ShopAt.dp {K : PySem.W.Frag} {H : Hp} {a : Addr} {os : List Ofr} (h : ShopAt H a os) : Dp K H (.ref a) (dShop os) := by
  obtain ⟨vs, h1, al⟩ := h.al
  exact .lst (SqL.of h1) (dp_ofrs al)
theorem lay_tiers : ∀ ts : List (Int × Int), PyData.canLayAll0 (ts.map dTier) = true
  | [] => by simp [PyData.canLayAll0]
  | t :: r => by
    have ih := lay_tiers r
    simp [PyData.canLayAll0, PyData.canLay0, dTier, ih]
theorem depth_tiers : ∀ ts : List (Int × Int), PyData.depthAll (ts.map dTier) ≤ 1
  | [] => by simp [PyData.depthAll]
  | t :: r => by
    have ih := depth_tiers r
    simp only [List.map_cons, PyData.depthAll, PyData.depth, dTier]
    omega
theorem lay_ofr (o : Ofr) : PyData.canLay0 (dOfr o) = true := by
  cases o with
  | pack c p =>
    have := lay_ints c
    simp [dOfr, PyData.canLayAll0, PyData.canLay0, this]
    decide +kernel
  | many c ts =>
    have := lay_ints c
    have h2 := lay_tiers ts
    simp [dOfr, PyData.canLayAll0, PyData.canLay0, this, h2]
    decide +kernel
  | add c p k =>
    have := lay_ints c
    simp [dOfr, PyData.canLayAll0, PyData.canLay0, this]
    decide +kernel
theorem depth_ofr (o : Ofr) : PyData.depth (dOfr o) ≤ 4 := by
  cases o with
  | pack c p =>
    have := depth_ints c
    simp only [dOfr, PyData.depth, PyData.depthAll, this]
    omega
  | many c ts =>
    have := depth_ints c
    have h2 := depth_tiers ts
    simp only [dOfr, PyData.depth, PyData.depthAll, this]
    omega
  | add c p k =>
    have := depth_ints c
    simp only [dOfr, PyData.depth, PyData.depthAll, this]
    omega
theorem lay_ofrs : ∀ os : List Ofr, PyData.canLayAll0 (os.map dOfr) = true
  | [] => by simp [PyData.canLayAll0]
  | o :: r => by
    have ih := lay_ofrs r
    have h1 := lay_ofr o
    simp [PyData.canLayAll0, ih, h1]
theorem depth_ofrs : ∀ os : List Ofr, PyData.depthAll (os.map dOfr) ≤ 4
  | [] => by simp [PyData.depthAll]
  | o :: r => by
    have ih := depth_ofrs r
    have h1 := depth_ofr o
    simp only [List.map_cons, PyData.depthAll]
    omega
theorem shaped_shop (os : List Ofr) : SeqAt.shaped (dShop os) = true := by
  unfold SeqAt.shaped
  have h1 : PyData.canLay0 (dShop os) = true := by
    simp only [PyData.canLay0]
    exact lay_ofrs os
  have h2 : PyData.depth (dShop os) ≤ 64 := by
    have := depth_ofrs os
    simp only [PyData.depth]
    omega
  rw [h1, decide_eq_true h2]
  rfl
/-! ### _law_copied -/
abbrev s_law_copied : Stmt := topS 26
abbrev N_law_copied : List Str := ["_law_shop_here", "_law_found", "_law_offer"]
theorem sc_law_copied : FnScope N_law_copied ["_law_shop_here"] (defScope s_law_copied) := ⟨rfl, rfl, rfl, by decide +kernel, rfl, by decide +kernel, by decide +kernel⟩

def sp_copied : Sp := fun vs H Q _ => ∃ (a : Addr) (os : List Ofr), vs = [.ref a] ∧ ShopAt H a os ∧ os.length ≤ 100 ∧ ∀ H' q, Same H H' → H q = none → (∀ d xs, H d = some (.lst xs) → ShopAt (cutH d H') q os) → ShopAt H' q os → Q (.ref q) H'
theorem cut2 (l : List V) : cutV l (some 2) none = l.drop 2 := by
  have a : HT.sIx l.length 0 (some ((2 : Nat) : Int)) = min 2 l.length := HT.sIx_nat _ _ _
  show (l.drop (HT.sIx l.length 0 (some ((2 : Nat) : Int)))).take (l.length - HT.sIx l.length 0 (some ((2 : Nat) : Int))) = l.drop 2
  rw [a]
  by_cases z : l.length ≤ 2
  · rw [Nat.min_eq_right z, List.drop_eq_nil_of_le (Nat.le_refl _), List.drop_eq_nil_of_le z, List.take_nil]
  · rw [Nat.min_eq_left (by omega)]
    exact List.take_of_length_le (by rw [List.length_drop]; exact Nat.le_refl _)
theorem no0 (n : Nat) : ¬ (HT.sIx (n + 1) 0 (some 2) = 0 ∧ HT.sIx (n + 1) (n + 1) none = n + 1) := fun z => by
  have a : HT.sIx (n + 1) 0 (some ((2 : Nat) : Int)) = min 2 (n + 1) := HT.sIx_nat _ _ _
  have b : min 2 (n + 1) = 0 := a.symm.trans z.1
  omega
section
variable {P : Program} {w : World} {K : PySem.W.Frag} {mg : Str → Option Value} {base : Heap}
theorem ok_copied {f : Addr} {fd : FuncData} {k : Nat} (M : Names mg) (D : Def K mg "_law_copied" s_law_copied ["_law_shop_here"] f fd) : FnOk P w K mg base CX0 (k + 1) f fd ["_law_shop_here"] sp_copied := by
  refine D.F.ok sc_law_copied (fun vs H Q E h => ?_) (fun cdv A outer s H vs Q E hr h => ?_)
  · obtain ⟨a, os, rfl, _⟩ := h
    rfl
  · obtain ⟨a, os, rfl, hS, h100, q⟩ := h
    obtain ⟨vs, h1, h2, h3⟩ := id hS
    refine ⟨_, (pss_cons (ps_set (i := 1) sc_law_copied.nd rfl (Or.inl rfl) (pe_lst pa_nil))
  (pss_cons (ps_for PassesOwn.never rfl (pi_list (pv 0)) (pg_name (i := 2) sc_law_copied.nd rfl (Or.inl rfl))
   (pss_one (ps_if (pt_cmpR op_eq (pe_ix ix_tup (pv 2) pe_int (fun _ _ => rfl)) pe_str (nomark _))
   (pss_one (ps_expr (pe_bm PySem.F.plainAttrs_list PySem.F.slot_list_append PySem.F.type_list_append mt_append (pv 1) (pa_cons (pe_tup (pa_cons pe_str (pa_cons (pe_callTy call_list_of (by rfl) M.list (by decide +kernel) (pa_cons (pe_ix ix_tup (pv 2) pe_int (fun _ _ => rfl)) pa_nil)) (pa_cons (pe_callTy call_list_of (by rfl) M.list (by decide +kernel) (pa_cons (pe_ix ix_tup (pv 2) pe_int (fun _ _ => rfl)) pa_nil)) pa_nil)))) pa_nil))))
   (pss_one (ps_expr (pe_bm PySem.F.plainAttrs_list PySem.F.slot_list_append PySem.F.type_list_append mt_append (pv 1) (pa_cons (pe_op op_catT (pe_tup (pa_cons (pe_ix ix_tup (pv 2) pe_int (fun _ _ => rfl)) (pa_cons (pe_callTy call_list_of (by rfl) M.list (by decide +kernel) (pa_cons (pe_ix ix_tup (pv 2) pe_int (fun _ _ => rfl)) pa_nil)) pa_nil))) (pe_slice sl_tup (pv 2) (po_some pe_int) po_none)) pa_nil)))))))
  (pss_one (ps_ret (pv 1))))), ?_⟩
    refine ⟨Nat.zero_le _, fun F nF => ?_⟩
    have s0 := same_upd (o := .lst []) nF
    refine ⟨_, rfl, a, rfl, ⟨_, SqL.of (s0 _ _ h1)⟩, for_list (K := K) (a := a) (xs := vs.map V.ref) (fun i σ H' => ∃ y2, σ = [some (.ref a), some (.ref F), y2] ∧ Same H H' ∧ ∃ ws : List Addr, H' F = some (.lst (ws.map V.ref)) ∧ ∀ d, (d = F ∨ ∃ xs, H d = some (.lst xs)) → Al (OfrAt (cutH d (cutH F H'))) ws (os.take i)) ⟨none, rfl, s0, [], upd_same, fun _ _ => True.intro⟩ (fun i σ H' _ hp => ?_) (fun i x σ H2 hx hp => ?_) (fun σ H2 hp => ?_)⟩
    · obtain ⟨_, _, s2, _⟩ := hp
      exact SqL.of (s2 _ _ h1)
    · obtain ⟨y2, rfl, s2, ws, hF, al⟩ := hp
      have hi : i < os.length := by
        have := (List.getElem?_eq_some_iff.mp hx).1
        rw [List.length_map] at this
        omega
      obtain ⟨v, o, g1, g2, g3⟩ := ShopAt.get (H := H) (a := a) h2 hi
      have ex : x = .ref v := Option.some.inj (hx.symm.trans g3)
      subst ex
      have ho := (h3 i v o g1 g2).same s2
      have lal := (al F (.inl rfl)).len
      have dd : ∀ d, (d = F ∨ ∃ xs, H d = some (.lst xs)) → ∃ xs, H2 d = some (.lst xs) := fun d hd => by
        rcases hd with rfl | ⟨xs, hd⟩
        · exact ⟨_, hF⟩
        · exact ⟨xs, s2 _ _ hd⟩
      have nfr : ∀ (H3 : Hp) x, Same H2 H3 → H3 x = none → ∀ d, (d = F ∨ ∃ xs, H d = some (.lst xs)) → x ≠ d := fun H3 x s3 nx d hd z => by
        obtain ⟨xs, e⟩ := dd d hd
        rw [z, s3 _ _ e] at nx
        cases nx
      rw [List.length_take] at lal
      have fin : ∀ (H3 : Hp) (u : Addr), Same H2 H3 → (∀ d, (d = F ∨ ∃ xs, H d = some (.lst xs)) → OfrAt (cutH d (cutH F H3)) u o) → H3 F = some (.lst (ws.map V.ref)) ∧ (ws.map V.ref).length < sizeLine ∧ ∃ y2, [some (V.ref a), some (.ref F), some (.ref v)] = [some (.ref a), some (.ref F), y2] ∧ Same H (upd H3 F (.lst (ws.map V.ref ++ [.ref u]))) ∧ ∃ ws' : List Addr, upd H3 F (.lst (ws.map V.ref ++ [.ref u])) F = some (.lst (ws'.map V.ref)) ∧ ∀ d, (d = F ∨ ∃ xs, H d = some (.lst xs)) → Al (OfrAt (cutH d (cutH F (upd H3 F (.lst (ws.map V.ref ++ [.ref u])))))) ws' (os.take (i + 1)) := by
        intro H3 u s3 hu
        refine ⟨s3 _ _ hF, szL' (by rw [List.length_map]; omega), _, rfl, sm_new (s2.trans s3) nF, ws ++ [u], ?_, fun d hd => ?_⟩
        · rw [upd_same, List.map_append]
          rfl
        · rw [cut_off, take_succ_at g2]
          exact Al.app ((al d hd).imp fun l x h => h.same (cut_mono (cut_mono s3))) (.one (hu d hd))
      cases o with
      | many c ts =>
        obtain ⟨b, t, hv, hb, hts⟩ := id ho
        obtain ⟨us, u1, u2, u3⟩ := id hts
        refine ⟨_, rfl, v, _, _, _, rfl, rfl, SqT.of hv, atI_nat (j := 0) rfl, rfl, true, rfl, ?_⟩
        refine ⟨_, rfl, .inl ⟨rfl, _, SqL.of hF⟩, _, rfl, v, _, _, _, rfl, rfl, SqT.of hv, atI_nat (j := 1) rfl, b, _, rfl, .inl (SqL.of hb), fun b' nb' => ?_⟩
        have x1 := same_upd (o := .lst (c.map V.int)) nb'
        refine ⟨_, rfl, v, _, _, _, rfl, rfl, SqT.of (x1 _ _ hv), atI_nat (j := 2) rfl, t, _, rfl, .inl (SqL.of (x1 _ _ u1)), fun t' nt' => ⟨by show 3 ≤ sizeLine; decide, fun u nu => ?_⟩⟩
        have x2 := same_upd (o := .lst (us.map V.ref)) nt'
        have x3 := same_upd (o := .tup [.str "many", .ref b', .ref t']) nu
        have nbF : b' ≠ F := fun z => by rw [z, hF] at nb'; cases nb'
        have ntF : t' ≠ F := fun z => by rw [z, x1 _ _ hF] at nt'; cases nt'
        have nuF : u ≠ F := fun z => by rw [z, x2 _ _ (x1 _ _ hF)] at nu; cases nu
        have xx := (x1.trans x2).trans x3
        refine ⟨F, _, _, rfl, rfl, fin _ u xx fun d hd => ⟨b', t', cut_put (nfr _ u (x1.trans x2) nu d hd) (cut_put nuF upd_same), cut_put (nfr _ b' (.refl _) nb' d hd) (cut_put nbF ((x2.trans x3) _ _ upd_same)), us, cut_put (nfr _ t' x1 nt' d hd) (cut_put ntF (x3 _ _ upd_same)), u2, fun j w t'' hw ht => ?_⟩⟩
        have e := xx _ _ (u3 j w t'' hw ht)
        obtain ⟨xs, ed⟩ := dd d hd
        exact cut_put (ne_of e (xx _ _ ed) (fun z => nomatch z)) (cut_put (ne_of e (xx _ _ hF) (fun z => nomatch z)) e)
      | pack c pr =>
        obtain ⟨b, hv, hb⟩ := id ho
        refine ⟨_, rfl, v, _, _, _, rfl, rfl, SqT.of hv, atI_nat (j := 0) rfl, rfl, false, rfl, ?_⟩
        refine ⟨_, rfl, .inl ⟨rfl, _, SqL.of hF⟩, _, rfl, v, _, _, _, rfl, rfl, SqT.of hv, atI_nat (j := 0) rfl, _, rfl, v, _, _, _, rfl, rfl, SqT.of hv, atI_nat (j := 1) rfl, b, _, rfl, .inl (SqL.of hb), fun b' nb' => ⟨by show 2 ≤ sizeLine; decide, fun u nu => ?_⟩⟩
        have x1 := same_upd (o := .lst (c.map V.int)) nb'
        have x2 := same_upd (o := .tup [.str "pack", .ref b']) nu
        refine ⟨_, rfl, 2, rfl, v, _, rfl, SqT.of ((x1.trans x2) _ _ hv), no0 _, fun r nr => ?_⟩
        have x3 := same_upd (o := .tup (cutV [.str "pack", .ref b, .int pr] (some 2) none)) nr
        refine ⟨u, r, _, _, rfl, rfl, SqT.of (x3 _ _ upd_same), SqT.of upd_same, (by simp), (by rw [cut2]; exact szL (by simp)), fun z => absurd z (by rw [cut2]; simp), fun _ p np => ?_⟩
        rw [cut2]
        have x4 := same_upd (o := .tup ([.str "pack", .ref b'] ++ ([.str "pack", .ref b, .int pr] : List V).drop 2)) np
        rw [cut2] at x3 np
        have nbF : b' ≠ F := fun z => by rw [z, hF] at nb'; cases nb'
        have xx := ((x1.trans x2).trans x3).trans x4
        have npF : p ≠ F := fun z => by rw [z, ((x1.trans x2).trans x3) _ _ hF] at np; cases np
        exact ⟨F, _, _, rfl, rfl, fin _ p xx fun d hd => ⟨b', cut_put (nfr _ p ((x1.trans x2).trans x3) np d hd) (cut_put npF upd_same), cut_put (nfr _ b' (.refl _) nb' d hd) (cut_put nbF (((x2.trans x3).trans x4) _ _ upd_same))⟩⟩
      | add c pr kk =>
        obtain ⟨b, hv, hb⟩ := id ho
        refine ⟨_, rfl, v, _, _, _, rfl, rfl, SqT.of hv, atI_nat (j := 0) rfl, rfl, false, rfl, ?_⟩
        refine ⟨_, rfl, .inl ⟨rfl, _, SqL.of hF⟩, _, rfl, v, _, _, _, rfl, rfl, SqT.of hv, atI_nat (j := 0) rfl, _, rfl, v, _, _, _, rfl, rfl, SqT.of hv, atI_nat (j := 1) rfl, b, _, rfl, .inl (SqL.of hb), fun b' nb' => ⟨by show 2 ≤ sizeLine; decide, fun u nu => ?_⟩⟩
        have x1 := same_upd (o := .lst (c.map V.int)) nb'
        have x2 := same_upd (o := .tup [.str "add", .ref b']) nu
        refine ⟨_, rfl, 2, rfl, v, _, rfl, SqT.of ((x1.trans x2) _ _ hv), no0 _, fun r nr => ?_⟩
        have x3 := same_upd (o := .tup (cutV [.str "add", .ref b, .int pr, .int kk] (some 2) none)) nr
        refine ⟨u, r, _, _, rfl, rfl, SqT.of (x3 _ _ upd_same), SqT.of upd_same, (by simp), (by rw [cut2]; exact szL (by simp)), fun z => absurd z (by rw [cut2]; simp), fun _ p np => ?_⟩
        rw [cut2]
        have x4 := same_upd (o := .tup ([.str "add", .ref b'] ++ ([.str "add", .ref b, .int pr, .int kk] : List V).drop 2)) np
        rw [cut2] at x3 np
        have nbF : b' ≠ F := fun z => by rw [z, hF] at nb'; cases nb'
        have xx := ((x1.trans x2).trans x3).trans x4
        have npF : p ≠ F := fun z => by rw [z, ((x1.trans x2).trans x3) _ _ hF] at np; cases np
        exact ⟨F, _, _, rfl, rfl, fin _ p xx fun d hd => ⟨b', cut_put (nfr _ p ((x1.trans x2).trans x3) np d hd) (cut_put npF upd_same), cut_put (nfr _ b' (.refl _) nb' d hd) (cut_put nbF (((x2.trans x3).trans x4) _ _ upd_same))⟩⟩
    · obtain ⟨y2, rfl, s2, ws, hF, al⟩ := hp
      rw [List.length_map, h2, List.take_length] at al
      refine ⟨_, rfl, q H2 F s2 nF (fun d xs hd => ?_) (ShopAt.of_al hF ((al F (.inl rfl)).imp fun l x h => (h.same cut_le).same cut_le))⟩
      have nFd : F ≠ d := fun z => by rw [z, hd] at nF; cases nF
      exact ShopAt.of_al (cut_put nFd hF) ((al d (.inr ⟨xs, hd⟩)).imp fun l x h => h.same (cut_mono cut_le))
end
/-! ### _law_due -/
abbrev s_law_due : Stmt := topS 32
abbrev N_law_due : List Str := ["_law_shop_here", "_law_some", "_law_content_here", "_law_price_here", "_law_line"]
theorem sc_law_due : FnScope N_law_due ["_law_shop_here", "_law_some"] (defScope s_law_due) := ⟨rfl, rfl, rfl, by decide +kernel, rfl, by decide +kernel, by decide +kernel⟩

def sp_due7 : Sp := fun vs H Q _ => ∃ (a pa : Addr) (os : List Ofr) (las : List Addr) (ls : List Ln) (m : Nat), vs = [.ref a, .ref pa] ∧ ShopAt H a os ∧ os.length ≤ 8 ∧ FitS m os ∧ m ≤ 4 ∧ H pa = some (.lst (las.map V.ref)) ∧ Al (LineAt H) las ls ∧ (∀ l ∈ ls, LineOk os l) ∧
  ∀ H' q r, Same H H' → H q = none → H r = none → H' q = some (.tup [.ref r, .int (bPriceM os ls)]) → H' r = some (LI (bContM os ls)) → Q (.ref q) H'
section
variable {P : Program} {w : World} {K : PySem.W.Frag} {mg : Str → Option Value} {base : Heap}
theorem ok_due7 {f f1 f2 f3 : Addr} {fd fd1 fd2 fd3 : FuncData} {k : Nat} (M : Names mg) (D : Def K mg "_law_due" s_law_due ["_law_shop_here", "_law_some"] f fd) (D_law_sum : Def K mg "_law_sum" s_law_sum ["_law_one", "_law_other"] f1 fd1) (D_law_line_content : Def K mg "_law_line_content" s_law_line_content ["_law_shop_here", "_law_line"] f2 fd2) (D_law_line_price : Def K mg "_law_line_price" s_law_line_price ["_law_shop_here", "_law_line"] f3 fd3) :
    FnOk P w K mg base CX0 (k + 3) f fd ["_law_shop_here", "_law_some"] sp_due7 := by
  have G_law_sum : FnOk P w K mg base CX0 (k + 2) f1 fd1 ["_law_one", "_law_other"] sp_lawsum := ok_lawsum M D_law_sum
  have G_law_line_content : FnOk P w K mg base CX0 (k + 2) f2 fd2 ["_law_shop_here", "_law_line"] sp_lawcont := ok_lawcont M D_law_line_content D_law_sum
  have G_law_line_price : FnOk P w K mg base CX0 (k + 2) f3 fd3 ["_law_shop_here", "_law_line"] sp_lawprice := ok_lawprice M D_law_line_price
  refine D.F.ok sc_law_due (fun vs H Q E h => ?_) (fun cdv A outer s H vs Q E hr h => ?_)
  · obtain ⟨a, pa, os, las, ls, m, rfl, _⟩ := h
    rfl
  · obtain ⟨a, pa, os, las, ls, m, rfl, hS, h8, ft, hm4, hpa, al, lok, q⟩ := h
    obtain ⟨vs, h1, h2, h3⟩ := id hS
    have lal := al.len
    have fit := ft.fit hm4
    refine ⟨_, (pss_cutI (ps_set (i := 2) sc_law_due.nd rfl (Or.inl rfl) (pe_op op_rep (pe_lst (pa_cons pe_int pa_nil)) (pe_callB call_len_seq (by rfl) M.len (by decide +kernel) (pa_cons (pe_ix ix_tup (pe_ix ix_list (pe_op op_cat (pv 0) (pe_lst (pa_cons (pe_tup (pa_cons pe_str (pa_cons (pe_lst pa_nil) (pa_cons pe_int pa_nil)))) pa_nil))) pe_int (fun _ _ => rfl)) pe_int (fun _ _ => rfl)) pa_nil))))
  (pss_cons (ps_set (i := 3) sc_law_due.nd rfl (Or.inl rfl) pe_int)
  (pss_cons (ps_for PassesOwn.never rfl (pi_list (pv 1)) (pg_name (i := 4) sc_law_due.nd rfl (Or.inl rfl))
   (pss_cons (ps_set (i := 2) sc_law_due.nd rfl (Or.inl rfl) (pe_call G_law_sum hr (by rfl) D_law_sum.g D_law_sum.F.kp D_law_sum.b .nil pass0 (pa_cons (pv 2) (pa_cons (pe_call G_law_line_content hr (by rfl) D_law_line_content.g D_law_line_content.F.kp D_law_line_content.b .nil pass0 (pa_cons (pv 0) (pa_cons (pv 4) pa_nil))) pa_nil))))
  (pss_one (ps_set (i := 3) sc_law_due.nd rfl (Or.inl rfl) (pe_op op_add (pv 3) (pe_call G_law_line_price hr (by rfl) D_law_line_price.g D_law_line_price.F.kp D_law_line_price.b .nil pass0 (pa_cons (pv 0) (pa_cons (pv 4) pa_nil))))))))
  (pss_one (ps_ret (pe_tup (pa_cons (pv 2) (pa_cons (pv 3) pa_nil)))))))), ?_⟩
    refine ⟨fun σ' H' => ∃ r0 : Addr, σ' = [some (.ref a), some (.ref pa), some (.ref r0), none, none] ∧ Same H H' ∧ H r0 = none ∧ H' r0 = some (LI (zerosM os)), ?_, fun σ2 H2 hI => ?_⟩
    · refine ⟨by show 1 ≤ sizeLine; decide, fun l0 nl0 => ⟨_, rfl, Nat.zero_le _, fun e ne => ⟨by show 3 ≤ sizeLine; decide, fun t nt => ⟨by show 1 ≤ sizeLine; decide, fun L nL => ?_⟩⟩⟩⟩
      have x0 := same_upd (o := .lst [.int 0]) nl0
      have x1 := same_upd (o := .lst []) ne
      have x2 := same_upd (o := .tup [.str "", .ref e, .int 0]) nt
      have x3 := same_upd (o := .lst [.ref t]) nL
      have x03 := ((x0.trans x1).trans x2).trans x3
      refine ⟨a, L, _, _, rfl, rfl, x03 _ _ h1, upd_same, szL (by rw [List.length_map]; show vs.length + 1 ≤ _; omega), fun C nC => ?_⟩
      have x4 := same_upd (o := .lst (vs.map V.ref ++ [.ref t])) nC
      have x04 := x03.trans x4
      cases os with
      | nil =>
        have ev : vs = [] := List.eq_nil_of_length_eq_zero h2
        subst ev
        refine ⟨C, _, _, _, rfl, rfl, SqL.of upd_same, atI_nat (j := 0) rfl, t, _, _, _, rfl, rfl, SqT.of ((x3.trans x4) _ _ upd_same), atI_nat (j := 1) rfl, e, _, rfl, .inl (SqL.of (((x2.trans x3).trans x4) _ _ upd_same)), l0, _, _, rfl, rfl, (((x1.trans x2).trans x3).trans x4) _ _ upd_same, by decide, by decide, szL (by decide), fun p np => ?_⟩
        refine ⟨p, rfl, x04.trans (same_upd np), x04.free np, ?_⟩
        rw [upd_same]
        rfl
      | cons o rest =>
        obtain ⟨v, o', g1, g2, g3⟩ := ShopAt.get (H := H) (a := a) h2 (show 0 < (o :: rest).length from Nat.succ_pos _)
        cases Option.some.inj g2
        obtain ⟨b, r, hv, hb⟩ := (h3 0 v o g1 rfl).head
        have hl := (fit o List.mem_cons_self).1
        have g4 : (vs.map V.ref ++ [.ref t])[0]? = some (.ref v) := by
          rw [List.getElem?_append_left (List.getElem?_eq_some_iff.mp g3).1]
          exact g3
        refine ⟨C, _, _, _, rfl, rfl, SqL.of upd_same, atI_nat (j := 0) g4, v, _, _, _, rfl, rfl, SqT.of (x04 _ _ hv), atI_nat (j := 1) rfl, b, _, rfl, .inl (SqL.of (x04 _ _ hb)), l0, _, _, rfl, rfl, (((x1.trans x2).trans x3).trans x4) _ _ upd_same, by rw [List.length_map]; omega, by rw [List.length_map]; omega, ?_, fun p np => ?_⟩
        · rw [List.length_map, Int.toNat_natCast]
          exact szL (by show 1 * o.cont.length ≤ _; omega)
        · refine ⟨p, rfl, x04.trans (same_upd np), x04.free np, ?_⟩
          rw [upd_same, List.length_map, Int.toNat_natCast, rep_zeros]
          rfl
    · obtain ⟨r0, rfl, s2, nr0, hr0⟩ := hI
      refine ⟨_, rfl, pa, rfl, ⟨_, SqL.of (s2 _ _ hpa)⟩, for_list (K := K) (a := pa) (xs := las.map V.ref) (fun i σ H' => ∃ (r : Addr) (y4 : Option V), σ = [some (.ref a), some (.ref pa), some (.ref r), some (.int (bPriceM os (ls.take i))), y4] ∧ Same H H' ∧ H r = none ∧ H' r = some (LI (bContM os (ls.take i)))) ⟨r0, none, rfl, s2, nr0, hr0⟩ (fun i σ H' _ hp => ?_) (fun i x σ H3 hx hp => ?_) (fun σ H3 hp => ?_)⟩
      · obtain ⟨_, _, _, s3, _⟩ := hp
        exact SqL.of (s3 _ _ hpa)
      · obtain ⟨r, y4, rfl, s3, nr, hr3⟩ := hp
        rw [List.getElem?_map] at hx
        cases hu : las[i]? with
        | none => rw [hu] at hx; cases hx
        | some u =>
          rw [hu] at hx
          cases Option.some.inj hx
          obtain ⟨l, hl, hul⟩ := al.get hu
          have lk := lok l (List.mem_of_getElem? hl)
          have vl := cont_v0 ft lk
          have ne : os ≠ [] := by
            rintro rfl
            obtain ⟨p, _, w⟩ := lk
            rcases w with ⟨_, _, h, _⟩ | ⟨_, _, h, _⟩ <;> simp at h
          have vb : V0 m (bContM os (ls.take i)) := by
            unfold bContM
            rw [zerosM_m ft ne]
            exact V0.fold ⟨List.length_replicate, fun x hx => by rw [(List.mem_replicate.mp hx).2]; decide⟩ fun y hy => cont_v0 ft (lok y (List.mem_of_mem_take hy))
          refine ⟨_, rfl, _, rfl, _, rfl, a, u, os, l, m, rfl, hS.same s3, hul.same s3, lk, ft, hm4, fun H4 q4 s4 nq4 hq4 => ?_⟩
          refine ⟨r, q4, _, _, rfl, s4 _ _ hr3, hq4, by rw [vb.1, vl.1]; exact Nat.le_refl _, by rw [vb.1]; omega, fun H5 q5 s5 nq5 hq5 => ?_⟩
          have s35 := (s3.trans s4).trans s5
          refine ⟨_, rfl, _, rfl, _, rfl, a, u, os, l, rfl, hS.same s35, hul.same s35, lk, fun H6 s6 => ?_⟩
          refine ⟨_, _, rfl, rfl, q5, some (.ref u), ?_, s35.trans s6, (s3.trans s4).free nq5, ?_⟩
          · rw [bPrice_take hl]
            rfl
          · rw [bCont_take hl]
            exact s6 _ _ hq5
      · obtain ⟨r, y4, rfl, s3, nr, hr3⟩ := hp
        rw [List.length_map, lal, List.take_length] at hr3 ⊢
        refine ⟨_, rfl, _, rfl, by show 2 ≤ sizeLine; decide, fun p np => ?_⟩
        exact q _ p r (s3.trans (same_upd np)) (s3.free np) nr upd_same ((same_upd np) _ _ hr3)
end
/-! ### the law -/
abbrev s_law : Stmt := topS 33
abbrev N_law : List Str := ["_law_script", "_law_draws_here", "_law_shop_here", "_law_every", "_law_handed", "_law_turn", "_law_some", "_law_asked", "_law_due_here", "_law_again", "_law_found", "_law_line", "_law_k"]
theorem sc_law : FnScope N_law ["_law_script"] (defScope s_law) := ⟨rfl, rfl, rfl, by decide +kernel, rfl, by decide +kernel, by decide +kernel⟩

theorem menu7 {j : Nat} (h : j < 3) : ∃ v : Nat, ([V.int 2, V.int 4, V.int 11] : List V)[j]? = some (.int (v : Int)) ∧ 0 < v ∧ v ≤ 11 :=
  match j, h with
  | 0, _ => ⟨2, rfl, by decide, by decide⟩
  | 1, _ => ⟨4, rfl, by decide, by decide⟩
  | 2, _ => ⟨11, rfl, by decide, by decide⟩
structure Inv7 (T : List Addr) (d S hh L : Addr) (os : List Ofr) (as : List Addr) (H : Hp) : Prop where
  dr : ∃ ds, H d = some (LI ds)
  tb : Tb T H
  shop : ShopAt (cutH d H) S os
  hand : ShopAt (cutH d H) hh os
  lst : cutH d H L = some (.lst (as.map V.ref))
  lines : Al (LineAt (cutH d H)) as (linesM os)
theorem Inv7.ke {T : List Addr} {d S hh L : Addr} {os : List Ofr} {as : List Addr} {H H' : Hp} (I : Inv7 T d S hh L os as H) (e : Ext T H H') : Inv7 T d S hh L os as H' := by
  obtain ⟨ds, hd⟩ := I.dr
  have k := e.ke.cut (d := d)
  exact ⟨⟨ds, e.lst hd⟩, e.t1, I.shop.ke k, I.hand.ke k, k.lst I.lst, I.lines.imp fun l x h => h.ke k⟩
theorem Inv7.same {T : List Addr} {d S hh L : Addr} {os : List Ofr} {as : List Addr} {H H' : Hp} (I : Inv7 T d S hh L os as H) (s : Same H H') : Inv7 T d S hh L os as H' := I.ke (.same s I.tb)
theorem Inv7.but {T : List Addr} {d S hh L : Addr} {os : List Ofr} {as : List Addr} {H H' : Hp} (I : Inv7 T d S hh L os as H) (s : SameBut d H H') (hd' : ∃ ds, H' d = some (LI ds)) : Inv7 T d S hh L os as H' := by
  obtain ⟨ds, hd⟩ := I.dr
  have k := cut_same s
  exact ⟨hd', tb_but s hd I.tb, I.shop.same k, I.hand.same k, k _ _ I.lst, I.lines.imp fun l x h => h.same k⟩
def sp_law (K : PySem.W.Frag) (t1 t2 : Addr) : Sp := fun vs H Q _ => ∃ (a : Addr) (ns : List Int), vs = [.ref a] ∧ SqL K H a (ns.map V.int) ∧ ns.length ≤ 63 ∧ GxR.TabG H t1 ∧ GxR.TabG H t2 ∧ ∀ H', Q (.bl true) H'
section
variable {P : Program} {w : World} {K : PySem.W.Frag} {mg : Str → Option Value} {base : Heap}
theorem ok_law {f f_names_pack f_good_tiers f_can_stand f_look f_together f_content_of f_piece_price f_price_of f_bought f_law_draws f_law_pop f_law_whole f_law_numbers f_law_want f_law_cases f_law_content f_law_price f_law_tiers f_law_shop f_law_copied f_law_subsets f_law_lines f_law_sum f_law_line_content f_law_line_price f_law_due c1 t1 c2 t2 : Addr} {fd fd_names_pack fd_good_tiers fd_can_stand fd_look fd_together fd_content_of fd_piece_price fd_price_of fd_bought fd_law_draws fd_law_pop fd_law_whole fd_law_numbers fd_law_want fd_law_cases fd_law_content fd_law_price fd_law_tiers fd_law_shop fd_law_copied fd_law_subsets fd_law_lines fd_law_sum fd_law_line_content fd_law_line_price fd_law_due : FuncData} (M : Names mg) (D : Def K mg "law" s_law ["_law_script"] f fd)
    (D_names_pack : Def K mg "names_pack" s_names_pack ["shop", "at"] f_names_pack fd_names_pack)
    (D_good_tiers : Def K mg "good_tiers" s_good_tiers ["tiers"] f_good_tiers fd_good_tiers)
    (D_can_stand : Def K mg "can_stand" s_can_stand ["shop", "at"] f_can_stand fd_can_stand)
    (D_look : Def K mg "look" s_look ["shop"] f_look fd_look)
    (D_together : Def K mg "together" s_together ["content", "other"] f_together fd_together)
    (D_content_of : Def K mg "content_of" s_content_of ["shop", "line"] f_content_of fd_content_of)
    (D_piece_price : Def K mg "piece_price" s_piece_price ["tiers", "count"] f_piece_price fd_piece_price)
    (D_price_of : Def K mg "price_of" s_price_of ["shop", "line"] f_price_of fd_price_of)
    (D_bought : Def K mg "bought" s_bought ["shop", "purchase"] f_bought fd_bought)
    (D_law_draws : Def K mg "_law_draws" s_law_draws ["_law_script", "_law_turn", "_law_many"] f_law_draws fd_law_draws)
    (D_law_pop : Def K mg "_law_pop" s_law_pop ["_law_draws_here"] f_law_pop fd_law_pop)
    (D_law_whole : Def K mg "_law_whole" s_law_whole ["_law_found"] f_law_whole fd_law_whole)
    (D_law_numbers : Def K mg "_law_numbers" s_law_numbers ["_law_found", "_law_due_here"] f_law_numbers fd_law_numbers)
    (D_law_want : Def K mg "_law_want" s_law_want ["_law_draws_here", "_law_many"] f_law_want fd_law_want)
    (D_law_cases : Def K mg "_law_cases" s_law_cases ["_law_want_here"] f_law_cases fd_law_cases)
    (D_law_content : Def K mg "_law_content" s_law_content ["_law_draws_here", "_law_many"] f_law_content fd_law_content)
    (D_law_price : Def K mg "_law_price" s_law_price ["_law_draws_here"] f_law_price fd_law_price)
    (D_law_tiers : Def K mg "_law_tiers" s_law_tiers ["_law_draws_here"] f_law_tiers fd_law_tiers)
    (D_law_shop : Def K mg "_law_shop" s_law_shop ["_law_draws_here", "_law_many", "_law_most"] f_law_shop fd_law_shop)
    (D_law_copied : Def K mg "_law_copied" s_law_copied ["_law_shop_here"] f_law_copied fd_law_copied)
    (D_law_subsets : Def K mg "_law_subsets" s_law_subsets ["_law_places"] f_law_subsets fd_law_subsets)
    (D_law_lines : Def K mg "_law_lines" s_law_lines ["_law_shop_here"] f_law_lines fd_law_lines)
    (D_law_sum : Def K mg "_law_sum" s_law_sum ["_law_one", "_law_other"] f_law_sum fd_law_sum)
    (D_law_line_content : Def K mg "_law_line_content" s_law_line_content ["_law_shop_here", "_law_line"] f_law_line_content fd_law_line_content)
    (D_law_line_price : Def K mg "_law_line_price" s_law_line_price ["_law_shop_here", "_law_line"] f_law_line_price fd_law_line_price)
    (D_law_due : Def K mg "_law_due" s_law_due ["_law_shop_here", "_law_some"] f_law_due fd_law_due)
    (hc1 : fd_good_tiers.code = .ref c1) (TB1 : GxR.TabB base mg c1 t1) (hc2 : fd_price_of.code = .ref c2) (TB2 : GxR.TabB base mg c2 t2) :
    FnOk P w K mg base CX0 6 f fd ["_law_script"] (sp_law K t1 t2) := by
  have m1 : t1 ∈ [t1, t2] := List.mem_cons_self
  have m2 : t2 ∈ [t1, t2] := List.mem_cons_of_mem _ List.mem_cons_self
  have G_bought : FnOk P w K mg base CX0 5 f_bought fd_bought ["shop", "purchase"] (sp_bought [t1, t2]) := ok_bought M D_bought D_look D_can_stand D_names_pack D_good_tiers hc1 TB1 m1 D_content_of D_together D_price_of hc2 TB2 m2 D_piece_price
  have G_law_draws : FnOk P w K mg base CX0 5 f_law_draws fd_law_draws ["_law_script", "_law_turn", "_law_many"] (sp_draws K) := ok_draws M D_law_draws
  have G_law_pop : FnOk P w K mg base CX0 5 f_law_pop fd_law_pop ["_law_draws_here"] sp_pop := ok_pop D_law_pop
  have G_law_shop : FnOk P w K mg base CX0 5 f_law_shop fd_law_shop ["_law_draws_here", "_law_many", "_law_most"] sp_shop := ok_shop M D_law_shop D_law_content D_law_price D_law_tiers D_law_want D_law_pop D_law_cases
  have G_law_copied : FnOk P w K mg base CX0 5 f_law_copied fd_law_copied ["_law_shop_here"] sp_copied := ok_copied M D_law_copied
  have G_law_lines : FnOk P w K mg base CX0 5 f_law_lines fd_law_lines ["_law_shop_here"] sp_lawlines := ok_lawlines M D_law_lines D_law_subsets
  have G_law_due : FnOk P w K mg base CX0 5 f_law_due fd_law_due ["_law_shop_here", "_law_some"] sp_due7 := ok_due7 M D_law_due D_law_sum D_law_line_content D_law_line_price
  have G_law_whole : FnOk P w K mg base CX0 5 f_law_whole fd_law_whole ["_law_found"] sp_whole := ok_whole M D_law_whole
  have G_law_numbers : FnOk P w K mg base CX0 5 f_law_numbers fd_law_numbers ["_law_found", "_law_due_here"] (sp_numbers K) := ok_numbers M D_law_numbers D_law_whole
  refine D.F.ok sc_law (fun vs H Q E h => ?_) (fun cdv A outer s H vs Q E hr h => ?_)
  · obtain ⟨a, ns, rfl, _⟩ := h
    rfl
  · obtain ⟨a, ns, rfl, hS0, hlen, hT1, hT2, q⟩ := h
    have hT : Tb [t1, t2] H := fun t ht => by
      rcases List.mem_cons.mp ht with rfl | ht
      · exact hT1
      · rw [List.mem_singleton.mp ht]
        exact hT2
    refine ⟨_, (pss_cons (ps_set (i := 1) sc_law.nd rfl (Or.inr rfl) (pe_call G_law_draws hr (by rfl) D_law_draws.g D_law_draws.F.kp D_law_draws.b .nil pass0 (pa_cons (pv 0) (pa_cons pe_int (pa_cons pe_int pa_nil)))))
  (pss_cons (ps_set (i := 2) sc_law.nd rfl (Or.inl rfl) (pe_call G_law_shop hr (by rfl) D_law_shop.g D_law_shop.F.kp D_law_shop.b .nil pass0 (pa_cons (pv 1) (pa_cons (pe_op op_add pe_int (pe_op op_mod (pe_call G_law_pop hr (by rfl) D_law_pop.g D_law_pop.F.kp D_law_pop.b .nil pass0 (pa_cons (pv 1) pa_nil)) pe_int)) (pa_cons pe_int pa_nil)))))
  (pss_cons (ps_set (i := 3) sc_law.nd rfl (Or.inr rfl) (pe_call G_law_lines hr (by rfl) D_law_lines.g D_law_lines.F.kp D_law_lines.b .nil pass0 (pa_cons (pv 2) pa_nil)))
  (pss_cons (ps_set (i := 4) sc_law.nd rfl (Or.inl rfl) (pe_call G_law_copied hr (by rfl) D_law_copied.g D_law_copied.F.kp D_law_copied.b .nil pass0 (pa_cons (pv 2) pa_nil)))
  (pss_cons (ps_for PassesOwn.never rfl (pi_range1 (by rfl) M.range (pa_cons pe_int pa_nil)) (pg_name (i := 5) sc_law.nd rfl (Or.inl rfl))
   (pss_cons (ps_set (i := 6) sc_law.nd rfl (Or.inl rfl) (pe_lst pa_nil))
  (pss_cutI (ps_if (pt_cmpR (op_neD hr.units) (pv 3) (pe_lst pa_nil) (nomark _))
   (pss_one (ps_setLc (i := 6) (own := [("_law_k", 12)]) (by rfl) sc_law.nd rfl rfl (sw_true rfl rfl rfl (by decide +kernel)) (pi_range1 (by rfl) M.range (pa_cons (pe_op op_mod (pe_call G_law_pop hr (by rfl) D_law_pop.g D_law_pop.F.kp D_law_pop.b .nil pass0 (pa_cons (pv 1) pa_nil)) (pe_ix ix_list (pe_lst (pa_cons pe_int (pa_cons pe_int (pa_cons pe_int pa_nil)))) (pe_op op_mod (pv 5) pe_int) (fun _ _ => rfl))) pa_nil)) (blkOk_by (own := [("_law_k", 12)]) (N := N_law) (sc := defScope s_law) (by decide +kernel)) (fun _ _ _ _ _ => (pg_name (i := 12) sc_law.nd rfl (Or.inl rfl))) (fun _ _ _ _ _ => pts_nil) (fun _ _ _ _ _ => (pe_ix (ix_listK (K := K) rfl) (pv 3) (pe_op op_mod (pe_call G_law_pop hr (by rfl) D_law_pop.g D_law_pop.F.kp D_law_pop.b .nil pass0 (pa_cons (pv 1) pa_nil)) (pe_callB (call_len_seqK (K := K) rfl) (by rfl) M.len (by decide +kernel) (pa_cons (pv 3) pa_nil))) (fun _ _ => rfl)))))
   pss_nil)
  (pss_cons (ps_setLc (i := 7) (own := [("_law_line", 11)]) (by rfl) sc_law.nd rfl rfl (sw_true rfl rfl rfl (by decide +kernel)) (pi_list (pv 6)) (blkOk_by (own := [("_law_line", 11)]) (N := N_law) (sc := defScope s_law) (by decide +kernel)) (fun _ _ _ _ _ => (pg_name (i := 11) sc_law.nd rfl (Or.inl rfl))) (fun _ _ _ _ _ => pts_nil) (fun _ _ _ _ _ => (pe_tup (pa_cons (pe_ix (ix_tupK (K := K) rfl) (pv 11) pe_int (fun _ _ => rfl)) (pa_cons (pe_ix (ix_tupK (K := K) rfl) (pv 11) pe_int (fun _ _ => rfl)) (pa_cons (pe_callTy (call_list_ofK (K := K) rfl) (by rfl) M.list (by decide +kernel) (pa_cons (pe_ix (ix_tupK (K := K) rfl) (pv 11) pe_int (fun _ _ => rfl)) pa_nil)) pa_nil))))))
  (pss_cons (ps_set (i := 8) sc_law.nd rfl (Or.inl rfl) (pe_call G_law_due hr (by rfl) D_law_due.g D_law_due.F.kp D_law_due.b .nil pass0 (pa_cons (pv 2) (pa_cons (pv 6) pa_nil))))
  (pss_one (ps_for PassesOwn.never rfl (pi_range1 (by rfl) M.range (pa_cons pe_int pa_nil)) (pg_name (i := 9) sc_law.nd rfl (Or.inl rfl))
   (pss_cons (ps_set (i := 10) sc_law.nd rfl (Or.inl rfl) (pe_call G_bought hr (by rfl) D_bought.g D_bought.F.kp D_bought.b .nil pass0 (pa_cons (pv 4) (pa_cons (pv 7) pa_nil))))
  (pss_cons (ps_if (PW.pt (pw_or (pt_not (pt_val (pe_callB call_isi (by rfl) M.isinstance (by decide +kernel) (pa_cons (pv 10) (pa_cons (pe_bltn (v := .ty "tuple") (by rfl) M.tuple (by decide +kernel) rfl) pa_nil))))) (pw_or (pt_cmpR op_ne (pe_callB call_len_seq (by rfl) M.len (by decide +kernel) (pa_cons (pv 10) pa_nil)) pe_int (nomark _)) (pw_or1 (pt_not (pt_val (pe_call G_law_numbers hr (by rfl) D_law_numbers.g D_law_numbers.F.kp D_law_numbers.b .nil pass0 (pa_cons (pe_ix ix_tup (pv 10) pe_int (fun _ _ => rfl)) (pa_cons (pe_ix ix_tup (pv 8) pe_int (fun _ _ => rfl)) pa_nil)))))))))
   (pss_one (ps_ret pe_bl))
   pss_nil)
  (pss_cons (ps_if (PW.pt (pw_or (pt_not (pt_val (pe_call G_law_whole hr (by rfl) D_law_whole.g D_law_whole.F.kp D_law_whole.b .nil pass0 (pa_cons (pe_ix ix_tup (pv 10) pe_int (fun _ _ => rfl)) pa_nil)))) (pw_or (pt_cmpR op_ne (pe_ix ix_tup (pv 10) pe_int (fun _ _ => rfl)) (pe_ix ix_tup (pv 8) pe_int (fun _ _ => rfl)) (nomark _)) (pw_or (pt_cmpR (op_neD hr.units) (pv 7) (pv 6) (nomark _)) (pw_or1 (pt_cmpR (op_neD hr.units) (pv 4) (pv 2) (nomark _)))))))
   (pss_one (ps_ret pe_bl))
   pss_nil)
  (pss_one (ps_expr (pe_bm PySem.F.plainAttrs_list PySem.F.slot_list_append PySem.F.type_list_append mt_append (pe_ix ix_tup (pv 10) pe_int (fun _ _ => rfl)) (pa_cons pe_int pa_nil))))))))))))))
  (pss_one (ps_ret pe_bl))))))), ?_⟩
    refine ⟨_, rfl, a, ns, 2, 120, rfl, hS0, by omega, by omega, by omega, fun H1 d ds s1 nd hd => ?_⟩
    refine ⟨_, rfl, _, rfl, d, ds, rfl, hd, fun H2 s2 hd2 => ?_⟩
    have hT2 := tb_but s2 hd (tb_same s1 hT)
    generalize ds.headD 0 = x0
    obtain ⟨m, hm1, hm4, em⟩ := draw4 x0
    refine ⟨_, _, rfl, rfl, (by show (0 : Int) < _; decide), _, _, rfl, rfl, d, _, m, 6, by show [V.ref d, V.int (1 + x0 % 4), V.int 6] = _; rw [em]; rfl, hd2, hm1, hm4, by decide, fun H3 S os ns3 s3 nS hsh gd ft hl6 hd3 => ?_⟩
    have hT3 := tb_but s3 hd2 hT2
    have hS3 : ShopAt H3 S os := hsh.same cut_le
    have fit := ft.fit hm4
    have tot : (linesM os).length ≤ 2048 := by
      have := linesN_len gd.1 os.length
      have h8 := gd.1
      unfold linesM
      omega
    -- every
    refine ⟨_, rfl, S, os, rfl, hS3, gd.1, fun H4 L s4 nL hL => ?_⟩
    obtain ⟨as, hLl, alF⟩ := hL
    have nLd : L ≠ d := fun z => by rw [z, hd3] at nL; cases nL
    have al4 : Al (LineAt (cutH d H4)) as (linesM os) := alF.imp fun l x h => h.cut (by rw [hd3]; exact fun z => nomatch z)
    have lal := al4.len
    have hd4 := s4 _ _ hd3
    have hsh4 := hsh.same (cut_mono (d := d) s4)
    -- handed
    refine ⟨_, rfl, S, os, rfl, hS3.same s4, by omega, fun H5 hh s5 nhh hcut _ => ?_⟩
    have I5 : Inv7 [t1, t2] d S hh L os as H5 := ⟨⟨_, s5 _ _ hd4⟩, tb_same s5 (tb_same s4 hT3), hsh4.same (cut_mono s5), hcut d _ hd4, cut_put nLd (s5 _ _ hLl), al4.imp fun l x h => h.same (cut_mono s5)⟩
    refine ⟨_, rfl, by decide, by decide, for_range (n := 4) (fun i σ H' => ∃ y5 y6 y7 y8 y9 y10, σ = [some (.ref a), some (.ref d), some (.ref S), some (.ref L), some (.ref hh), y5, y6, y7, y8, y9, y10, none, none] ∧ Inv7 [t1, t2] d S hh L os as H') ⟨none, none, none, none, none, none, rfl, I5⟩ (fun i σ H6 hi hp => ?_) (fun σ H6 _ => q H6)⟩
    obtain ⟨y5, y6, y7, y8, y9, y10, rfl, I6⟩ := hp
    -- some
    refine ⟨Nat.zero_le _, fun B0 nB0 => ?_⟩
    have sB := same_upd (o := .lst []) nB0
    have I7 := I6.same sB
    have hB7 : upd H6 B0 (.lst []) B0 = some (.lst []) := upd_same
    obtain ⟨ds6, hd6⟩ := I6.dr
    have nB0d : B0 ≠ d := fun z => by rw [z, hd6] at nB0; cases nB0
    generalize upd H6 B0 (.lst []) = H7 at sB I7 hB7 ⊢
    refine ⟨fun σ' H' => ∃ (B : Addr) (las : List Addr) (ls : List Ln), σ' = [some (.ref a), some (.ref d), some (.ref S), some (.ref L), some (.ref hh), some (.int (0 + (i : Nat))), some (.ref B), y7, y8, y9, y10, none, none] ∧ Inv7 [t1, t2] d S hh L os as H' ∧ H' B = some (.lst (las.map V.ref)) ∧ Al (LineAt H') las ls ∧ ls.length ≤ 11 ∧ ∀ l ∈ ls, l ∈ linesM os, ?_, fun σ8 H8 hI => ?_⟩
    · refine ⟨_, rfl, Nat.zero_le _, fun z0 nz0 => ?_⟩
      have sz := same_upd (o := .lst []) nz0
      have hz0 : upd H7 z0 (.lst []) z0 = some (.lst []) := upd_same
      have I8 := I7.same sz
      have hB8 := sz _ _ hB7
      generalize upd H7 z0 (.lst []) = H8 at sz hz0 I8 hB8 ⊢
      refine ⟨_, _, .lst (SqL.of (cut_le _ _ I8.lst)) (dp_lines (I8.lines.imp fun l x h => h.same cut_le)), .lst (SqL.of hz0) .nil, shaped_lines _, shaped_ints [], _, rfl, ite2 (fun z => ?_) (fun z => ?_)⟩
      · have ne : 0 < (linesM os).length := by
          rcases Nat.eq_zero_or_pos (linesM os).length with y | y
          · rw [eqv_lines_nil, decide_eq_true (List.eq_nil_of_length_eq_zero y)] at z
            cases z
          · exact y
        obtain ⟨ds8, hd8⟩ := I8.dr
        refine ⟨_, rfl, d, _, rfl, hd8, fun H9 s9 hd9 => ⟨by show 3 ≤ sizeLine; decide, fun e ne' => ?_⟩⟩
        have I9 := I8.but s9 ⟨_, hd9⟩
        have se := same_upd (o := .lst [.int 2, .int 4, .int 11]) ne'
        have he : upd H9 e (.lst [.int 2, .int 4, .int 11]) e = some (.lst [.int 2, .int 4, .int 11]) := upd_same
        have I10 := I9.same se
        have hd10 := se _ _ hd9
        generalize upd H9 e (.lst [.int 2, .int 4, .int 11]) = H10 at se he I10 hd10 ⊢
        generalize ds8.headD 0 = x1
        obtain ⟨j3, hj3, ej3⟩ := mod_at (i := (0 : Int) + (i : Nat)) (n := 3) (by decide)
        obtain ⟨vn, hvn, vn0, vn11⟩ := menu7 hj3
        obtain ⟨cnt, hcnt, ecnt⟩ := mod_at (i := x1) (n := vn) vn0
        refine ⟨_, rfl, _, _, rfl, rfl, (by show (0 : Int) < _; decide), e, _, _, _, rfl, rfl, SqL.of he, at_of ej3 hvn, _, _, rfl, rfl, (by show (0 : Int) < (vn : Int); omega), (cnt : Int), (by show [V.int (x1 % (vn : Int))] = [V.int (cnt : Int)]; rw [ecnt]), by omega, by omega, fun B nB => lc_range (lo := 0) (n := (cnt : Int).toNat) (fun j H' => SameBut d H10 H' ∧ (∃ ds, H' d = some (LI ds)) ∧ B ≠ d ∧ ∃ (las : List Addr) (ls : List Ln), H' B = some (.lst (las.map V.ref)) ∧ Al (LineAt (cutH d H10)) las ls ∧ ls.length ≤ j ∧ ∀ l ∈ ls, l ∈ linesM os) ⟨.of (same_upd nB), ⟨_, (same_upd nB) _ _ hd10⟩, (ne_of_none hd10 nB).symm, [], [], upd_same, True.intro, Nat.le_refl _, fun l hl => by cases hl⟩ (fun j H11 hj hJ => ?_) (fun H11 hJ => ?_)⟩
        · obtain ⟨s11, ⟨ds11, hd11⟩, nBd, las, ls, hB, all, lls, sub⟩ := hJ
          refine ⟨rfl, _, rfl, _, rfl, d, _, rfl, hd11, fun H12 s12 hd12 => ?_⟩
          have hL12 := cut_le _ _ ((cut_same (s11.trans s12)) _ _ I10.lst)
          obtain ⟨ii, hii, eii⟩ := mod_at (i := ds11.headD 0) (n := (as.map V.ref).length) (by rw [List.length_map]; omega)
          rw [List.length_map] at hii
          have gi : (as.map V.ref)[ii]? = some (.ref as[ii]) := by rw [List.getElem?_map, List.getElem?_eq_getElem hii]; rfl
          obtain ⟨l, hl, hul⟩ := I10.lines.get (List.getElem?_eq_getElem hii)
          have ll := all.len
          refine ⟨_, rfl, L, _, rfl, .inl (SqL.of hL12), _, _, rfl, rfl, (by rw [List.length_map]; omega), L, _, _, _, rfl, rfl, SqL.of hL12, at_of eii gi, _, s12 _ _ nBd hB, szL' (by rw [List.length_map]; omega), ?_, ⟨_, by rw [upd_ne nBd.symm]; exact hd12⟩, nBd, las ++ [as[ii]], ls ++ [l], ?_, Al.app all (.one hul), by rw [List.length_append, List.length_singleton]; omega, fun y hy => ?_⟩
          · exact (s11.trans s12).new nB
          · rw [upd_same, List.map_append]
            rfl
          · rcases List.mem_append.mp hy with y1 | y1
            · exact sub y y1
            · rw [List.mem_singleton.mp y1]
              exact List.mem_of_getElem? hl
        · obtain ⟨s11, hd11, nBd, las, ls, hB, all, lls, sub⟩ := hJ
          exact ⟨B, las, ls, rfl, I10.but s11 hd11, hB, all.imp fun l x h => (h.same (cut_same s11)).same cut_le, by omega, sub⟩
      · exact ⟨B0, [], [], rfl, I8, hB8, True.intro, by decide, fun l hl => by cases hl⟩
    · obtain ⟨B, las, ls, rfl, I8, hB8, all8, lls, sub⟩ := hI
      have lok : ∀ l ∈ ls, LineOk os l := fun l hl => lines_ok gd (sub l hl)
      have ll := all8.len
      -- asked
      refine ⟨_, rfl, B, rfl, ⟨_, SqL.of hB8⟩, fun C nC => lc_list (xs := las.map V.ref) (fun j H' => Same H8 H' ∧ ∃ cs : List Addr, H' C = some (.lst (cs.map V.ref)) ∧ Al (LineB H8 H' C) cs (ls.take j)) ⟨same_upd nC, [], upd_same, True.intro⟩ (fun j H' _ hp => SqL.of (hp.1 _ _ hB8)) (fun j x H9 hx hJ => ?_) (fun H9 hJ => ?_)⟩
      · obtain ⟨s9, cs, hC, alc⟩ := hJ
        rw [List.getElem?_map] at hx
        cases hu : las[j]? with
        | none => rw [hu] at hx; cases hx
        | some u =>
          rw [hu] at hx
          cases Option.some.inj hx
          obtain ⟨l, hl, hul⟩ := all8.get hu
          obtain ⟨b, hl1, hl2⟩ := hul.same s9
          refine ⟨rfl, _, rfl, u, _, _, _, rfl, rfl, SqT.of hl1, atI_nat (j := 0) rfl, _, rfl, u, _, _, _, rfl, rfl, SqT.of hl1, atI_nat (j := 1) rfl, _, rfl, u, _, _, _, rfl, rfl, SqT.of hl1, atI_nat (j := 2) rfl, b, _, rfl, .inl (SqL.of hl2), fun b' nb' => ⟨by show 3 ≤ sizeLine; decide, fun t nt => ?_⟩⟩
          have s10 := (same_upd (o := .lst (l.as.map V.int)) nb').trans (same_upd (o := .tup [.int l.p, .int l.c, .ref b']) nt)
          have nbC : b' ≠ C := fun z => by rw [z, hC] at nb'; cases nb'
          have ntC : t ≠ C := fun z => by rw [z, (same_upd nb') _ _ hC] at nt; cases nt
          have lcs := alc.len
          rw [List.length_take] at lcs
          refine ⟨_, s10 _ _ hC, szL' (by rw [List.length_map]; omega), sm_new (s9.trans s10) nC, cs ++ [t], ?_, ?_⟩
          · rw [upd_same, List.map_append]
            rfl
          · rw [take_succ_at hl]
            refine Al.app (alc.imp fun l x h => h.keep ((SameBut.of s10).trans .upd)) (.one ⟨b', ?_, ?_, s9.free ((same_upd nb').free nt), s9.free nb', ntC, nbC⟩)
            · rw [upd_ne ntC]
              exact upd_same
            · rw [upd_ne nbC]
              exact (same_upd nt) _ _ upd_same
      · obtain ⟨s9, cs, hC, alc⟩ := hJ
        rw [List.length_map, ll, List.take_length] at alc
        have I9 := I8.same s9
        have ask9 : Al (LineAt H9) cs ls := alc.imp fun l x h => h.toF.at
        have some9 : Al (LineAt H9) las ls := all8.imp fun l x h => h.same s9
        have hB9 := s9 _ _ hB8
        -- due
        refine ⟨_, rfl, _, rfl, S, B, os, las, ls, m, rfl, I9.shop.same cut_le, gd.1, ft, hm4, hB9, some9, lok, fun H10 dq r s10 ndq nr hdq hr => ?_⟩
        have I10 := I9.same s10
        refine ⟨_, rfl, by decide, by decide, for_range (n := 2) (fun j σ H' => ∃ y9 y10, σ = [some (.ref a), some (.ref d), some (.ref S), some (.ref L), some (.ref hh), some (.int (0 + (i : Nat))), some (.ref B), some (.ref C), some (.ref dq), y9, y10, none, none] ∧ Ext [t1, t2] H10 H') ⟨_, _, rfl, .refl I10.tb⟩ (fun j σ H11 hj hp => ?_) (fun σ H11 hp => ?_)⟩
        · obtain ⟨y9, y10, rfl, e11⟩ := hp
          have e911 : Ext [t1, t2] H9 H11 := (Ext.same s10 I9.tb).trans e11
          have I11 := I10.ke e11
          refine ⟨_, rfl, _, rfl, hh, C, os, cs, ls, rfl, I11.hand.same cut_le, gd, fit, e911.lst hC, ask9.imp fun l x h => h.ext e911, lok, I11.tb, fun H12 fq rf e12 nfq nrf hfq hrf => ?_⟩
          have e1012 := e11.trans e12
          refine ⟨_, rfl, _, _, _, _, true, rfl, .ty "tuple", .base (.tup hfq), kit_ty (by decide +kernel), true, rfl, ?_⟩
          refine ⟨_, rfl, fq, _, rfl, .inr (SqT.of hfq), rfl, false, rfl, ?_⟩
          refine ⟨_, rfl, fq, _, _, _, rfl, rfl, SqT.of hfq, atI_nat (j := 0) rfl, _, rfl, dq, _, _, _, rfl, rfl, SqT.of (e1012.tup hdq), atI_nat (j := 0) rfl, rf, r, _, rfl, hrf, SqL.of (e1012.lst hr), fun H13 s13 => ⟨true, rfl, ?_⟩⟩
          have e1013 := e1012.trans (.same s13 e1012.t1)
          have e913 := (Ext.same s10 I9.tb).trans e1013
          have I13 := I10.ke e1013
          have hfq13 := s13 _ _ hfq
          have hrf13 := s13 _ _ hrf
          refine ⟨_, rfl, fq, _, _, _, rfl, rfl, SqT.of hfq13, atI_nat (j := 1) rfl, _, rfl, true, rfl, ?_⟩
          refine ⟨_, rfl, fq, _, _, _, rfl, rfl, SqT.of hfq13, atI_nat (j := 1) rfl, _, rfl, dq, _, _, _, rfl, rfl, SqT.of (e1013.tup hdq), atI_nat (j := 1) rfl, rfl, false, (by show V.bl _ = V.bl _; rw [decide_eq_true rfl]; rfl), ?_⟩
          refine ⟨_, rfl, _, rfl, _, _, .lst (SqL.of (e913.lst hC)) (dp_lines (ask9.imp fun l x h => h.ext e913)), .lst (SqL.of (e913.lst hB9)) (dp_lines (some9.imp fun l x h => h.ext e913)), shaped_lines _, shaped_lines _, false, (by rw [eqv_self (shaped_lines _)]; rfl), ?_⟩
          refine ⟨_, rfl, _, rfl, _, _, (I13.hand.same cut_le).dp, (I13.shop.same cut_le).dp, shaped_shop _, shaped_shop _, false, (by rw [eqv_self (shaped_shop _)]; rfl), ?_⟩
          have bl := bCont_len fit ls
          exact ⟨_, rfl, fq, _, _, _, rfl, rfl, SqT.of hfq13, atI_nat (j := 0) rfl, .inl ⟨rfl, _, SqL.of hrf13⟩, rf, _, _, rfl, rfl, hrf13, szL' (by rw [List.length_map]; omega), _, _, rfl, e1013.new (e11.free _ nrf)⟩
        · obtain ⟨y9, y10, rfl, e11⟩ := hp
          exact ⟨_, _, _, _, _, _, rfl, I10.ke e11⟩
end
/-! ### the end, with tables of code objects -/
theorem tabIn_of {K : PySem.W.Frag} {x : Str} {f c P : Addr} {oc e : Value} {od dd : Option Addr} {fd : FuncData} {sl sl' : Array (Option Value)} {vs : Array Value} (a : PySem.W.nsIn K mainGlobals x = some (some (.ref f))) (l : K.lookup f = some ⟨oc, od, .func fd, sl⟩) (hc : fd.code = .ref c)
    (lc : K.lookup c = some ⟨e, dd, .fields vs, sl'⟩) (hv : vs[11]? = some (.ref P)) : PySem.W.tabIn K x = some (c, P) := by
  unfold PySem.W.tabIn
  rw [a]
  simp only [l, hc, lc, hv]
theorem walk_ofG {l : PySem.W.OpenLaw} {n k : Nat} {q : Program} {loose : List Str} {XP : (Str → Option Value) → Heap → Prop} {YP : World → Heap → Prop} {d : DefRec} {K : Params → PySem.W.Frag} {CX : World → CXT} {x : Str}
    (hn : l.most = some n) (hn2 : n ≤ sizeLine) (hdf : d.params.defaults = []) (hr : Room k callerA) (hY : ∀ (w : World) (h : Heap), YP w h → (K w.params).In h)
    (F : ∀ (w : World) (mg : Str → Option Value) (fa : Addr) (h : Heap), (K w.params).In h → h.Ns mainGlobals mg → mg d.name = some (.ref fa) →
      (∀ (y : Str) (c P : Addr), ((recsOf q).find? fun e => e.name == y).isSome = true → PySem.W.tabIn (K w.params) y = some (c, P) → PySem.W.CodeHd h c P ∧ h.get? P = some { cls := .none, data := .fields #[] }) → LamX.LawAtS l w (K w.params) (CX w) k n x mg fa h)
    (hCX : ∀ (w : World) (H : Hp) (s : Shared) (e : Value) (s' : Shared), CX w [] H s (fun _ _ _ => False) e s' → False) :
    PySem.W.WalkO q loose XP YP l.row.toRowW d [] (fun f vs => PySem.call f vs) := by
  refine Att.attach_callB hn hdf fun w s₀ s₁ mg mb fa o pm cd doc a vs ns G Y ho hd hcd hmg hobj hints hlen hbits hg => ?_
  have KX := hY w _ Y
  obtain ⟨fd, cs, sp, hT, nT, C, hb, hsp, hF⟩ := F w mg fa _ KX G.T.g hmg fun y c P hy ht => by
    obtain ⟨dd, hdd⟩ := Option.isSome_iff_exists.mp hy
    exact PySem.W.tab_of G.T KX hdd ht
  exact LamX.law_callTs KX G.T.g G.T.b G.T.builtins G.T.nolimit hg hT nT C G.T.bmain hobj hints (Nat.le_trans hlen hn2) hr hF hb (fun H hH hS => hsp H a ns hlen hbits hH hS) fun H e s' => hCX w H s₁ e s'
/-! ### what the top has written -/
theorem all_mk {l : PySem.W.OpenLaw} {w : World} {q : Program} {K : PySem.W.Frag} {h : Heap} {mg : Str → Option Value} {fa f1 f2 f3 f4 f5 f6 f7 f8 f9 f10 f11 f12 f13 f14 f15 f16 f17 f18 f19 f20 f21 f22 f23 f24 f25 f26 f27 : Addr} (X : K.In h) (G : h.Ns mainGlobals mg) (hfa : mg "law" = some (.ref fa))
    (tabs : ∀ (y : Str) (c P : Addr), ((recsOf q).find? fun e => e.name == y).isSome = true → PySem.W.tabIn K y = some (c, P) → PySem.W.CodeHd h c P ∧ h.get? P = some { cls := .none, data := .fields #[] })
    {od1 an1 od2 an2 od3 an3 od4 an4 od5 an5 od6 an6 od7 an7 od8 an8 od9 an9 od10 an10 od11 an11 od12 an12 od13 an13 od14 an14 od15 an15 od16 an16 od17 an17 od18 an18 od19 an19 od20 an20 od21 an21 od22 an22 od23 an23 od24 an24 od25 an25 od26 an26 od27 an27 : Option Addr} {sl1 sl2 sl3 sl4 sl5 sl6 sl7 sl8 sl9 sl10 sl11 sl12 sl13 sl14 sl15 sl16 sl17 sl18 sl19 sl20 sl21 sl22 sl23 sl24 sl25 sl26 sl27 : Array (Option Value)} {oc1 kV1 dc1 pm1 ct1 cd1 oc2 kV2 dc2 pm2 ct2 cd2 oc3 kV3 dc3 pm3 ct3 oc4 kV4 dc4 pm4 ct4 cd4 oc5 kV5 dc5 pm5 ct5 cd5 oc6 kV6 dc6 pm6 ct6 cd6 oc7 kV7 dc7 pm7 ct7 cd7 oc8 kV8 dc8 pm8 ct8 cd8 oc9 kV9 dc9 pm9 ct9 oc10 kV10 dc10 pm10 ct10 cd10 oc11 kV11 dc11 pm11 ct11 cd11 oc12 kV12 dc12 pm12 ct12 cd12 oc13 kV13 dc13 pm13 ct13 cd13 oc14 kV14 dc14 pm14 ct14 cd14 oc15 kV15 dc15 pm15 ct15 cd15 oc16 kV16 dc16 pm16 ct16 cd16 oc17 kV17 dc17 pm17 ct17 cd17 oc18 kV18 dc18 pm18 ct18 cd18 oc19 kV19 dc19 pm19 ct19 cd19 oc20 kV20 dc20 pm20 ct20 cd20 oc21 kV21 dc21 pm21 ct21 cd21 oc22 kV22 dc22 pm22 ct22 cd22 oc23 kV23 dc23 pm23 ct23 cd23 oc24 kV24 dc24 pm24 ct24 cd24 oc25 kV25 dc25 pm25 ct25 cd25 oc26 kV26 dc26 pm26 ct26 cd26 oc27 kV27 dc27 pm27 ct27 cd27 : Value}
    {cT3 PT3 : Addr} {eT3 : Value} {dT3 : Option Addr} {vT3 : Array Value} {sT3 : Array (Option Value)}
    {cT9 PT9 : Addr} {eT9 : Value} {dT9 : Option Addr} {vT9 : Array Value} {sT9 : Array (Option Value)}
    (a1 : PySem.W.nsIn K mainGlobals "law" = some (some (.ref f1))) (l1 : K.lookup f1 = some ⟨oc1, od1, .func (PySem.W.fnOf "law" "law" (defArgs s_law) (defBody s_law) (defScope s_law) .none kV1 dc1 pm1 an1 cd1 ct1), sl1⟩) (c1 : PySem.W.codeIn K cd1 "law" = true) (k1 : PySem.W.keepIn K (.ref f1) = true)
    (a2 : PySem.W.nsIn K mainGlobals "names_pack" = some (some (.ref f2))) (l2 : K.lookup f2 = some ⟨oc2, od2, .func (PySem.W.fnOf "names_pack" "names_pack" (defArgs s_names_pack) (defBody s_names_pack) (defScope s_names_pack) .none kV2 dc2 pm2 an2 cd2 ct2), sl2⟩) (c2 : PySem.W.codeIn K cd2 "names_pack" = true) (k2 : PySem.W.keepIn K (.ref f2) = true)
    (a3 : PySem.W.nsIn K mainGlobals "good_tiers" = some (some (.ref f3))) (l3 : K.lookup f3 = some ⟨oc3, od3, .func (PySem.W.fnOf "good_tiers" "good_tiers" (defArgs s_good_tiers) (defBody s_good_tiers) (defScope s_good_tiers) .none kV3 dc3 pm3 an3 (.ref cT3) ct3), sl3⟩) (c3 : PySem.W.codeIn K (.ref cT3) "good_tiers" = true) (k3 : PySem.W.keepIn K (.ref f3) = true)
    (a4 : PySem.W.nsIn K mainGlobals "can_stand" = some (some (.ref f4))) (l4 : K.lookup f4 = some ⟨oc4, od4, .func (PySem.W.fnOf "can_stand" "can_stand" (defArgs s_can_stand) (defBody s_can_stand) (defScope s_can_stand) .none kV4 dc4 pm4 an4 cd4 ct4), sl4⟩) (c4 : PySem.W.codeIn K cd4 "can_stand" = true) (k4 : PySem.W.keepIn K (.ref f4) = true)
    (a5 : PySem.W.nsIn K mainGlobals "look" = some (some (.ref f5))) (l5 : K.lookup f5 = some ⟨oc5, od5, .func (PySem.W.fnOf "look" "look" (defArgs s_look) (defBody s_look) (defScope s_look) .none kV5 dc5 pm5 an5 cd5 ct5), sl5⟩) (c5 : PySem.W.codeIn K cd5 "look" = true) (k5 : PySem.W.keepIn K (.ref f5) = true)
    (a6 : PySem.W.nsIn K mainGlobals "together" = some (some (.ref f6))) (l6 : K.lookup f6 = some ⟨oc6, od6, .func (PySem.W.fnOf "together" "together" (defArgs s_together) (defBody s_together) (defScope s_together) .none kV6 dc6 pm6 an6 cd6 ct6), sl6⟩) (c6 : PySem.W.codeIn K cd6 "together" = true) (k6 : PySem.W.keepIn K (.ref f6) = true)
    (a7 : PySem.W.nsIn K mainGlobals "content_of" = some (some (.ref f7))) (l7 : K.lookup f7 = some ⟨oc7, od7, .func (PySem.W.fnOf "content_of" "content_of" (defArgs s_content_of) (defBody s_content_of) (defScope s_content_of) .none kV7 dc7 pm7 an7 cd7 ct7), sl7⟩) (c7 : PySem.W.codeIn K cd7 "content_of" = true) (k7 : PySem.W.keepIn K (.ref f7) = true)
    (a8 : PySem.W.nsIn K mainGlobals "piece_price" = some (some (.ref f8))) (l8 : K.lookup f8 = some ⟨oc8, od8, .func (PySem.W.fnOf "piece_price" "piece_price" (defArgs s_piece_price) (defBody s_piece_price) (defScope s_piece_price) .none kV8 dc8 pm8 an8 cd8 ct8), sl8⟩) (c8 : PySem.W.codeIn K cd8 "piece_price" = true) (k8 : PySem.W.keepIn K (.ref f8) = true)
    (a9 : PySem.W.nsIn K mainGlobals "price_of" = some (some (.ref f9))) (l9 : K.lookup f9 = some ⟨oc9, od9, .func (PySem.W.fnOf "price_of" "price_of" (defArgs s_price_of) (defBody s_price_of) (defScope s_price_of) .none kV9 dc9 pm9 an9 (.ref cT9) ct9), sl9⟩) (c9 : PySem.W.codeIn K (.ref cT9) "price_of" = true) (k9 : PySem.W.keepIn K (.ref f9) = true)
    (a10 : PySem.W.nsIn K mainGlobals "bought" = some (some (.ref f10))) (l10 : K.lookup f10 = some ⟨oc10, od10, .func (PySem.W.fnOf "bought" "bought" (defArgs s_bought) (defBody s_bought) (defScope s_bought) .none kV10 dc10 pm10 an10 cd10 ct10), sl10⟩) (c10 : PySem.W.codeIn K cd10 "bought" = true) (k10 : PySem.W.keepIn K (.ref f10) = true)
    (a11 : PySem.W.nsIn K mainGlobals "_law_draws" = some (some (.ref f11))) (l11 : K.lookup f11 = some ⟨oc11, od11, .func (PySem.W.fnOf "_law_draws" "_law_draws" (defArgs s_law_draws) (defBody s_law_draws) (defScope s_law_draws) .none kV11 dc11 pm11 an11 cd11 ct11), sl11⟩) (c11 : PySem.W.codeIn K cd11 "_law_draws" = true) (k11 : PySem.W.keepIn K (.ref f11) = true)
    (a12 : PySem.W.nsIn K mainGlobals "_law_pop" = some (some (.ref f12))) (l12 : K.lookup f12 = some ⟨oc12, od12, .func (PySem.W.fnOf "_law_pop" "_law_pop" (defArgs s_law_pop) (defBody s_law_pop) (defScope s_law_pop) .none kV12 dc12 pm12 an12 cd12 ct12), sl12⟩) (c12 : PySem.W.codeIn K cd12 "_law_pop" = true) (k12 : PySem.W.keepIn K (.ref f12) = true)
    (a13 : PySem.W.nsIn K mainGlobals "_law_whole" = some (some (.ref f13))) (l13 : K.lookup f13 = some ⟨oc13, od13, .func (PySem.W.fnOf "_law_whole" "_law_whole" (defArgs s_law_whole) (defBody s_law_whole) (defScope s_law_whole) .none kV13 dc13 pm13 an13 cd13 ct13), sl13⟩) (c13 : PySem.W.codeIn K cd13 "_law_whole" = true) (k13 : PySem.W.keepIn K (.ref f13) = true)
    (a14 : PySem.W.nsIn K mainGlobals "_law_numbers" = some (some (.ref f14))) (l14 : K.lookup f14 = some ⟨oc14, od14, .func (PySem.W.fnOf "_law_numbers" "_law_numbers" (defArgs s_law_numbers) (defBody s_law_numbers) (defScope s_law_numbers) .none kV14 dc14 pm14 an14 cd14 ct14), sl14⟩) (c14 : PySem.W.codeIn K cd14 "_law_numbers" = true) (k14 : PySem.W.keepIn K (.ref f14) = true)
    (a15 : PySem.W.nsIn K mainGlobals "_law_want" = some (some (.ref f15))) (l15 : K.lookup f15 = some ⟨oc15, od15, .func (PySem.W.fnOf "_law_want" "_law_want" (defArgs s_law_want) (defBody s_law_want) (defScope s_law_want) .none kV15 dc15 pm15 an15 cd15 ct15), sl15⟩) (c15 : PySem.W.codeIn K cd15 "_law_want" = true) (k15 : PySem.W.keepIn K (.ref f15) = true)
    (a16 : PySem.W.nsIn K mainGlobals "_law_cases" = some (some (.ref f16))) (l16 : K.lookup f16 = some ⟨oc16, od16, .func (PySem.W.fnOf "_law_cases" "_law_cases" (defArgs s_law_cases) (defBody s_law_cases) (defScope s_law_cases) .none kV16 dc16 pm16 an16 cd16 ct16), sl16⟩) (c16 : PySem.W.codeIn K cd16 "_law_cases" = true) (k16 : PySem.W.keepIn K (.ref f16) = true)
    (a17 : PySem.W.nsIn K mainGlobals "_law_content" = some (some (.ref f17))) (l17 : K.lookup f17 = some ⟨oc17, od17, .func (PySem.W.fnOf "_law_content" "_law_content" (defArgs s_law_content) (defBody s_law_content) (defScope s_law_content) .none kV17 dc17 pm17 an17 cd17 ct17), sl17⟩) (c17 : PySem.W.codeIn K cd17 "_law_content" = true) (k17 : PySem.W.keepIn K (.ref f17) = true)
    (a18 : PySem.W.nsIn K mainGlobals "_law_price" = some (some (.ref f18))) (l18 : K.lookup f18 = some ⟨oc18, od18, .func (PySem.W.fnOf "_law_price" "_law_price" (defArgs s_law_price) (defBody s_law_price) (defScope s_law_price) .none kV18 dc18 pm18 an18 cd18 ct18), sl18⟩) (c18 : PySem.W.codeIn K cd18 "_law_price" = true) (k18 : PySem.W.keepIn K (.ref f18) = true)
    (a19 : PySem.W.nsIn K mainGlobals "_law_tiers" = some (some (.ref f19))) (l19 : K.lookup f19 = some ⟨oc19, od19, .func (PySem.W.fnOf "_law_tiers" "_law_tiers" (defArgs s_law_tiers) (defBody s_law_tiers) (defScope s_law_tiers) .none kV19 dc19 pm19 an19 cd19 ct19), sl19⟩) (c19 : PySem.W.codeIn K cd19 "_law_tiers" = true) (k19 : PySem.W.keepIn K (.ref f19) = true)
    (a20 : PySem.W.nsIn K mainGlobals "_law_shop" = some (some (.ref f20))) (l20 : K.lookup f20 = some ⟨oc20, od20, .func (PySem.W.fnOf "_law_shop" "_law_shop" (defArgs s_law_shop) (defBody s_law_shop) (defScope s_law_shop) .none kV20 dc20 pm20 an20 cd20 ct20), sl20⟩) (c20 : PySem.W.codeIn K cd20 "_law_shop" = true) (k20 : PySem.W.keepIn K (.ref f20) = true)
    (a21 : PySem.W.nsIn K mainGlobals "_law_copied" = some (some (.ref f21))) (l21 : K.lookup f21 = some ⟨oc21, od21, .func (PySem.W.fnOf "_law_copied" "_law_copied" (defArgs s_law_copied) (defBody s_law_copied) (defScope s_law_copied) .none kV21 dc21 pm21 an21 cd21 ct21), sl21⟩) (c21 : PySem.W.codeIn K cd21 "_law_copied" = true) (k21 : PySem.W.keepIn K (.ref f21) = true)
    (a22 : PySem.W.nsIn K mainGlobals "_law_subsets" = some (some (.ref f22))) (l22 : K.lookup f22 = some ⟨oc22, od22, .func (PySem.W.fnOf "_law_subsets" "_law_subsets" (defArgs s_law_subsets) (defBody s_law_subsets) (defScope s_law_subsets) .none kV22 dc22 pm22 an22 cd22 ct22), sl22⟩) (c22 : PySem.W.codeIn K cd22 "_law_subsets" = true) (k22 : PySem.W.keepIn K (.ref f22) = true)
    (a23 : PySem.W.nsIn K mainGlobals "_law_lines" = some (some (.ref f23))) (l23 : K.lookup f23 = some ⟨oc23, od23, .func (PySem.W.fnOf "_law_lines" "_law_lines" (defArgs s_law_lines) (defBody s_law_lines) (defScope s_law_lines) .none kV23 dc23 pm23 an23 cd23 ct23), sl23⟩) (c23 : PySem.W.codeIn K cd23 "_law_lines" = true) (k23 : PySem.W.keepIn K (.ref f23) = true)
    (a24 : PySem.W.nsIn K mainGlobals "_law_sum" = some (some (.ref f24))) (l24 : K.lookup f24 = some ⟨oc24, od24, .func (PySem.W.fnOf "_law_sum" "_law_sum" (defArgs s_law_sum) (defBody s_law_sum) (defScope s_law_sum) .none kV24 dc24 pm24 an24 cd24 ct24), sl24⟩) (c24 : PySem.W.codeIn K cd24 "_law_sum" = true) (k24 : PySem.W.keepIn K (.ref f24) = true)
    (a25 : PySem.W.nsIn K mainGlobals "_law_line_content" = some (some (.ref f25))) (l25 : K.lookup f25 = some ⟨oc25, od25, .func (PySem.W.fnOf "_law_line_content" "_law_line_content" (defArgs s_law_line_content) (defBody s_law_line_content) (defScope s_law_line_content) .none kV25 dc25 pm25 an25 cd25 ct25), sl25⟩) (c25 : PySem.W.codeIn K cd25 "_law_line_content" = true) (k25 : PySem.W.keepIn K (.ref f25) = true)
    (a26 : PySem.W.nsIn K mainGlobals "_law_line_price" = some (some (.ref f26))) (l26 : K.lookup f26 = some ⟨oc26, od26, .func (PySem.W.fnOf "_law_line_price" "_law_line_price" (defArgs s_law_line_price) (defBody s_law_line_price) (defScope s_law_line_price) .none kV26 dc26 pm26 an26 cd26 ct26), sl26⟩) (c26 : PySem.W.codeIn K cd26 "_law_line_price" = true) (k26 : PySem.W.keepIn K (.ref f26) = true)
    (a27 : PySem.W.nsIn K mainGlobals "_law_due" = some (some (.ref f27))) (l27 : K.lookup f27 = some ⟨oc27, od27, .func (PySem.W.fnOf "_law_due" "_law_due" (defArgs s_law_due) (defBody s_law_due) (defScope s_law_due) .none kV27 dc27 pm27 an27 cd27 ct27), sl27⟩) (c27 : PySem.W.codeIn K cd27 "_law_due" = true) (k27 : PySem.W.keepIn K (.ref f27) = true)
    (lc3 : K.lookup cT3 = some ⟨eT3, dT3, .fields vT3, sT3⟩) (hv3 : vT3[11]? = some (.ref PT3)) (nt3 : (K.lookup PT3).isNone = true) (rc3 : ((recsOf q).find? fun e => e.name == ("good_tiers" : Str)).isSome = true)
    (lc9 : K.lookup cT9 = some ⟨eT9, dT9, .fields vT9, sT9⟩) (hv9 : vT9[11]? = some (.ref PT9)) (nt9 : (K.lookup PT9).isNone = true) (rc9 : ((recsOf q).find? fun e => e.name == ("price_of" : Str)).isSome = true)
    (z1 : PySem.W.nsIn K mainGlobals "len" = some none)
    (z2 : PySem.W.nsIn K mainGlobals "range" = some none)
    (z3 : PySem.W.nsIn K mainGlobals "max" = some none)
    (z4 : PySem.W.nsIn K mainGlobals "list" = some none)
    (z5 : PySem.W.nsIn K mainGlobals "isinstance" = some none)
    (z6 : PySem.W.nsIn K mainGlobals "int" = some none)
    (z7 : PySem.W.nsIn K mainGlobals "bool" = some none)
    (z8 : PySem.W.nsIn K mainGlobals "enumerate" = some none)
    (z9 : PySem.W.nsIn K mainGlobals "all" = some none)
    (z10 : PySem.W.nsIn K mainGlobals "zip" = some none)
    (z11 : PySem.W.nsIn K mainGlobals "reversed" = some none)
    (z12 : PySem.W.nsIn K mainGlobals "sum" = some none)
    (z13 : PySem.W.nsIn K mainGlobals "sorted" = some none)
    (z14 : PySem.W.nsIn K mainGlobals "tuple" = some none)
    {tk1 : Tok} (q1 : PySem.W.nsIn K mainGlobals "MOST_TIERS" = some (some (.int 4 tk1)))
    {tk2 : Tok} (q2 : PySem.W.nsIn K mainGlobals "MOST_PIECES" = some (some (.int 12 tk2)))
    : LamX.LawAtS l w K CX0 6 63 "_law_script" mg fa h := by
  have e := hfa.symm.trans (PySem.W.mg_of X G a1)
  cases e
  have F1 := fun_mk (st := s_law) l1 c1 k1
  have b1 := F1.binds (ps := ["_law_script"]) fun _ _ _ _ _ _ us hl => match us, hl with | [_], _ => rfl
  have F2 := fun_mk (st := s_names_pack) l2 c2 k2
  have b2 := F2.binds (ps := ["shop", "at"]) fun _ _ _ _ _ _ us hl => match us, hl with | [_, _], _ => rfl
  have F3 := fun_mk (st := s_good_tiers) l3 c3 k3
  have b3 := F3.binds (ps := ["tiers"]) fun _ _ _ _ _ _ us hl => match us, hl with | [_], _ => rfl
  have F4 := fun_mk (st := s_can_stand) l4 c4 k4
  have b4 := F4.binds (ps := ["shop", "at"]) fun _ _ _ _ _ _ us hl => match us, hl with | [_, _], _ => rfl
  have F5 := fun_mk (st := s_look) l5 c5 k5
  have b5 := F5.binds (ps := ["shop"]) fun _ _ _ _ _ _ us hl => match us, hl with | [_], _ => rfl
  have F6 := fun_mk (st := s_together) l6 c6 k6
  have b6 := F6.binds (ps := ["content", "other"]) fun _ _ _ _ _ _ us hl => match us, hl with | [_, _], _ => rfl
  have F7 := fun_mk (st := s_content_of) l7 c7 k7
  have b7 := F7.binds (ps := ["shop", "line"]) fun _ _ _ _ _ _ us hl => match us, hl with | [_, _], _ => rfl
  have F8 := fun_mk (st := s_piece_price) l8 c8 k8
  have b8 := F8.binds (ps := ["tiers", "count"]) fun _ _ _ _ _ _ us hl => match us, hl with | [_, _], _ => rfl
  have F9 := fun_mk (st := s_price_of) l9 c9 k9
  have b9 := F9.binds (ps := ["shop", "line"]) fun _ _ _ _ _ _ us hl => match us, hl with | [_, _], _ => rfl
  have F10 := fun_mk (st := s_bought) l10 c10 k10
  have b10 := F10.binds (ps := ["shop", "purchase"]) fun _ _ _ _ _ _ us hl => match us, hl with | [_, _], _ => rfl
  have F11 := fun_mk (st := s_law_draws) l11 c11 k11
  have b11 := F11.binds (ps := ["_law_script", "_law_turn", "_law_many"]) fun _ _ _ _ _ _ us hl => match us, hl with | [_, _, _], _ => rfl
  have F12 := fun_mk (st := s_law_pop) l12 c12 k12
  have b12 := F12.binds (ps := ["_law_draws_here"]) fun _ _ _ _ _ _ us hl => match us, hl with | [_], _ => rfl
  have F13 := fun_mk (st := s_law_whole) l13 c13 k13
  have b13 := F13.binds (ps := ["_law_found"]) fun _ _ _ _ _ _ us hl => match us, hl with | [_], _ => rfl
  have F14 := fun_mk (st := s_law_numbers) l14 c14 k14
  have b14 := F14.binds (ps := ["_law_found", "_law_due_here"]) fun _ _ _ _ _ _ us hl => match us, hl with | [_, _], _ => rfl
  have F15 := fun_mk (st := s_law_want) l15 c15 k15
  have b15 := F15.binds (ps := ["_law_draws_here", "_law_many"]) fun _ _ _ _ _ _ us hl => match us, hl with | [_, _], _ => rfl
  have F16 := fun_mk (st := s_law_cases) l16 c16 k16
  have b16 := F16.binds (ps := ["_law_want_here"]) fun _ _ _ _ _ _ us hl => match us, hl with | [_], _ => rfl
  have F17 := fun_mk (st := s_law_content) l17 c17 k17
  have b17 := F17.binds (ps := ["_law_draws_here", "_law_many"]) fun _ _ _ _ _ _ us hl => match us, hl with | [_, _], _ => rfl
  have F18 := fun_mk (st := s_law_price) l18 c18 k18
  have b18 := F18.binds (ps := ["_law_draws_here"]) fun _ _ _ _ _ _ us hl => match us, hl with | [_], _ => rfl
  have F19 := fun_mk (st := s_law_tiers) l19 c19 k19
  have b19 := F19.binds (ps := ["_law_draws_here"]) fun _ _ _ _ _ _ us hl => match us, hl with | [_], _ => rfl
  have F20 := fun_mk (st := s_law_shop) l20 c20 k20
  have b20 := F20.binds (ps := ["_law_draws_here", "_law_many", "_law_most"]) fun _ _ _ _ _ _ us hl => match us, hl with | [_, _, _], _ => rfl
  have F21 := fun_mk (st := s_law_copied) l21 c21 k21
  have b21 := F21.binds (ps := ["_law_shop_here"]) fun _ _ _ _ _ _ us hl => match us, hl with | [_], _ => rfl
  have F22 := fun_mk (st := s_law_subsets) l22 c22 k22
  have b22 := F22.binds (ps := ["_law_places"]) fun _ _ _ _ _ _ us hl => match us, hl with | [_], _ => rfl
  have F23 := fun_mk (st := s_law_lines) l23 c23 k23
  have b23 := F23.binds (ps := ["_law_shop_here"]) fun _ _ _ _ _ _ us hl => match us, hl with | [_], _ => rfl
  have F24 := fun_mk (st := s_law_sum) l24 c24 k24
  have b24 := F24.binds (ps := ["_law_one", "_law_other"]) fun _ _ _ _ _ _ us hl => match us, hl with | [_, _], _ => rfl
  have F25 := fun_mk (st := s_law_line_content) l25 c25 k25
  have b25 := F25.binds (ps := ["_law_shop_here", "_law_line"]) fun _ _ _ _ _ _ us hl => match us, hl with | [_, _], _ => rfl
  have F26 := fun_mk (st := s_law_line_price) l26 c26 k26
  have b26 := F26.binds (ps := ["_law_shop_here", "_law_line"]) fun _ _ _ _ _ _ us hl => match us, hl with | [_, _], _ => rfl
  have F27 := fun_mk (st := s_law_due) l27 c27 k27
  have b27 := F27.binds (ps := ["_law_shop_here", "_law_some"]) fun _ _ _ _ _ _ us hl => match us, hl with | [_, _], _ => rfl
  have M : Names mg := ⟨PySem.W.mg_none_of X G z1, PySem.W.mg_none_of X G z2, PySem.W.mg_none_of X G z3, PySem.W.mg_none_of X G z4, PySem.W.mg_none_of X G z5, PySem.W.mg_none_of X G z6, PySem.W.mg_none_of X G z7, PySem.W.mg_none_of X G z8, PySem.W.mg_none_of X G z9, PySem.W.mg_none_of X G z10, PySem.W.mg_none_of X G z11, PySem.W.mg_none_of X G z12, PySem.W.mg_none_of X G z13, PySem.W.mg_none_of X G z14, ⟨_, PySem.W.mg_of X G q1⟩, ⟨_, PySem.W.mg_of X G q2⟩⟩
  obtain ⟨hd3, ht3⟩ := tabs "good_tiers" cT3 PT3 rc3 (tabIn_of a3 l3 rfl lc3 hv3)
  obtain ⟨hd9, ht9⟩ := tabs "price_of" cT9 PT9 rc9 (tabIn_of a9 l9 rfl lc9 hv9)
  refine ⟨PySem.W.fnOf "law" "law" (defArgs s_law) (defBody s_law) (defScope s_law) .none kV1 dc1 pm1 an1 cd1 ct1, [(cT3, PT3), (cT9, PT9)], sp_law K PT3 PT9, ?hT, ?nT, ?hC, fun s v => .of_eq rfl, fun H a ns hl _ hT hS => ⟨a, ns, rfl, hS, hl, ⟨#[], hT (cT3, PT3) List.mem_cons_self, True.intro⟩, ⟨#[], hT (cT9, PT9) (List.mem_cons_of_mem _ List.mem_cons_self), True.intro⟩, fun _ => rfl⟩, fun base _ _ hB => ?_⟩
  case hT =>
    exact fun p hp => by
      rcases List.mem_cons.mp hp with rfl | hp
      · exact ht3
      rcases List.mem_cons.mp hp with rfl | hp
      · exact ht9
      cases hp
  case nT =>
    exact fun p hp => by
      rcases List.mem_cons.mp hp with rfl | hp
      · exact Option.isNone_iff_eq_none.mp nt3
      rcases List.mem_cons.mp hp with rfl | hp
      · exact Option.isNone_iff_eq_none.mp nt9
      cases hp
  case hC =>
    exact fun p hp => by
      rcases List.mem_cons.mp hp with rfl | hp
      · exact hd3
      rcases List.mem_cons.mp hp with rfl | hp
      · exact hd9
      cases hp
  have T3 := hB (cT3, PT3) List.mem_cons_self
  have T9 := hB (cT9, PT9) (List.mem_cons_of_mem _ List.mem_cons_self)
  exact ok_law M ⟨F1, PySem.W.mg_of X G a1, b1⟩ ⟨F2, PySem.W.mg_of X G a2, b2⟩ ⟨F3, PySem.W.mg_of X G a3, b3⟩ ⟨F4, PySem.W.mg_of X G a4, b4⟩ ⟨F5, PySem.W.mg_of X G a5, b5⟩ ⟨F6, PySem.W.mg_of X G a6, b6⟩ ⟨F7, PySem.W.mg_of X G a7, b7⟩ ⟨F8, PySem.W.mg_of X G a8, b8⟩ ⟨F9, PySem.W.mg_of X G a9, b9⟩ ⟨F10, PySem.W.mg_of X G a10, b10⟩ ⟨F11, PySem.W.mg_of X G a11, b11⟩ ⟨F12, PySem.W.mg_of X G a12, b12⟩ ⟨F13, PySem.W.mg_of X G a13, b13⟩ ⟨F14, PySem.W.mg_of X G a14, b14⟩ ⟨F15, PySem.W.mg_of X G a15, b15⟩ ⟨F16, PySem.W.mg_of X G a16, b16⟩ ⟨F17, PySem.W.mg_of X G a17, b17⟩ ⟨F18, PySem.W.mg_of X G a18, b18⟩ ⟨F19, PySem.W.mg_of X G a19, b19⟩ ⟨F20, PySem.W.mg_of X G a20, b20⟩ ⟨F21, PySem.W.mg_of X G a21, b21⟩ ⟨F22, PySem.W.mg_of X G a22, b22⟩ ⟨F23, PySem.W.mg_of X G a23, b23⟩ ⟨F24, PySem.W.mg_of X G a24, b24⟩ ⟨F25, PySem.W.mg_of X G a25, b25⟩ ⟨F26, PySem.W.mg_of X G a26, b26⟩ ⟨F27, PySem.W.mg_of X G a27, b27⟩ rfl ⟨T3.code, T3.bm, T3.gP⟩ rfl ⟨T9.code, T9.bm, T9.gP⟩
end Pk
open PySem PySem.W PyProof.Rows
set_option maxHeartbeats 0 in
theorem PySem.Challenge.cw_packwants_k07_purchases_holds : PySem.Challenge.rw_packwants_k07_purchases.Holds := by
  w_on; o_law; k_head; (case hw => w_witness2)
  k_fill
  refine Pk.walk_ofG (l := PySem.Challenge.rw_packwants_k07_purchases) (n := 63) (k := 6) (x := "_law_script") (CX := fun _ => L2.CX0) rfl (by decide) rfl ⟨rfl, by decide, by decide⟩ (fun w h Y => PySem.W.kIn_of Y) ?F (fun _ _ _ _ _ h => h)
  case F =>
    intro w mg fa h KX G hmg tabs
    refine' Pk.all_mk KX G hmg tabs ?a1 ?l1 ?c1 ?k1 ?a2 ?l2 ?c2 ?k2 ?a3 ?l3 ?c3 ?k3 ?a4 ?l4 ?c4 ?k4 ?a5 ?l5 ?c5 ?k5 ?a6 ?l6 ?c6 ?k6 ?a7 ?l7 ?c7 ?k7 ?a8 ?l8 ?c8 ?k8 ?a9 ?l9 ?c9 ?k9 ?a10 ?l10 ?c10 ?k10 ?a11 ?l11 ?c11 ?k11 ?a12 ?l12 ?c12 ?k12 ?a13 ?l13 ?c13 ?k13 ?a14 ?l14 ?c14 ?k14 ?a15 ?l15 ?c15 ?k15 ?a16 ?l16 ?c16 ?k16 ?a17 ?l17 ?c17 ?k17 ?a18 ?l18 ?c18 ?k18 ?a19 ?l19 ?c19 ?k19 ?a20 ?l20 ?c20 ?k20 ?a21 ?l21 ?c21 ?k21 ?a22 ?l22 ?c22 ?k22 ?a23 ?l23 ?c23 ?k23 ?a24 ?l24 ?c24 ?k24 ?a25 ?l25 ?c25 ?k25 ?a26 ?l26 ?c26 ?k26 ?a27 ?l27 ?c27 ?k27 ?lc3 ?hv3 ?nt3 ?rc3 ?lc9 ?hv9 ?nt9 ?rc9 ?z1 ?z2 ?z3 ?z4 ?z5 ?z6 ?z7 ?z8 ?z9 ?z10 ?z11 ?z12 ?z13 ?z14 ?q1 ?q2
    (case a1 => k_is); (case l1 => k_is); (case c1 => k_is); (case k1 => k_is); (case a2 => k_is); (case l2 => k_is); (case c2 => k_is); (case k2 => k_is); (case a3 => k_is); (case l3 => k_is); (case c3 => k_is); (case k3 => k_is); (case a4 => k_is); (case l4 => k_is); (case c4 => k_is); (case k4 => k_is); (case a5 => k_is); (case l5 => k_is); (case c5 => k_is); (case k5 => k_is); (case a6 => k_is); (case l6 => k_is); (case c6 => k_is); (case k6 => k_is); (case a7 => k_is); (case l7 => k_is); (case c7 => k_is); (case k7 => k_is); (case a8 => k_is); (case l8 => k_is); (case c8 => k_is); (case k8 => k_is); (case a9 => k_is); (case l9 => k_is); (case c9 => k_is); (case k9 => k_is); (case a10 => k_is); (case l10 => k_is); (case c10 => k_is); (case k10 => k_is); (case a11 => k_is); (case l11 => k_is); (case c11 => k_is); (case k11 => k_is); (case a12 => k_is); (case l12 => k_is); (case c12 => k_is); (case k12 => k_is); (case a13 => k_is); (case l13 => k_is); (case c13 => k_is); (case k13 => k_is); (case a14 => k_is); (case l14 => k_is); (case c14 => k_is); (case k14 => k_is); (case a15 => k_is); (case l15 => k_is); (case c15 => k_is); (case k15 => k_is); (case a16 => k_is); (case l16 => k_is); (case c16 => k_is); (case k16 => k_is); (case a17 => k_is); (case l17 => k_is); (case c17 => k_is); (case k17 => k_is); (case a18 => k_is); (case l18 => k_is); (case c18 => k_is); (case k18 => k_is); (case a19 => k_is); (case l19 => k_is); (case c19 => k_is); (case k19 => k_is); (case a20 => k_is); (case l20 => k_is); (case c20 => k_is); (case k20 => k_is); (case a21 => k_is); (case l21 => k_is); (case c21 => k_is); (case k21 => k_is); (case a22 => k_is); (case l22 => k_is); (case c22 => k_is); (case k22 => k_is); (case a23 => k_is); (case l23 => k_is); (case c23 => k_is); (case k23 => k_is); (case a24 => k_is); (case l24 => k_is); (case c24 => k_is); (case k24 => k_is); (case a25 => k_is); (case l25 => k_is); (case c25 => k_is); (case k25 => k_is); (case a26 => k_is); (case l26 => k_is); (case c26 => k_is); (case k26 => k_is); (case a27 => k_is); (case l27 => k_is); (case c27 => k_is); (case k27 => k_is); (case lc3 => k_is); (case hv3 => rfl); (case nt3 => rfl); (case rc3 => rfl); (case lc9 => k_is); (case hv9 => rfl); (case nt9 => rfl); (case rc9 => rfl); (case z1 => k_is); (case z2 => k_is); (case z3 => k_is); (case z4 => k_is); (case z5 => k_is); (case z6 => k_is); (case z7 => k_is); (case z8 => k_is); (case z9 => k_is); (case z10 => k_is); (case z11 => k_is); (case z12 => k_is); (case z13 => k_is); (case z14 => k_is); (case q1 => k_is); (case q2 => k_is)
